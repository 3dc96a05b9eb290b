/- Contracts of the document's answer: wrong, sees, takes, needs, among. -/
import Derived.Test.YtjhmlcilabnlbaaBase
namespace Go.Proofs.Ytjhmlcilabnlbaa
open Go.RowKit

set_option maxHeartbeats 400000 in
theorem wrong_any (p : Int) (b : Nat) (s : ByteArray) (i o z : Nat) (B : Int) (w : World) (hR : RB w b s i o z B) :
    Calls Try.prog 16 #[.pointer (some ⟨b, 0, none⟩), .int .i64 p] w fun e w' => e = .returned (.tuple #[]) ∧ RB w' b s i o z (mrk B p) ∧ Only b w w' := by
  have c4 := hR.c4
  have f4 := hR.fz 4
  by_cases hB : B < 0
  · go_enter Try.func16, Try.ntmps16
    go_wp2
    go_end0
    exact ⟨rfl, by rw [mrk_neg hB]; exact hR.set4 p, Only.setCell (p := ⟨b, 4, none⟩) (Only.refl _ _) rfl _⟩
  · have hB' : decide (B < 0) = false := by simpa using hB
    go_enter Try.func16, Try.ntmps16
    go_wp2
    go_end0
    exact ⟨rfl, by rw [mrk_pos (by omega)]; exact hR, Only.refl _ _⟩

set_option maxHeartbeats 400000 in
theorem sees_any (c : Int) (b : Nat) (s : ByteArray) (i o z : Nat) (B : Int) (w : World) (h : RB w b s i o z B) (hi : i ≤ s.size) (hc0 : 0 ≤ c) (hc : c ≤ 255) :
    Calls Try.prog 29 #[.pointer (some ⟨b, 0, none⟩), .int .u8 c] w fun e w' => e = .returned (.bool (seen B s i c)) ∧ ∃ n, w' = w.drewN n := by
  have c0 := h.c0
  have c1 := h.c1
  have c4 := h.c4
  clear h
  by_cases hB : B < 0
  · by_cases hl : i < s.size
    · have hl' : (i : Int) < (s.size : Int) := by omega
      go_enter Try.func29, Try.ntmps29
      go_wp2
      go_quiet (fail)
      go_wp2
      go_ret
      refine ⟨?_, _, rfl⟩
      unfold seen
      rw [bt_lt hl]
      simp [hB]
    · have hl' : decide ((i : Int) < (s.size : Int)) = false := by simp; omega
      go_enter Try.func29, Try.ntmps29
      go_wp2
      go_quiet (fail)
      go_wp2
      go_ret
      refine ⟨?_, _, rfl⟩
      unfold seen
      rw [bt_ge hl]
      have : ((-1 : Int) == c) = false := by simp; omega
      simp [this]
  · have hB' : decide (B < 0) = false := by simpa using hB
    go_enter Try.func29, Try.ntmps29
    go_wp2
    go_quiet (fail)
    go_wp2
    go_ret
    refine ⟨?_, _, rfl⟩
    unfold seen
    simp [hB']

set_option maxHeartbeats 400000 in
theorem takes_any (c : Int) (b : Nat) (s : ByteArray) (i o z : Nat) (B : Int) (w : World) (hs : s.size ≤ 400) (hR : RB w b s i o z B) (hi : i ≤ s.size) (hc0 : 0 ≤ c) (hc : c ≤ 255) :
    Calls Try.prog 24 #[.pointer (some ⟨b, 0, none⟩), .int .u8 c] w fun e w' => e = .returned (.bool (seen B s i c)) ∧ RB w' b s (stp (seen B s i c) i) o z B ∧ Only b w w' := by
  have c1 := hR.c1
  have f1 := hR.fz 1
  cases hb : seen B s i c with
  | true =>
    have hlt : i < s.size := lt_of_bt (by have := (seen_true hb).2; omega)
    go_enter Try.func24, Try.ntmps24
    go_wp2_with (go_at_call 29; refine (sees_any _ _ _ _ _ _ _ _ hR hi hc0 hc).mono ?_; rintro e w' ⟨rfl, nq, rfl⟩)
    go_ret
    exact ⟨rfl, (hR.drewN nq).set1 (by rw [stp_true]; omega), Only.setCell (p := ⟨b, 1, none⟩) ((Only.refl _ _).drewN _) rfl _⟩
  | false =>
    go_enter Try.func24, Try.ntmps24
    go_wp2_with (go_at_call 29; refine (sees_any _ _ _ _ _ _ _ _ hR hi hc0 hc).mono ?_; rintro e w' ⟨rfl, nq, rfl⟩)
    go_ret
    exact ⟨rfl, hR.drewN nq, (Only.refl _ _).drewN _⟩

set_option maxHeartbeats 400000 in
theorem needs_any (c : Int) (b : Nat) (s : ByteArray) (i o z : Nat) (B : Int) (w : World) (hs : s.size ≤ 400) (hR : RB w b s i o z B) (hi : i ≤ s.size) (hc0 : 0 ≤ c) (hc : c ≤ 255) :
    Calls Try.prog 17 #[.pointer (some ⟨b, 0, none⟩), .int .u8 c] w fun e w' => e = .returned (.tuple #[]) ∧ RB w' b s (stp (seen B s i c) i) o z (need B s i c) ∧ Only b w w' := by
  cases hb : seen B s i c with
  | true =>
    have hn : Hid (need B s i c = B) := by unfold need Hid; rw [hb]; rfl
    go_enter Try.func17, Try.ntmps17
    go_wp2_with (go_at_call 24; refine (takes_any _ _ _ _ _ _ _ _ hs hR hi hc0 hc).mono ?_; rintro e w' ⟨rfl, hq, ho⟩; rw [hb] at hq ⊢)
    go_end0
    exact ⟨rfl, by rw [hn.out]; exact hq, ho⟩
  | false =>
    have hn : Hid (need B s i c = mrk B i) := by unfold need Hid; rw [hb]; rfl
    go_enter Try.func17, Try.ntmps17
    go_wp2_with (first | (go_at_call 24; refine (takes_any _ _ _ _ _ _ _ _ hs hR hi hc0 hc).mono ?_; rintro e w' ⟨rfl, hq, ho⟩; rw [hb, stp_false] at hq; rw [hb]; have k1 := hq.c1) | (go_at_call 16; refine (wrong_any _ _ _ _ _ _ _ _ hq).mono ?_; rintro e w2 ⟨rfl, hq2, ho2⟩))
    go_end0
    exact ⟨rfl, by rw [hn.out]; exact hq2, ho.trans ho2⟩

def amongI (c : Int) (l : List UInt8) : Bool := l.any fun x => (x.toNat : Int) == c
theorem take_snoc (s : ByteArray) (k : Nat) (h : k < s.size) : s.data.toList.take (k + 1) = s.data.toList.take k ++ [s[k]] := by
  rw [List.take_succ_eq_append_getElem (by simpa using h)]; rfl

set_option maxHeartbeats 400000 in
theorem among_any (c : Int) (s : ByteArray) (w : World) (hs : s.size ≤ 400) (_hc0 : 0 ≤ c) (_hc : c ≤ 255) :
    Calls Try.prog 36 #[.int .u8 c, .string s] w fun e w' => e = .returned (.bool (amongI c s.data.toList)) ∧ w' = w := by
  go_enter Try.func36, Try.ntmps36
  go_wp2
  go_loop [5] (fun i => ∃ k : Nat, k ≤ s.size ∧ i = .int .i64 k ∧ amongI c (s.data.toList.take k) = false) (fun i => s.size - (intOf i).toNat)
  case atStart => exact ⟨0, Nat.zero_le _, rfl, rfl⟩
  case round =>
    obtain ⟨k, hk, rfl, hf⟩ := hrel
    by_cases hlt : k < s.size
    · have HF : Hid (amongI c (s.data.toList.take k) = false) := hf
      clear hf
      have hts := take_snoc s k hlt
      have HS : Hid (amongI c (s.data.toList.take (k + 1)) = (((s[k].toNat : Nat) : Int) == c)) := by
        unfold Hid; rw [hts]; unfold amongI; rw [List.any_append]; have := HF.out; unfold amongI at this; rw [this]; simp
      clear hts
      cases he : (((s[k].toNat : Nat) : Int) == c) with
      | true =>
        have HE : Hid (amongI c s.data.toList = true) := by
          have h1 := HS.out; rw [he] at h1
          unfold Hid; unfold amongI at h1 ⊢
          rw [List.any_eq_true] at h1 ⊢
          obtain ⟨x, hx, hx2⟩ := h1
          exact ⟨x, List.mem_of_mem_take hx, hx2⟩
        go_wp2
        go_ret
        exact ⟨ret_bool HE.out.symm, rfl⟩
      | false =>
        go_wp2
        go_round
        case rel => exact ⟨k + 1, by omega, by go_num, by rw [HS.out, he]⟩
        case measure => simp [intOf]; omega
    · have HF : Hid (amongI c s.data.toList = false) := by
        unfold Hid; rw [← hf, List.take_of_length_le (by simp; omega)]
      clear hf
      go_wp2
      go_ret
      exact ⟨ret_bool HF.out.symm, rfl⟩

end Go.Proofs.Ytjhmlcilabnlbaa
