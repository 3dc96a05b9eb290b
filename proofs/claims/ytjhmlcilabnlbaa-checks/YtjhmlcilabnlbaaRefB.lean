/- Contracts of the document's answer: hex, escape, small. -/
import Derived.Test.YtjhmlcilabnlbaaRefA
namespace Go.Proofs.Ytjhmlcilabnlbaa
open Go.RowKit

def hexS (k : Nat) : Int := if k < 10 then 48 + (k : Int) else 87 + (k : Int)
theorem hexV_at {k : Nat} (h : k < 16) : P.hexV (hexS k) = k := by
  unfold hexS P.hexV; split <;> (repeat (first | rw [if_pos (by omega)] | rw [if_neg (by omega)])) <;> omega
theorem hexV_none {c : Int} (h : ∀ j, j < 16 → hexS j ≠ c) : P.hexV c < 0 := by
  unfold P.hexV
  by_cases h1 : 48 ≤ c ∧ c ≤ 57
  · exfalso; apply h (c - 48).toNat (by omega); unfold hexS; rw [if_pos (by omega)]; omega
  · rw [if_neg h1]
    by_cases h2 : 97 ≤ c ∧ c ≤ 102
    · exfalso; apply h (c - 87).toNat (by omega); unfold hexS; rw [if_neg (by omega)]; omega
    · rw [if_neg h2]; omega

theorem hexS_lit {j : Nat} (h : j < 16) : (((⟨#[48, 49, 50, 51, 52, 53, 54, 55, 56, 57, 97, 98, 99, 100, 101, 102]⟩ : ByteArray)[j]'h).toNat : Int) = hexS j := by
  have : ∀ k : Fin 16, (((⟨#[48, 49, 50, 51, 52, 53, 54, 55, 56, 57, 97, 98, 99, 100, 101, 102]⟩ : ByteArray)[k.1]'k.2).toNat : Int) = hexS k.1 := by decide
  exact this ⟨j, h⟩

set_option maxHeartbeats 400000 in
theorem hex_any (b : Nat) (s : ByteArray) (i o z : Nat) (B : Int) (w : World) (hs : s.size ≤ 400) (hR : RB w b s i o z B) (hi : i ≤ s.size) (hB : Mark B) :
    Calls Try.prog 41 #[.pointer (some ⟨b, 0, none⟩)] w fun e w' => OutI s b o z i 15 (gate B (P.hex s i)) w e w' := by
  have c0 := hR.c0
  have c1 := hR.c1
  have c4 := hR.c4
  have f1 := hR.fz 1
  by_cases hb : 0 ≤ B
  · go_enter Try.func41, Try.ntmps41
    go_wp2
    go_quiet (fail)
    go_wp2_with (go_at_call 16; refine (wrong_any _ _ _ _ _ _ _ _ (hR.drewN _)).mono ?_; rintro e w' ⟨rfl, hq, ho⟩)
    go_ret
    exact ⟨0, i, _, rfl, hq, ((Only.refl _ _).drewN _).trans ho, by omega, by omega, ⟨Nat.le_refl _, hi⟩, by rw [gate_pos hb, mrk_pos hb]; show _ = _; omega⟩
  · have hB1 : B = -1 := by rcases hB with h | h <;> omega
    subst hB1
    clear hB hb
    by_cases hl : i < s.size
    · have hl' : (i : Int) < (s.size : Int) := by omega
      have hl2 : decide ((s.size : Int) ≤ (i : Int)) = false := by simp; omega
      go_enter Try.func41, Try.ntmps41
      go_wp2
      go_quiet (fail)
      go_wp2
      go_loopw [4] (fun k w' => ∃ j : Nat, j ≤ 16 ∧ k = .int .i64 j ∧ (∀ q, q < j → hexS q ≠ P.bt s i) ∧ ∃ n, w' = w.drewN n) (fun k _ => 16 - (intOf k).toNat)
      case atStart => exact ⟨0, by omega, rfl, by intro q hq; omega, _, rfl⟩
      case round =>
        obtain ⟨j, hj, rfl, hn, nn, rfl⟩ := hrel
        have HN : Hid (∀ q, q < j → hexS q ≠ P.bt s i) := hn
        clear hn
        by_cases hlt : j < 16
        · have hlt' : (j : Int) < 16 := by omega
          have HS : Hid (_) := hexS_lit hlt
          have HB : Hid (_) := bt_lt hl
          cases hE : ((((⟨#[48, 49, 50, 51, 52, 53, 54, 55, 56, 57, 97, 98, 99, 100, 101, 102]⟩ : ByteArray)[j]'hlt).toNat : Int) == ((s[i].toNat : Nat) : Int)) with
          | true =>
            have HV : Hid (P.hexV (P.bt s i) = j) := by
              have h1 := HS.out; have h2 := HB.out; have h3 := eq_of_beq hE
              unfold Hid; rw [h2, ← h3, h1]; exact hexV_at hlt
            go_wp2
            go_quiet (fail)
            go_wp2
            go_ret
            refine ⟨j, i + 1, -1, rfl, (hR.drewN _).set1 (by omega), Only.setCell (p := ⟨b, 1, none⟩) ((Only.refl _ _).drewN _) rfl _, by omega, by omega, ⟨by omega, by omega⟩, ?_⟩
            rw [gate_neg]; unfold P.hex; rw [HV.out, if_neg (by omega)]; exact ⟨rfl, rfl, rfl⟩
          | false =>
            have HV : Hid (hexS j ≠ P.bt s i) := by
              have h1 := HS.out; have h2 := HB.out; have h3 := ne_of_beq_false hE
              unfold Hid; rw [h2, ← h1]; exact h3
            go_wp2
            go_quiet (fail)
            go_wp2
            go_roundw
            case rel => exact ⟨j + 1, by omega, by go_num, by intro q hq; by_cases e : q = j; (subst e; exact HV.out); exact HN.out q (by omega), _, rfl⟩
            case measure => simp [intOf]; omega
        · have HV : Hid (P.hexV (P.bt s i) < 0) := hexV_none (fun q hq => HN.out q (by omega))
          go_wp2_with (go_at_call 16; refine (wrong_any _ _ _ _ _ _ _ _ (hR.drewN _)).mono ?_; rintro e w' ⟨rfl, hq, ho⟩)
          go_ret
          refine ⟨0, i, _, rfl, hq, ((Only.refl _ _).drewN _).trans ho, by omega, by omega, ⟨Nat.le_refl _, hi⟩, ?_⟩
          rw [gate_neg]; unfold P.hex; rw [if_pos HV.out]; rfl
    · have hl2 : (s.size : Int) ≤ (i : Int) := by omega
      go_enter Try.func41, Try.ntmps41
      go_wp2
      go_quiet (fail)
      go_wp2_with (go_at_call 16; refine (wrong_any _ _ _ _ _ _ _ _ (hR.drewN _)).mono ?_; rintro e w' ⟨rfl, hq, ho⟩)
      go_ret
      refine ⟨0, i, _, rfl, hq, ((Only.refl _ _).drewN _).trans ho, by omega, by omega, ⟨Nat.le_refl _, hi⟩, ?_⟩
      rw [gate_neg]; unfold P.hex; rw [bt_ge hl]; rfl

theorem escSet_among (c : Int) : amongI c [110, 115, 116, 120, 92, 46, 91, 93, 40, 41, 42, 43, 63, 124, 45, 94] = P.escSet c := by
  unfold amongI P.escSet
  simp [BEq.comm (a := c), Bool.or_assoc]

theorem esc_bad {s : ByteArray} {i : Nat} (h : P.escSet (P.bt s i) = false) : P.esc s i = .bad i := by unfold P.esc; rw [if_pos h]
theorem esc_n {s : ByteArray} {i : Nat} (h : P.bt s i = 110) : P.esc s i = .ok 10 (i + 1) := by simp [P.esc, h, P.escSet]
theorem esc_t {s : ByteArray} {i : Nat} (h : P.bt s i = 116) : P.esc s i = .ok 9 (i + 1) := by simp [P.esc, h, P.escSet]
theorem esc_s {s : ByteArray} {i : Nat} (h : P.bt s i = 115) : P.esc s i = .ok 32 (i + 1) := by simp [P.esc, h, P.escSet]
theorem esc_else {s : ByteArray} {i : Nat} (h : P.escSet (P.bt s i) = true) (h1 : P.bt s i ≠ 110) (h2 : P.bt s i ≠ 116) (h3 : P.bt s i ≠ 115) (h4 : P.bt s i ≠ 120) : P.esc s i = .ok (P.bt s i) (i + 1) := by
  unfold P.esc; rw [if_neg (by rw [h]; decide), if_neg h1, if_neg h2, if_neg h3, if_neg h4]
theorem esc_x {s : ByteArray} {i i1 i2 : Nat} {v1 v2 B1 B2 : Int} (h : P.bt s i = 120) (h1 : Fits (gate (-1) (P.hex s (i + 1))) v1 i1 B1) (h2 : Fits (gate B1 (P.hex s i1)) v2 i2 B2) : Fits (gate (-1) (P.esc s i)) (16 * v1 + v2) i2 B2 := by
  have e : P.esc s i = (P.hex s (i + 1)).bind fun a j => (P.hex s j).bind fun b k => .ok (16 * a + b) k := by
    unfold P.esc
    rw [if_neg (by rw [h]; decide), if_neg (by omega), if_neg (by omega), if_neg (by omega), if_pos h]
  rw [e]
  refine h1.bind (h2.bind ?_)
  rcases h2.mark with h | h
  · rw [h]; exact Fits.ok _ _
  · exact Fits.past h _ _ _

set_option maxHeartbeats 800000 in
theorem escape_any (b : Nat) (s : ByteArray) (i o z : Nat) (B : Int) (w : World) (hs : s.size ≤ 400) (hR : RB w b s i o z B) (hi : i ≤ s.size) (hB : Mark B) :
    Calls Try.prog 35 #[.pointer (some ⟨b, 0, none⟩)] w fun e w' => OutI s b o z i 255 (gate B (P.esc s i)) w e w' := by
  have c0 := hR.c0
  have c1 := hR.c1
  have c4 := hR.c4
  have f1 := hR.fz 1
  by_cases hb : 0 ≤ B
  · go_enter Try.func35, Try.ntmps35
    go_wp2_with fail
    go_quiet (fail)
    go_wp2_with (go_at_call 16; refine (wrong_any _ _ _ _ _ _ _ _ (hR.drewN _)).mono ?_; rintro e w' ⟨rfl, hq, ho⟩)
    go_ret
    exact ⟨0, i, _, rfl, hq, ((Only.refl _ _).drewN _).trans ho, by omega, by omega, ⟨Nat.le_refl _, hi⟩, by rw [gate_pos hb, mrk_pos hb]; show _ = _; omega⟩
  · have hB1 : B = -1 := by rcases hB with h | h <;> omega
    subst hB1
    clear hB hb
    by_cases hl : i < s.size
    · have hl' : (i : Int) < (s.size : Int) := by omega
      have hl2 : decide ((s.size : Int) ≤ (i : Int)) = false := by simp; omega
      have hr := bt_range s i
      have HB : Hid (_) := bt_lt hl
      have hr0 : 0 ≤ P.bt s i := by rw [HB.out]; omega
      go_enter Try.func35, Try.ntmps35
      go_wp2_with fail
      go_quiet (fail)
      go_wp2_with fail
      go_quiet (fail)
      go_wp2_with fail
      rw [← HB.out]
      generalize hc : P.bt s i = c at *
      have HC : Hid (_) := hc
      clear hc
      refine (among_any c _ _ (by decide) hr0 (by omega)).mono ?_
      rintro e w' ⟨rfl, rfl⟩
      rw [escSet_among]
      have hO : ∀ (n : Nat) (x : Int), Only b w ((w.drewN n).setCell ⟨b, 1, none⟩ (.int .i64 x)) := fun n x => Only.setCell (p := ⟨b, 1, none⟩) ((Only.refl _ _).drewN _) rfl _
      go_wp2_with fail
      · refine (wrong_any _ _ _ _ _ _ _ _ (hR.drewN _)).mono ?_
        rintro e w' ⟨rfl, hq, ho⟩
        go_wp2_with fail
        go_ret
        refine ⟨0, i, _, rfl, hq, ((Only.refl _ _).drewN _).trans ho, by omega, by omega, ⟨Nat.le_refl _, hi⟩, ?_⟩
        rw [gate_neg, esc_bad (by rw [HC.out]; simpa using ‹(!P.escSet c) = true›)]; rfl
      · go_ret
        refine ⟨10, i + 1, -1, rfl, (hR.drewN _).set1 (by omega), hO _ _, by omega, by omega, ⟨by omega, by omega⟩, ?_⟩
        rw [gate_neg, esc_n (by rw [HC.out]; exact eq_of_beq ‹(c == 110) = true›)]; exact ⟨rfl, rfl, rfl⟩
      · go_ret
        refine ⟨9, i + 1, -1, rfl, (hR.drewN _).set1 (by omega), hO _ _, by omega, by omega, ⟨by omega, by omega⟩, ?_⟩
        rw [gate_neg, esc_t (by rw [HC.out]; exact eq_of_beq ‹(c == 116) = true›)]; exact ⟨rfl, rfl, rfl⟩
      · go_ret
        refine ⟨32, i + 1, -1, rfl, (hR.drewN _).set1 (by omega), hO _ _, by omega, by omega, ⟨by omega, by omega⟩, ?_⟩
        rw [gate_neg, esc_s (by rw [HC.out]; exact eq_of_beq ‹(c == 115) = true›)]; exact ⟨rfl, rfl, rfl⟩
      · have hc : Hid (P.bt s i = 120) := by unfold Hid; rw [HC.out]; exact eq_of_beq ‹(c == 120) = true›
        refine (hex_any _ _ (i + 1) _ _ _ _ hs ((hR.drewN _).set1 (by omega)) (by omega) (Or.inl rfl)).mono ?_
        rintro e w1 ⟨v1, i1, B1, rfl, hq1, ho1, hv1, hv1', ⟨hi0, hi1⟩, hf1⟩
        go_wp2_with fail
        refine (hex_any _ _ _ _ _ _ _ hs hq1 hi1 hf1.mark).mono ?_
        rintro e w2 ⟨v2, i2, B2, rfl, hq2, ho2, hv2, hv2', ⟨hi3, hi2⟩, hf2⟩
        go_wp2_with fail
        go_ret
        exact ⟨16 * v1 + v2, i2, B2, rfl, hq2, ((hO _ _).trans ho1).trans ho2, by omega, by omega, ⟨by omega, hi2⟩, esc_x hc.out hf1 hf2⟩
      · go_ret
        refine ⟨c, i + 1, -1, rfl, (hR.drewN _).set1 (by omega), hO _ _, by omega, by omega, ⟨by omega, by omega⟩, ?_⟩
        rw [gate_neg, esc_else (by rw [HC.out]; simp_all) (by rw [HC.out]; exact ne_of_beq_false ‹(c == 110) = false›) (by rw [HC.out]; exact ne_of_beq_false ‹(c == 116) = false›) (by rw [HC.out]; exact ne_of_beq_false ‹(c == 115) = false›) (by rw [HC.out]; exact ne_of_beq_false ‹(c == 120) = false›), HC.out]; exact ⟨rfl, rfl, rfl⟩
    · have hl2 : (s.size : Int) ≤ (i : Int) := by omega
      go_enter Try.func35, Try.ntmps35
      go_wp2_with fail
      go_quiet (fail)
      go_wp2_with (go_at_call 16; refine (wrong_any _ _ _ _ _ _ _ _ (hR.drewN _)).mono ?_; rintro e w' ⟨rfl, hq, ho⟩)
      go_ret
      refine ⟨0, i, _, rfl, hq, ((Only.refl _ _).drewN _).trans ho, by omega, by omega, ⟨Nat.le_refl _, hi⟩, ?_⟩
      rw [gate_neg]; unfold P.esc; rw [bt_ge hl]; rfl
end Go.Proofs.Ytjhmlcilabnlbaa
