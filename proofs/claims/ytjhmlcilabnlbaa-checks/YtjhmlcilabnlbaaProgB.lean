/- The program: hex, escape, single. -/
import Derived.Test.YtjhmlcilabnlbaaProgA
import Derived.Deep.LoopGhost
import Derived.Test.YtjhmlcilabnlbaaFuel
namespace Go.Proofs.Ytjhmlcilabnlbaa
open Go.RowKit

/-- What a call of the program's reader comes to: the value, the place, and whether it went well. -/
def Fit2 {α : Type} (r : P.PR α) (v : α) (i : Nat) (k : Bool) : Prop :=
  match r with
  | .ok a j => k = true ∧ v = a ∧ i = j
  | .bad p => k = false ∧ i = p
  | .out => False
/-- The same, the reader still standing on the last byte. -/
def FitL {α : Type} (r : P.PR α) (v : α) (i : Nat) (k : Bool) : Prop :=
  match r with
  | .ok a j => k = true ∧ v = a ∧ i + 1 = j
  | .bad p => k = false ∧ i = p
  | .out => False

theorem hexV_pk (s : ByteArray) (i : Nat) : P.hexV (pk s i) = P.hexV (P.bt s i) := by
  unfold pk
  split
  · rename_i h
    have := bt_range s i
    rw [show P.bt s i = -1 from by omega]; rfl
  · rfl
theorem hexV_le (c : Int) : -1 ≤ P.hexV c ∧ P.hexV c ≤ 15 := by
  unfold P.hexV; split
  · omega
  · split <;> omega
theorem hexV_size {s : ByteArray} {i : Nat} (h : ¬ P.hexV (P.bt s i) < 0) : i < s.size := by
  apply lt_of_bt
  unfold P.hexV at h
  split at h
  · omega
  · split at h <;> omega

/-- Two digits. -/
def two (s : ByteArray) (i : Nat) : P.PR Int := (P.hex s i).bind fun a j => (P.hex s j).bind fun b q => .ok (16 * a + b) q
theorem two_first {s : ByteArray} {i : Nat} (h : P.hexV (P.bt s i) < 0) : two s i = .bad i := by unfold two P.hex; rw [if_pos h]; rfl
theorem two_second {s : ByteArray} {i : Nat} (h : ¬ P.hexV (P.bt s i) < 0) (h2 : P.hexV (P.bt s (i + 1)) < 0) : two s i = .bad (i + 1) := by
  unfold two P.hex; rw [if_neg h]
  show ((if P.hexV (P.bt s (i + 1)) < 0 then (.bad (i + 1) : P.PR Int) else .ok (P.hexV (P.bt s (i + 1))) (i + 1 + 1)).bind _) = _
  rw [if_pos h2]; rfl
theorem two_both {s : ByteArray} {i : Nat} (h : ¬ P.hexV (P.bt s i) < 0) (h2 : ¬ P.hexV (P.bt s (i + 1)) < 0) : two s i = .ok (16 * P.hexV (P.bt s i) + P.hexV (P.bt s (i + 1))) (i + 2) := by
  unfold two P.hex; rw [if_neg h]
  show ((if P.hexV (P.bt s (i + 1)) < 0 then (.bad (i + 1) : P.PR Int) else .ok (P.hexV (P.bt s (i + 1))) (i + 1 + 1)).bind _) = _
  rw [if_neg h2]; rfl

def OutB (s : ByteArray) (b o : Nat) (F : Int → Nat → Bool → Prop) (w : World) (e : Ending) (w' : World) : Prop :=
  ∃ (v : Int) (i' : Nat) (k : Bool), e = .returned (.tuple #[.int .u8 v, .bool k]) ∧ QB w' b s i' o ∧ Only b w w' ∧ 0 ≤ v ∧ v ≤ 255 ∧ i' ≤ s.size ∧ F v i' k

set_option maxHeartbeats 1000000 in
theorem phex_any (b : Nat) (s : ByteArray) (i o : Nat) (w : World) (hs : s.size ≤ 400) (hR : QB w b s i o) (hi : i < s.size) :
    Calls Try.prog 54 #[.pointer (some ⟨b, 0, none⟩)] w fun e w' => OutB s b o (FitL (two s (i + 1))) w e w' := by
  have hv1 := hexV_le (P.bt s (i + 1))
  have hv2 := hexV_le (P.bt s (i + 2))
  go_enter Try.func54, Try.ntmps54
  go_wp2_with fail
  go_loopg [4, 6] 2 (fun g v n wr => ∃ k : Nat, n = .int .i64 (k : Int) ∧ k + g = 2 ∧ i + k < s.size ∧ QB wr b s (i + k) o ∧ Only b w wr ∧ ((k = 0 ∧ v = .int .i64 0) ∨ (k = 1 ∧ 0 ≤ P.hexV (P.bt s (i + 1)) ∧ v = .int .i64 (P.hexV (P.bt s (i + 1)))) ∨ (k = 2 ∧ 0 ≤ P.hexV (P.bt s (i + 1)) ∧ 0 ≤ P.hexV (P.bt s (i + 2)) ∧ v = .int .i64 (16 * P.hexV (P.bt s (i + 1)) + P.hexV (P.bt s (i + 2))))))
  case atStart => exact ⟨0, rfl, rfl, hi, hR, Only.refl _ _, Or.inl ⟨rfl, rfl⟩⟩
  case round =>
    obtain ⟨k, rfl, hkg, hik, hR2, hO2, hv⟩ := hrel
    have c1 := hR2.c1
    have f1 := hR2.fz 1
    rcases hv with ⟨rfl, rfl⟩ | ⟨rfl, hd1, rfl⟩ | ⟨rfl, hd1, hd2, rfl⟩
    · go_wp2_with fail
      refine (peek_any _ _ (i + 1) _ _ (hR2.set1 (by omega))).mono ?_
      rintro e w3 ⟨rfl, n3, rfl⟩
      have hpr := pk_range s (i + 1)
      go_wp2_with fail
      refine (index_any _ _ _).mono ?_
      rintro e w4 ⟨rfl, rfl⟩
      rw [hex_row hpr.1 hpr.2, hexV_pk]
      have hO3 : Only b w ((wr.setCell ⟨b, 1, none⟩ (.int .i64 ((i : Int) + 1))).drewN n3) := (Only.setCell (p := ⟨b, 1, none⟩) hO2 rfl _).drewN _
      by_cases hd : P.hexV (P.bt s (i + 1)) < 0
      · have HT := hid (two_first hd)
        go_wp2_with fail
        go_ret2
        refine ⟨0, i + 1, false, rfl, (hR2.set1 (by omega)).drewN _, by simpa using hO3, by omega, by omega, by omega, ?_⟩
        rw [HT.out]; exact ⟨rfl, rfl⟩
      · have hlt := hexV_size hd
        have hd' : decide (P.hexV (P.bt s (i + 1)) < 0) = false := by simpa using hd
        have HD := hid hd
        clear hd
        go_wp2_with fail
        go_roundg 1
        case measure => omega
        case rel => exact ⟨1, rfl, rfl, hlt, (hR2.set1 (by omega)).drewN _, by simpa using hO3, Or.inr (Or.inl ⟨rfl, by have := HD.out; omega, rfl⟩)⟩
    · have hpos : 0 ≤ P.hexV (P.bt s (i + 1)) := by omega
      have HD1 := hid hd1
      clear hd1
      go_wp2_with fail
      refine (peek_any _ _ (i + 2) _ _ (hR2.set1 (by omega))).mono ?_
      rintro e w3 ⟨rfl, n3, rfl⟩
      have hpr := pk_range s (i + 2)
      go_wp2_with fail
      refine (index_any _ _ _).mono ?_
      rintro e w4 ⟨rfl, rfl⟩
      rw [hex_row hpr.1 hpr.2, hexV_pk]
      have hO3 : ∀ x : Int, Only b w ((wr.setCell ⟨b, 1, none⟩ (.int .i64 x)).drewN n3) := fun x => (Only.setCell (p := ⟨b, 1, none⟩) hO2 rfl _).drewN _
      by_cases hd : P.hexV (P.bt s (i + 2)) < 0
      · have HT := hid (two_second (by have := HD1.out; omega) hd)
        go_wp2_with fail
        go_ret2
        refine ⟨0, i + 2, false, rfl, (hR2.set1 (by omega)).drewN _, hO3 _, by omega, by omega, by omega, ?_⟩
        rw [HT.out]; exact ⟨rfl, rfl⟩
      · have hlt := hexV_size hd
        have hd' : decide (P.hexV (P.bt s (i + 2)) < 0) = false := by simpa using hd
        have hpos2 : 0 ≤ P.hexV (P.bt s (i + 2)) := by omega
        have HD := hid hd
        clear hd
        go_wp2_with fail
        go_roundg 0
        case measure => omega
        case rel => exact ⟨2, rfl, rfl, hlt, (hR2.set1 (by omega)).drewN _, hO3 _, Or.inr (Or.inr ⟨rfl, hpos, hpos2, by go_num⟩)⟩
    · have HT := hid (two_both (s := s) (i := i + 1) (by omega) (show ¬ P.hexV (P.bt s (i + 2)) < 0 by omega))
      have hp1 : 0 ≤ P.hexV (P.bt s (i + 1)) := by omega
      have hp2 : 0 ≤ P.hexV (P.bt s (i + 2)) := by omega
      clear hd1 hd2
      go_wp2_with fail
      go_ret2
      refine ⟨16 * P.hexV (P.bt s (i + 1)) + P.hexV (P.bt s (i + 2)), i + 2, true, rfl, hR2, hO2, by omega, by omega, by omega, ?_⟩
      rw [HT.out]; exact ⟨rfl, rfl, rfl⟩

/-- A single one: an escape, or a byte that stands for itself. -/
def singleP (sp : ByteArray) (s : ByteArray) (i : Nat) : P.PR Int :=
  if P.bt s i = 92 then P.esc s (i + 1) else if plainS sp (pk s i) then .ok (P.bt s i) (i + 1) else .bad i

theorem esc_two {s : ByteArray} {i : Nat} (h : P.bt s i = 120) : P.esc s i = two s (i + 1) := by
  unfold P.esc two
  rw [if_neg (by rw [h]; decide), if_neg (by omega), if_neg (by omega), if_neg (by omega), if_pos h]
theorem escB_n {s : ByteArray} {i : Nat} (h : P.bt s i = 110) : P.esc s i = .ok 10 (i + 1) := by simp [P.esc, h, P.escSet]
theorem escB_t {s : ByteArray} {i : Nat} (h : P.bt s i = 116) : P.esc s i = .ok 9 (i + 1) := by simp [P.esc, h, P.escSet]
theorem escB_s {s : ByteArray} {i : Nat} (h : P.bt s i = 115) : P.esc s i = .ok 32 (i + 1) := by simp [P.esc, h, P.escSet]
theorem escB_else {s : ByteArray} {i : Nat} (h1 : P.bt s i ≠ 110) (h2 : P.bt s i ≠ 116) (h3 : P.bt s i ≠ 115) (h4 : P.bt s i ≠ 120) : P.esc s i = if escTail (P.bt s i) then .ok (P.bt s i) (i + 1) else .bad i := by
  have e : P.escSet (P.bt s i) = escTail (P.bt s i) := by
    unfold P.escSet escTail
    rw [show (P.bt s i == 110) = false from beq_false_of_ne h1, show (P.bt s i == 116) = false from beq_false_of_ne h2, show (P.bt s i == 115) = false from beq_false_of_ne h3, show (P.bt s i == 120) = false from beq_false_of_ne h4]
    simp
  unfold P.esc
  rw [e]
  cases ht : escTail (P.bt s i) with
  | false => rfl
  | true => rw [if_neg (by decide), if_neg h1, if_neg h2, if_neg h3, if_neg h4]; rfl

set_option maxHeartbeats 1000000 in
theorem pescape_any (b : Nat) (s : ByteArray) (i o : Nat) (w : World) (hs : s.size ≤ 400) (hR : QB w b s i o) (hi : i < s.size) :
    Calls Try.prog 52 #[.pointer (some ⟨b, 0, none⟩)] w fun e w' => OutB s b o (FitL (P.esc s (i + 1))) w e w' := by
  have c1 := hR.c1
  have f1 := hR.fz 1
  have hpr := pk_range s (i + 1)
  have e1 := hid (pk_eq (s := s) (i := i + 1) (c := 110) (by omega))
  have e2 := hid (pk_eq (s := s) (i := i + 1) (c := 116) (by omega))
  have e3 := hid (pk_eq (s := s) (i := i + 1) (c := 115) (by omega))
  have e4 := hid (pk_eq (s := s) (i := i + 1) (c := 120) (by omega))
  have hO : ∀ (x : Int) (n : Nat), Only b w ((w.setCell ⟨b, 1, none⟩ (.int .i64 x)).drewN n) := fun x n => (Only.setCell (p := ⟨b, 1, none⟩) (Only.refl _ _) rfl _).drewN _
  go_enter Try.func52, Try.ntmps52
  go_wp2_with fail
  refine (peek_any _ _ (i + 1) _ _ (hR.set1 (by omega))).mono ?_
  rintro e w3 ⟨rfl, n3, rfl⟩
  have HQ := hid ((hR.set1 (x := (i : Int) + 1) (j := i + 1) (by omega)).drewN n3)
  go_wp2_with fail
  · go_ret2
    refine ⟨10, i + 1, true, rfl, HQ.out, hO _ _, by omega, by omega, by omega, ?_⟩
    rw [escB_n (eq_of_beq (by rw [← e1.out]; exact ‹(pk s (i + 1) == 110) = true›))]; exact ⟨rfl, rfl, rfl⟩
  · go_ret2
    refine ⟨9, i + 1, true, rfl, HQ.out, hO _ _, by omega, by omega, by omega, ?_⟩
    rw [escB_t (eq_of_beq (by rw [← e2.out]; exact ‹(pk s (i + 1) == 116) = true›))]; exact ⟨rfl, rfl, rfl⟩
  · go_ret2
    refine ⟨32, i + 1, true, rfl, HQ.out, hO _ _, by omega, by omega, by omega, ?_⟩
    rw [escB_s (eq_of_beq (by rw [← e3.out]; exact ‹(pk s (i + 1) == 115) = true›))]; exact ⟨rfl, rfl, rfl⟩
  · have h120 : P.bt s (i + 1) = 120 := eq_of_beq (by rw [← e4.out]; exact ‹(pk s (i + 1) == 120) = true›)
    have hlt := lt_of_bt (s := s) (i := i + 1) (by omega)
    have HT := hid (esc_two h120)
    clear h120
    refine (phex_any _ _ (i + 1) _ _ hs HQ.out hlt).mono ?_
    rintro e w4 ⟨v, i4, k, rfl, hR4, hO4, hv0, hv1, hi4, hf4⟩
    go_wp2_with fail
    go_ret2
    exact ⟨v, i4, k, rfl, hR4, (hO _ _).trans hO4, hv0, hv1, hi4, by rw [HT.out]; exact hf4⟩
  · have n1 : P.bt s (i + 1) ≠ 110 := ne_of_beq_false (by rw [← e1.out]; exact ‹(pk s (i + 1) == 110) = false›)
    have n2 : P.bt s (i + 1) ≠ 116 := ne_of_beq_false (by rw [← e2.out]; exact ‹(pk s (i + 1) == 116) = false›)
    have n3 : P.bt s (i + 1) ≠ 115 := ne_of_beq_false (by rw [← e3.out]; exact ‹(pk s (i + 1) == 115) = false›)
    have n4 : P.bt s (i + 1) ≠ 120 := ne_of_beq_false (by rw [← e4.out]; exact ‹(pk s (i + 1) == 120) = false›)
    have HT := hid (escB_else n1 n2 n3 n4)
    have HTl : Hid (escTail (pk s (i + 1)) = escTail (P.bt s (i + 1))) := by
      unfold Hid pk
      split
      · rename_i h
        have := bt_range s (i + 1)
        rw [show P.bt s (i + 1) = -1 from by omega]; rfl
      · rfl
    clear n1 n2 n3 n4
    refine (index_any _ _ _).mono ?_
    rintro e w4 ⟨rfl, rfl⟩
    have HX := hid (esc_row hpr.1 hpr.2)
    go_wp2_with fail
    go_ret2
    refine ⟨pk s (i + 1), i + 1, escTail (P.bt s (i + 1)), ?_, HQ.out, hO _ _, by omega, by omega, by omega, ?_⟩
    · rw [← HTl.out, ← HX.out]; rfl
    · rw [HT.out]
      cases ht : escTail (P.bt s (i + 1)) with
      | false => exact ⟨rfl, rfl⟩
      | true =>
        refine ⟨rfl, ?_, rfl⟩
        unfold pk; rw [if_neg]
        intro h
        have := bt_range s (i + 1)
        rw [show P.bt s (i + 1) = -1 from by omega] at ht; cases ht

set_option maxHeartbeats 1000000 in
theorem single_any (sp : ByteArray) (b : Nat) (s : ByteArray) (i o : Nat) (w : World) (hs : s.size ≤ 400) (hR : QB w b s i o) (hi : i ≤ s.size) :
    Calls Try.prog 48 #[.pointer (some ⟨b, 0, none⟩), .string sp] w fun e w' => OutB s b o (Fit2 (singleP sp s i)) w e w' := by
  have c1 := hR.c1
  have f1 := hR.fz 1
  have hpr := pk_range s i
  have e1 := hid (pk_eq (s := s) (i := i) (c := 92) (by omega))
  cases h92 : (pk s i == 92) with
  | true =>
    have hb : P.bt s i = 92 := eq_of_beq (by rw [← e1.out]; exact h92)
    have hlt := lt_of_bt (s := s) (i := i) (by omega)
    have HT : Hid (singleP sp s i = P.esc s (i + 1)) := by unfold Hid singleP; rw [if_pos hb]
    clear hb
    go_enter Try.func48, Try.ntmps48
    go_wp2_with fail
    refine (peek_any _ _ i _ _ hR).mono ?_
    rintro e w3 ⟨rfl, n3, rfl⟩
    go_wp2_with fail
    refine (pescape_any _ _ _ _ _ hs (hR.drewN _) hlt).mono ?_
    rintro e w4 ⟨v, i4, k, rfl, hR4, hO4, hv0, hv1, hi4, hf4⟩
    have d1 := hR4.c1
    have d2 := hR4.fz 1
    have HF := hid hf4
    clear hf4
    cases k with
    | false =>
      go_wp2_with fail
      go_ret2
      refine ⟨0, i4, false, rfl, hR4, ((Only.refl _ _).drewN _).trans hO4, by omega, by omega, hi4, ?_⟩
      rw [HT.out]
      have h := HF.out
      cases he : P.esc s (i + 1) with
      | out => rw [he] at h; exact h.elim
      | bad p => rw [he] at h; exact h
      | ok a j => rw [he] at h; cases h.1
    | true =>
      go_wp2_with fail
      go_ret2
      have h := HF.out
      have hj : i4 + 1 ≤ s.size := by
        cases he : P.esc s (i + 1) with
        | out => rw [he] at h; exact h.elim
        | bad p => rw [he] at h; cases h.1
        | ok a j => rw [he] at h; have := ((P.esc_good s (i + 1)).2 a j he).2; have := h.2.2; omega
      refine ⟨v, i4 + 1, true, rfl, hR4.set1 (by omega), Only.setCell (p := ⟨b, 1, none⟩) (((Only.refl _ _).drewN _).trans hO4) rfl _, hv0, hv1, hj, ?_⟩
      rw [HT.out]
      cases he : P.esc s (i + 1) with
      | out => rw [he] at h; exact h.elim
      | bad p => rw [he] at h; cases h.1
      | ok a j => rw [he] at h; exact h
  | false =>
    have hb : P.bt s i ≠ 92 := ne_of_beq_false (by rw [← e1.out]; exact h92)
    have HT : Hid (singleP sp s i = if plainS sp (pk s i) then .ok (P.bt s i) (i + 1) else .bad i) := by unfold Hid singleP; rw [if_neg hb]
    clear hb
    cases hp : plainS sp (pk s i) with
    | true =>
      have h33 : 33 ≤ pk s i := by
        have h := hp; unfold plainS at h; simp only [Bool.and_eq_true, decide_eq_true_eq] at h; exact h.1.1
      have HPK : Hid (pk s i = P.bt s i) := by
        unfold Hid pk; rw [if_neg]; intro h; unfold pk at h33; rw [if_pos h] at h33; omega
      have hlt := lt_of_bt (s := s) (i := i) (by rw [← HPK.out]; omega)
      rw [hp] at HT
      go_enter Try.func48, Try.ntmps48
      go_wp2_with fail
      refine (peek_any _ _ i _ _ hR).mono ?_
      rintro e w3 ⟨rfl, n3, rfl⟩
      go_wp2_with (go_at_call 43; refine (isPlain_any _ _ _).mono ?_; rintro e w' ⟨rfl, rfl⟩)
      go_ret2
      refine ⟨pk s i, i + 1, true, rfl, (hR.drewN _).set1 (by omega), Only.setCell (p := ⟨b, 1, none⟩) ((Only.refl _ _).drewN _) rfl _, hpr.1, hpr.2, by omega, ?_⟩
      rw [HT.out]; exact ⟨rfl, HPK.out, rfl⟩
    | false =>
      rw [hp] at HT
      go_enter Try.func48, Try.ntmps48
      go_wp2_with fail
      refine (peek_any _ _ i _ _ hR).mono ?_
      rintro e w3 ⟨rfl, n3, rfl⟩
      go_wp2_with (go_at_call 43; refine (isPlain_any _ _ _).mono ?_; rintro e w' ⟨rfl, rfl⟩)
      go_ret2
      refine ⟨0, i, false, rfl, hR.drewN _, (Only.refl _ _).drewN _, by omega, by omega, hi, ?_⟩
      rw [HT.out]; exact ⟨rfl, rfl⟩

end Go.Proofs.Ytjhmlcilabnlbaa
