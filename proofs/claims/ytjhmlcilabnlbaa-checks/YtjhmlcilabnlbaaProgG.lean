/- The program: name. -/
import Derived.Test.YtjhmlcilabnlbaaProgB
import Derived.Test.YtjhmlcilabnlbaaTextSpec
namespace Go.Proofs.Ytjhmlcilabnlbaa
open Go.RowKit

theorem pnameTo_succ (s : ByteArray) (n i : Nat) : P.nameTo s (n + 1) i = if 97 ≤ P.bt s i ∧ P.bt s i ≤ 122 then P.nameTo s n (i + 1) else i := rfl
theorem letter_pk (s : ByteArray) (i : Nat) : letter (pk s i) = true ↔ (97 ≤ P.bt s i ∧ P.bt s i ≤ 122) := by
  unfold letter pk
  split
  · rename_i h; simp; omega
  · simp

theorem ret_sb {x : ByteArray} {a b : Bool} (h : a = b) : Ending.returned (.tuple #[.string x, .bool a]) = .returned (.tuple #[.string x, .bool b]) := by rw [h]

set_option maxHeartbeats 1000000 in
theorem name_any (b : Nat) (s : ByteArray) (i o : Nat) (w : World) (hs : s.size ≤ 400) (hR : QB w b s i o) (hi : i ≤ s.size) :
    Calls Try.prog 26 #[.pointer (some ⟨b, 0, none⟩)] w fun e w' => e = .returned (.tuple #[.string (s.extract i (P.nameTo s 8 i)), .bool (decide (i < P.nameTo s 8 i))]) ∧ QB w' b s (P.nameTo s 8 i) o ∧ Only b w w' := by
  have c1 := hR.c1
  go_enter Try.func26, Try.ntmps26
  go_wp2_with fail
  go_loopg [20] 8 (fun g _ wr => ∃ k : Nat, k + g = 8 ∧ i + k ≤ s.size ∧ QB wr b s (i + k) o ∧ Only b w wr ∧ Hid (P.nameTo s 8 i = P.nameTo s g (i + k)))
  case atStart => exact ⟨0, rfl, by omega, hR, Only.refl _ _, rfl⟩
  case round =>
    obtain ⟨k, hk8, hik, hR2, hO2, hN⟩ := hrel
    have d0 := hR2.c0
    have d1 := hR2.c1
    have df := hR2.fz 1
    clear c1
    have HL := hid (letter_pk s (i + k))
    by_cases hk : k < 8
    · have hk1 : ((i + k : Nat) : Int) - (i : Int) < 8 := by omega
      obtain ⟨g', rfl⟩ : ∃ g', gk = g' + 1 := ⟨gk - 1, by omega⟩
      cases hl : letter (pk s (i + k)) with
      | true =>
        have hr := HL.out.1 hl
        have hlt := lt_of_bt (s := s) (i := i + k) (by omega)
        have HN : Hid (P.nameTo s 8 i = P.nameTo s g' (i + k + 1)) := by unfold Hid; rw [hN.out, pnameTo_succ, if_pos hr]
        clear hr
        go_wp2_with (first | (go_at_call 28; refine (peek_any _ _ _ _ _ hR2).mono ?_; rintro e w3 ⟨rfl, n3, rfl⟩) | (go_at_call 31; refine (letter_any _ _).mono ?_; rintro e w4 ⟨rfl, rfl⟩))
        go_roundg g'
        case measure => omega
        case rel => exact ⟨k + 1, by omega, by omega, (hR2.drewN _).set1 (by omega), Only.setCell (p := ⟨b, 1, none⟩) (hO2.drewN _) rfl _, HN⟩
      | false =>
        have HN : Hid (P.nameTo s 8 i = i + k) := by
          unfold Hid; rw [hN.out, pnameTo_succ, if_neg]
          intro h; rw [HL.out.2 h] at hl; cases hl
        go_wp2_with (first | (go_at_call 28; refine (peek_any _ _ _ _ _ hR2).mono ?_; rintro e w3 ⟨rfl, n3, rfl⟩) | (go_at_call 31; refine (letter_any _ _).mono ?_; rintro e w4 ⟨rfl, rfl⟩))
        go_quiet (fail)
        go_wp2_with fail
        go_ret2
        rw [HN.out]
        exact ⟨ret_sb (by rw [decide_eq_decide]; omega), hR2, by first | exact hO2.drewN _ | exact (hO2.drewN _).drewN _⟩
    · have hk1 : decide (((i + k : Nat) : Int) - (i : Int) < 8) = false := by simp; omega
      have hk2 : decide ((i : Int) + (k : Int) - (i : Int) < 8) = false := by simp; omega
      have HN : Hid (P.nameTo s 8 i = i + k) := by
        unfold Hid; rw [hN.out, show gk = 0 from by omega]; rfl
      go_wp2_with fail
      go_quiet (fail)
      go_wp2_with fail
      go_ret2
      rw [HN.out]
      exact ⟨ret_sb (by rw [decide_eq_decide]; omega), hR2, by first | exact hO2.drewN _ | exact (hO2.drewN _).drewN _⟩
end Go.Proofs.Ytjhmlcilabnlbaa
