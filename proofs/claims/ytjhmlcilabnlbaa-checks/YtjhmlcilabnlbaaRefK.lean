/- Contracts of the document's answer: row and any behind a fault. -/
import Derived.Test.YtjhmlcilabnlbaaRowPure
import Derived.BigRegion
namespace Go.Proofs.Ytjhmlcilabnlbaa
open Go.RowKit

set_option maxRecDepth 100000 in
set_option maxHeartbeats 8000000 in
theorem row_past (b : Nat) (s : ByteArray) (i o z : Nat) (B : Int) (w : World) (hR : RB w b s i o z B) (hi : i ≤ s.size) (hb : 0 ≤ B) (hz : Sz B i z) (r : P.PR P.T) :
    Calls Try.prog 25 #[.pointer (some ⟨b, 0, none⟩)] w fun e w' => OutN s b o z (gate B r) w e w' := by
  have hb' : decide (B < 0) = false := by simp; omega
  go_enter Try.func25, Try.ntmps25
  go_wp2_with fail
  go_loopg [3] 1 (fun g n wr => g = 1 ∧ n = .pointer none ∧ wr = w)
  case atStart => exact ⟨rfl, rfl, rfl⟩
  case round =>
    obtain ⟨rfl, rfl, rfl⟩ := hrel
    go_wp2_with fail
    refine (atom_past _ _ _ _ _ _ _ hR hi hb hz (.bad 0)).mono ?_
    rintro e w1 ⟨n1, u, i1, B1, rfl, hR1, ho1, hn1, hi1, hz1, hf1⟩
    rw [gate_pos hb] at hf1
    have hB1 : B1 = B := by have h : B1 = (B.toNat : Int) := hf1; omega
    subst hB1
    clear hf1
    have c4 := hR1.c4
    go_wp2_with fail
    go_loopg [4] 1 (fun g n wr => g = 1 ∧ n = .pointer (some ⟨n1, 0, none⟩) ∧ wr = w1)
    case atStart => exact ⟨rfl, rfl, rfl⟩
    case round =>
      obtain ⟨rfl, rfl, rfl⟩ := hrel
      go_wp2_with fail
      go_quiet (fail)
      go_wp2_with fail
      refine wp_region_quiet_lit (by kernel_rfl) (by kernel_rfl) ?_
      dsimp only [List.append]
      repeat (go_big_quiet_step (fail))
      refine wpQuiet_nil ?_
      intro _ hw'
      obtain ⟨nq, hw''⟩ := hw'
      subst hw''
      go_wp2_with fail
      go_ret
      exact ⟨n1, u, i1, B1, rfl, hR1, (ho1.drewN _).drewN _, hn1.only (((Only.refl _ _).drewN _).drewN _), hi1, hz1, Fits.past hb _ _ _⟩

set_option maxHeartbeats 1000000 in
theorem any_past (b : Nat) (s : ByteArray) (i o z : Nat) (B : Int) (w : World) (hs : s.size ≤ 400) (hR : RB w b s i o z B) (hi : i ≤ s.size) (hb : 0 ≤ B) (hz : Sz B i z) (r : P.PR P.T) :
    Calls Try.prog 18 #[.pointer (some ⟨b, 0, none⟩)] w fun e w' => OutN s b o z (gate B r) w e w' := by
  go_enter Try.func18, Try.ntmps18
  go_wp2_with fail
  refine (row_past _ _ _ _ _ _ _ hR hi hb hz (.bad 0)).mono ?_
  rintro e w1 ⟨n1, u, i1, B1, rfl, hR1, ho1, hn1, hi1, hz1, hf1⟩
  rw [gate_pos hb] at hf1
  have hB1 : B1 = B := by have h : B1 = (B.toNat : Int) := hf1; omega
  subst hB1
  clear hf1
  have hse : seen B1 s i1 124 = false := seen_pos hb
  go_wp2_with fail
  go_loopg [3] 1 (fun g n wr => g = 1 ∧ n = .pointer (some ⟨n1, 0, none⟩) ∧ wr = w1)
  case atStart => exact ⟨rfl, rfl, rfl⟩
  case round =>
    obtain ⟨rfl, rfl, rfl⟩ := hrel
    go_wp2_with (go_at_call 24; refine (takes_any 124 _ _ _ _ _ _ _ hs hR1 hi1 (by omega) (by omega)).mono ?_; rintro e w3 ⟨rfl, hR3, ho3⟩)
    rw [hse] at hR3
    go_ret
    exact ⟨n1, u, i1, B1, rfl, hR3, ho1.trans ho3, hn1.only ho3, hi1, hz1, Fits.past hb _ _ _⟩

end Go.Proofs.Ytjhmlcilabnlbaa
