/- The program: Read. -/
import Derived.Test.YtjhmlcilabnlbaaProgU
import Derived.Test.YtjhmlcilabnlbaaCheckSpec
namespace Go.Proofs.Ytjhmlcilabnlbaa
open Go.RowKit

/-- What the reading of a whole text comes to. -/
def readP (s : ByteArray) : P.PR (List P.Rl) := if 400 < s.size then .bad 0 else P.text s 3210 401 0 []
theorem check_read (s : ByteArray) : P.check s = P.outcome (readP s) := by unfold P.check readP; split <;> rfl

/-- What Read hands back. -/
def ReadF (R : P.PR (List P.Rl)) (n : Nat) (e : Ending) (w' : World) : Prop :=
  match R with
  | .ok l _ => ∃ (v : Value) (xs : List (P.Rl × Nd)), e = .returned (.tuple #[v, .int .i64 0, .bool true]) ∧ xs.map (·.1) = l ∧ xs.length ≤ 400 ∧ w'.ownsRow (n + 1) 40 10 v xs.length (rlCells xs) ∧ ∀ x, x ∈ xs → PN w' (· = n) x.2 x.1.t ∧ x.1.t.sz ≤ 400
  | .bad p => e = .returned (.tuple #[.slice none 0 0, .int .i64 (p : Int), .bool false])
  | .out => False

theorem below_of_only {w x y : World} {X : Obj} (hx : x = w.alloc X) (k : Only w.heap.size x y) : Below w.heap.size w y := by
  subst hx
  exact ⟨k.os, k.tape, k.output, Nat.le_trans (by simp) k.size, fun j hj => (k.block j (by simp; omega) (by omega)).trans (Below.heap_alloc _ _ _ hj)⟩

set_option maxHeartbeats 1000000 in
theorem pread_any (s : ByteArray) (w : World) :
    Calls Try.prog 6 #[.string s] w fun e w' => Below w.heap.size w w' ∧ ReadF (readP s) w.heap.size e w' := by
  by_cases hs : s.size ≤ 400
  · have HR : Hid (readP s = P.text s 3210 401 0 []) := by unfold Hid readP; rw [if_neg (by omega)]
    have HT := hid (P.text_enough s hs 401 0 [] (by omega))
    have HP := hid (P.alt_enough s hs 0)
    have hs' : decide ((400 : Int) < (s.size : Int)) = false := by simp; omega
    have hqX : QB (w.alloc (.cells #[.string s, .int .i64 0, .int .i64 0] 50)) w.heap.size s 0 0 := heap_alloc_at _ _
    go_enter Try.func6, Try.ntmps6
    go_wp2_with fail
    refine (ptext_any s 3210 401 w.heap.size _ hs hqX HP.out HT.out).mono ?_
    rintro e w2 ⟨v, i2, o2, k2, rfl, hR2, hO2, hf2⟩
    rw [← HR.out] at hf2
    have hB := below_of_only rfl hO2
    have c1 := hR2.c1
    have HF := hid hf2
    clear hf2
    cases k2 with
    | false =>
      go_wp2_with fail
      go_quiet (fail)
      go_wp2_with fail
      go_ret3
      refine ⟨hB.trans ⟨rfl, rfl, rfl, Nat.le_refl _, fun _ _ => rfl⟩, ?_⟩
      have hF := HF.out
      cases hx : readP s with
      | out => rw [hx] at hF; exact hF.elim
      | bad p => rw [hx] at hF; obtain ⟨-, rfl, -⟩ := hF; exact rfl
      | ok l j => rw [hx] at hF; exact absurd hF.1 (by simp)
    | true =>
      go_wp2_with fail
      go_ret3
      refine ⟨hB, ?_⟩
      have hF := HF.out
      cases hx : readP s with
      | out => rw [hx] at hF; exact hF.elim
      | bad p => rw [hx] at hF; exact absurd hF.1 (by simp)
      | ok l j =>
        rw [hx] at hF
        obtain ⟨-, xs, h1, h2, h3, h4⟩ := hF
        rw [show (w.alloc (.cells #[.string s, .int .i64 0, .int .i64 0] 50)).heap.size = w.heap.size + 1 from by simp] at h3 h4
        exact ⟨v, xs, rfl, h1, h2, h3, fun x hx => ⟨(h4 x hx).1.bars (fun j _ hj => by show j < w.heap.size + 1; omega), (h4 x hx).2⟩⟩
  · have HR : Hid (readP s = .bad 0) := by unfold Hid readP; rw [if_pos (by omega)]
    have hs' : (400 : Int) < (s.size : Int) := by omega
    go_enter Try.func6, Try.ntmps6
    go_wp2_with fail
    go_ret3
    refine ⟨Below.refl _ _, ?_⟩
    rw [HR.out]
    exact rfl
end Go.Proofs.Ytjhmlcilabnlbaa
