/- Contracts of the document's answer: atoms but for round brackets. -/
import Derived.Test.YtjhmlcilabnlbaaRefE
namespace Go.Proofs.Ytjhmlcilabnlbaa
open Go.RowKit

/-- A tree of nodes in memory, above the reader's block: does it match the empty text? -/
inductive RN (w : World) (b : Nat) : Nat → Bool → Prop where
  | leaf {n : Nat} {has A B : Value} (hb : b < n) (h : NB w n 99 has A B) : RN w b n false
  | opt {n : Nat} {op : Int} {has A B : Value} (ho : op = 42 ∨ op = 63) (hb : b < n) (h : NB w n op has A B) : RN w b n true
  | plus {n m : Nat} {has B : Value} {em : Bool} (hb : b < n) (h : NB w n 43 has (.pointer (some ⟨m, 0, none⟩)) B) (hm : RN w b m em) : RN w b n em
  | row {n m k : Nat} {has : Value} {em fm : Bool} (hb : b < n) (h : NB w n 114 has (.pointer (some ⟨m, 0, none⟩)) (.pointer (some ⟨k, 0, none⟩))) (hm : RN w b m em) (hk : RN w b k fm) : RN w b n (em && fm)
  | alt {n m k : Nat} {has : Value} {em fm : Bool} (hb : b < n) (h : NB w n 111 has (.pointer (some ⟨m, 0, none⟩)) (.pointer (some ⟨k, 0, none⟩))) (hm : RN w b m em) (hk : RN w b k fm) : RN w b n (em || fm)

theorem RN.only {w w' : World} {b n : Nat} {em : Bool} (h : RN w b n em) (k : Only b w w') : RN w' b n em := by
  induction h with
  | leaf hb h => exact .leaf hb (h.only k (by omega))
  | opt ho hb h => exact .opt ho hb (h.only k (by omega))
  | plus hb h _ ih => exact .plus hb (h.only k (by omega)) ih
  | row hb h _ _ i1 i2 => exact .row hb (h.only k (by omega)) i1 i2
  | alt hb h _ _ i1 i2 => exact .alt hb (h.only k (by omega)) i1 i2

/-- The count of nodes stays within the places passed. -/
def Sz (B : Int) (i z : Nat) : Prop := z ≤ i + 1 ∧ (B < 0 → z ≤ i)

/-- What a call that hands back a node leaves. -/
def OutN (s : ByteArray) (b o z : Nat) (r : P.PR P.T) (w : World) (e : Ending) (w' : World) : Prop :=
  ∃ (n : Nat) (t : P.T) (i' : Nat) (B' : Int), e = .returned (.pointer (some ⟨n, 0, none⟩)) ∧ RB w' b s i' o (z + t.sz) B' ∧ Only b w w' ∧ RN w' b n t.em ∧ i' ≤ s.size ∧ Sz B' i' (z + t.sz) ∧ Fits r t i' B'

theorem atom_leaf {s : ByteArray} {f o i : Nat} (h : P.bt s i ≠ 40) : P.atom s (f + 1) o i = (P.leafAt s f i).bind fun _ j => .ok ⟨1, false⟩ j := by
  unfold P.atom; simp only [if_neg h]
theorem leaf_cls {s : ByteArray} {f i : Nat} (h : P.bt s i = 91) : P.leafAt s f i = P.cls s f (i + 1) := by unfold P.leafAt; rw [if_pos h]
theorem leaf_dot {s : ByteArray} {f i : Nat} (h : P.bt s i = 46) : P.leafAt s f i = .ok () (i + 1) := by unfold P.leafAt; rw [if_neg (by omega), if_pos h]
theorem leaf_esc {s : ByteArray} {f i : Nat} (h : P.bt s i = 92) : P.leafAt s f i = (P.esc s (i + 1)).bind fun _ j => .ok () j := by unfold P.leafAt; rw [if_neg (by omega), if_neg (by omega), if_pos h]
theorem leaf_odd {s : ByteArray} {f i : Nat} (h1 : P.bt s i ≠ 91) (h2 : P.bt s i ≠ 46) (h3 : P.bt s i ≠ 92) (h : P.plain (P.bt s i) = false) : P.leafAt s f i = .bad i := by
  unfold P.leafAt; rw [if_neg h1, if_neg h2, if_neg h3, h]; rfl
theorem leaf_plain {s : ByteArray} {f i : Nat} (h1 : P.bt s i ≠ 91) (h2 : P.bt s i ≠ 46) (h3 : P.bt s i ≠ 92) (h : P.plain (P.bt s i) = true) : P.leafAt s f i = .ok () (i + 1) := by
  unfold P.leafAt; rw [if_neg h1, if_neg h2, if_neg h3, h]; rfl
theorem plain_among (c : Int) : P.plain c = (decide (33 ≤ c) && decide (c ≤ 126) && !amongI c [92, 46, 91, 93, 40, 41, 42, 43, 63, 124]) := by
  unfold P.plain amongI; simp [BEq.comm (a := c), Bool.or_assoc, Bool.and_assoc]

set_option maxHeartbeats 1000000 in
theorem atom_past (b : Nat) (s : ByteArray) (i o z : Nat) (B : Int) (w : World) (hR : RB w b s i o z B) (hi : i ≤ s.size) (hb : 0 ≤ B) (hz : Sz B i z) (r : P.PR P.T) :
    Calls Try.prog 30 #[.pointer (some ⟨b, 0, none⟩)] w fun e w' => OutN s b o z (gate B r) w e w' := by
  have c0 := hR.c0
  have c1 := hR.c1
  have c4 := hR.c4
  have hlt := hR.lt
  go_enter Try.func30, Try.ntmps30
  go_wp2_with fail
  go_quiet (fail)
  go_wp2_with fail
  refine (wrong_any _ _ _ _ _ _ _ _ (hR.drewN _)).mono ?_
  rintro e w1 ⟨rfl, hq, ho⟩
  rw [mrk_pos hb] at hq
  go_wp2_with fail
  refine (leaf_any 0 0 _ (by omega) (by omega) (by omega) (by omega)).mono ?_
  rintro e w2 ⟨rfl, hw2, hH2, hN2, hz2⟩
  go_wp2_with fail
  go_ret
  have hl1 := hq.lt
  exact ⟨_, ⟨0, false⟩, i, B, rfl, (hw2.block b hl1).trans hq, (((Only.refl _ _).drewN _).trans ho).trans (Only.ofBelow hw2), .leaf (by omega) hN2, hi, hz, Fits.past hb _ _ _⟩

set_option maxHeartbeats 1000000 in
theorem atom_end (f b : Nat) (s : ByteArray) (i o z : Nat) (w : World) (hR : RB w b s i o z (-1)) (hi : i ≤ s.size) (hl : ¬ i < s.size) (hz : Sz (-1) i z) :
    Calls Try.prog 30 #[.pointer (some ⟨b, 0, none⟩)] w fun e w' => OutN s b o z (gate (-1) (P.atom s (f + 1) o i)) w e w' := by
  have c0 := hR.c0
  have c1 := hR.c1
  have c4 := hR.c4
  have hlt := hR.lt
  have hl2 : (s.size : Int) ≤ (i : Int) := by omega
  have hbt := bt_ge hl
  have HA : Hid (P.atom s (f + 1) o i = .bad i) := by
    unfold Hid; rw [atom_leaf (by omega), leaf_odd (by omega) (by omega) (by omega) (by rw [hbt]; decide)]; rfl
  clear hbt
  go_enter Try.func30, Try.ntmps30
  go_wp2_with fail
  go_quiet (fail)
  go_wp2_with fail
  refine (wrong_any _ _ _ _ _ _ _ _ (hR.drewN _)).mono ?_
  rintro e w1 ⟨rfl, hq, ho⟩
  rw [mrk_neg (by omega)] at hq
  go_wp2_with fail
  refine (leaf_any 0 0 _ (by omega) (by omega) (by omega) (by omega)).mono ?_
  rintro e w2 ⟨rfl, hw2, hH2, hN2, hz2⟩
  go_wp2_with fail
  go_ret
  have hl1 := hq.lt
  exact ⟨_, ⟨0, false⟩, i, i, rfl, (hw2.block b hl1).trans hq, (((Only.refl _ _).drewN _).trans ho).trans (Only.ofBelow hw2), .leaf (by omega) hN2, hi, ⟨hz.1, fun h => by omega⟩, by rw [HA.out]; rfl⟩

end Go.Proofs.Ytjhmlcilabnlbaa
