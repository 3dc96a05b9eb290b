/- The reader of the document's answer in memory, and what a call leaves of the world: the words of all walks. -/
import Derived.Test.YtjhmlcilabnlbaaRows
import Derived.Test.YtjhmlcilabnlbaaSpec
import Derived.WalkKit
import Derived.WalkSpells
import Derived.WalkLawsBesides
import Derived.Deep.QuietTactic
import Derived.BigQuiet
namespace Go.Proofs.Ytjhmlcilabnlbaa
open Go.RowKit

theorem hid {p : Prop} (h : p) : Hid p := h

/-- The reader's block. -/
def RB (w : World) (b : Nat) (s : ByteArray) (i o z : Nat) (B : Int) : Prop :=
  w.heap[b]? = some (.cells #[.string s, .int .i64 (i : Int), .int .i64 (o : Int), .int .i64 (z : Int), .int .i64 B] 58 (0, 0))

/-- All that was there is as it was, but for block b. -/
structure Only (b : Nat) (w w' : World) : Prop where
  os : w'.os = w.os
  tape : w'.tape = w.tape
  output : w'.output = w.output
  size : w.heap.size ≤ w'.heap.size
  block : ∀ k, k < w.heap.size → k ≠ b → w'.heap[k]? = w.heap[k]?

theorem Only.refl (b : Nat) (w : World) : Only b w w := ⟨rfl, rfl, rfl, Nat.le_refl _, fun _ _ _ => rfl⟩
theorem Only.trans {b : Nat} {x y z : World} (h : Only b x y) (k : Only b y z) : Only b x z :=
  ⟨k.os.trans h.os, k.tape.trans h.tape, k.output.trans h.output, Nat.le_trans h.size k.size, fun i hi hb => (k.block i (Nat.lt_of_lt_of_le hi h.size) hb).trans (h.block i hi hb)⟩
theorem Only.drewN {b : Nat} {x y : World} (h : Only b x y) (n : Nat) : Only b x (y.drewN n) := ⟨h.os, h.tape, h.output, h.size, h.block⟩
theorem Only.drew {b : Nat} {x y : World} (h : Only b x y) : Only b x y.drew := ⟨h.os, h.tape, h.output, h.size, h.block⟩
theorem Only.setCell {b : Nat} {x y : World} (h : Only b x y) {p : Addr} (hp : p.block = b) (u : Value) : Only b x (y.setCell p u) :=
  h.trans ⟨rfl, rfl, rfl, by simp [World.setCell], fun k _ hb => Below.heap_setCell _ _ _ _ (by omega)⟩
theorem Only.alloc {b : Nat} {x y : World} (h : Only b x y) (o : Obj) : Only b x (y.alloc o) :=
  h.trans ⟨rfl, rfl, rfl, by simp, fun k hk _ => Below.heap_alloc _ _ _ (by omega)⟩

theorem RB.lt {w : World} {b : Nat} {s : ByteArray} {i o z : Nat} {B : Int} (h : RB w b s i o z B) : b < w.heap.size := by
  unfold RB at h
  by_cases hb : b < w.heap.size
  · exact hb
  · simp [hb] at h

theorem RB.drewN {w : World} {b : Nat} {s : ByteArray} {i o z : Nat} {B : Int} (h : RB w b s i o z B) (n : Nat) : RB (w.drewN n) b s i o z B := h
theorem RB.drew {w : World} {b : Nat} {s : ByteArray} {i o z : Nat} {B : Int} (h : RB w b s i o z B) : RB w.drew b s i o z B := h
theorem RB.c0 {w : World} {b : Nat} {s : ByteArray} {i o z : Nat} {B : Int} (h : RB w b s i o z B) : w.cell? ⟨b, 0, none⟩ = some (.string s) := by simp [World.cell?, show w.heap[b]? = _ from h]
theorem RB.c1 {w : World} {b : Nat} {s : ByteArray} {i o z : Nat} {B : Int} (h : RB w b s i o z B) : w.cell? ⟨b, 1, none⟩ = some (.int .i64 (i : Int)) := by simp [World.cell?, show w.heap[b]? = _ from h]
theorem RB.c2 {w : World} {b : Nat} {s : ByteArray} {i o z : Nat} {B : Int} (h : RB w b s i o z B) : w.cell? ⟨b, 2, none⟩ = some (.int .i64 (o : Int)) := by simp [World.cell?, show w.heap[b]? = _ from h]
theorem RB.c3 {w : World} {b : Nat} {s : ByteArray} {i o z : Nat} {B : Int} (h : RB w b s i o z B) : w.cell? ⟨b, 3, none⟩ = some (.int .i64 (z : Int)) := by simp [World.cell?, show w.heap[b]? = _ from h]
theorem RB.c4 {w : World} {b : Nat} {s : ByteArray} {i o z : Nat} {B : Int} (h : RB w b s i o z B) : w.cell? ⟨b, 4, none⟩ = some (.int .i64 B) := by simp [World.cell?, show w.heap[b]? = _ from h]
theorem RB.fz {w : World} {b : Nat} {s : ByteArray} {i o z : Nat} {B : Int} (h : RB w b s i o z B) (k : Nat) : w.frozen? ⟨b, k, none⟩ = false := by
  simp [World.frozen?, show w.heap[b]? = _ from h]
theorem heap_setCell_same {w : World} {a : Addr} {c : Array Value} {e : TypeId} {fz : Nat × Nat} (h : w.heap[a.block]? = some (.cells c e fz)) (hs : a.spot = none) (u : Value) :
    (w.setCell a u).heap[a.block]? = some (.cells (c.setIfInBounds a.off u) e fz) := by
  simp [World.setCell, Array.getElem?_modify, h, hs]
theorem RB.set1 {w : World} {b : Nat} {s : ByteArray} {i o z : Nat} {B : Int} (h : RB w b s i o z B) {j : Nat} {x : Int} (hx : x = (j : Int)) : RB (w.setCell ⟨b, 1, none⟩ (.int .i64 x)) b s j o z B := by
  subst hx; exact heap_setCell_same (a := ⟨b, 1, none⟩) h rfl _
theorem RB.set2 {w : World} {b : Nat} {s : ByteArray} {i o z : Nat} {B : Int} (h : RB w b s i o z B) {j : Nat} {x : Int} (hx : x = (j : Int)) : RB (w.setCell ⟨b, 2, none⟩ (.int .i64 x)) b s i j z B := by
  subst hx; exact heap_setCell_same (a := ⟨b, 2, none⟩) h rfl _
theorem RB.set3 {w : World} {b : Nat} {s : ByteArray} {i o z : Nat} {B : Int} (h : RB w b s i o z B) {j : Nat} {x : Int} (hx : x = (j : Int)) : RB (w.setCell ⟨b, 3, none⟩ (.int .i64 x)) b s i o j B := by
  subst hx; exact heap_setCell_same (a := ⟨b, 3, none⟩) h rfl _
theorem RB.set4 {w : World} {b : Nat} {s : ByteArray} {i o z : Nat} {B : Int} (h : RB w b s i o z B) (x : Int) : RB (w.setCell ⟨b, 4, none⟩ (.int .i64 x)) b s i o z x :=
  heap_setCell_same (a := ⟨b, 4, none⟩) h rfl _
theorem RB.only {w w' : World} {b c : Nat} {s : ByteArray} {i o z : Nat} {B : Int} (h : RB w b s i o z B) (hk : Only c w w') (hn : b ≠ c) : RB w' b s i o z B :=
  (hk.block b h.lt hn).trans h

/-- How a reading's outcome stands in the reader: the value and the place, or the fault's place. -/
def Fits {α : Type} (r : P.PR α) (v : α) (i : Nat) (B : Int) : Prop :=
  match r with
  | .ok a j => v = a ∧ i = j ∧ B = -1
  | .bad p => B = (p : Int)
  | .out => False

/-- Where a fault has been met already, nothing more is read. -/
def gate {α : Type} (B : Int) (r : P.PR α) : P.PR α := if B < 0 then r else .bad B.toNat

theorem gate_neg {α : Type} (r : P.PR α) : gate (-1) r = r := rfl
theorem gate_pos {α : Type} {B : Int} (h : 0 ≤ B) (r : P.PR α) : gate B r = .bad B.toNat := by unfold gate; rw [if_neg (by omega)]

/-- A fault's mark: none, or a place. -/
def Mark (B : Int) : Prop := B = -1 ∨ 0 ≤ B
theorem Fits.mark {α : Type} {r : P.PR α} {v : α} {i : Nat} {B : Int} (h : Fits r v i B) : Mark B := by
  cases r with
  | ok a j => exact Or.inl h.2.2
  | bad p => exact Or.inr (by have : B = (p : Int) := h; omega)
  | out => exact h.elim

theorem Fits.bind {α β : Type} {B0 B C : Int} {r : P.PR α} {g : α → Nat → P.PR β} {v : α} {u : β} {i j : Nat} (h : Fits (gate B0 r) v i B) (k : Fits (gate B (g v i)) u j C) : Fits (gate B0 (r.bind g)) u j C := by
  by_cases hB : B0 < 0
  · unfold gate at h ⊢
    rw [if_pos hB] at h ⊢
    cases r with
    | out => exact h.elim
    | bad p =>
      have hp : B = (p : Int) := h
      rw [gate_pos (by omega)] at k
      have : C = (B.toNat : Int) := k
      show C = (p : Int)
      omega
    | ok a q =>
      obtain ⟨rfl, rfl, rfl⟩ := h
      exact k
  · rw [gate_pos (by omega)] at h ⊢
    have hp : B = (B0.toNat : Int) := h
    rw [gate_pos (by omega)] at k
    have : C = (B.toNat : Int) := k
    show C = (B0.toNat : Int)
    omega
theorem Fits.ok {α : Type} (v : α) (i : Nat) : Fits (gate (-1) (.ok v i)) v i (-1) := ⟨rfl, rfl, rfl⟩
theorem Fits.bad {α : Type} (v : α) (i p : Nat) : Fits (gate (-1) (.bad p)) v i (p : Int) := rfl
/-- Where a fault has been met, the rest is as you like. -/
theorem Fits.past {α : Type} {B : Int} (h : 0 ≤ B) (r : P.PR α) (v : α) (i : Nat) : Fits (gate B r) v i B := by
  rw [gate_pos h]; show B = _; omega

/-- Is this byte at hand, and no fault met? -/
def seen (B : Int) (s : ByteArray) (i : Nat) (c : Int) : Bool := decide (B < 0) && (P.bt s i == c)
/-- One place on, if so. -/
def stp (t : Bool) (i : Nat) : Nat := if t then i + 1 else i
theorem stp_true (i : Nat) : stp true i = i + 1 := rfl
theorem stp_false (i : Nat) : stp false i = i := rfl
/-- The mark of a fault: the first one stays. -/
def mrk (B p : Int) : Int := if B < 0 then p else B
theorem mrk_neg {B : Int} (h : B < 0) (p : Int) : mrk B p = p := if_pos h
theorem mrk_pos {B : Int} (h : 0 ≤ B) (p : Int) : mrk B p = B := if_neg (by omega)
theorem seen_true {B : Int} {s : ByteArray} {i : Nat} {c : Int} (h : seen B s i c = true) : B < 0 ∧ P.bt s i = c := by simpa [seen] using h
theorem seen_mk {B : Int} {s : ByteArray} {i : Nat} {c : Int} (h : B < 0) (k : P.bt s i = c) : seen B s i c = true := by simp [seen, h, k]
theorem seen_pos {B : Int} {s : ByteArray} {i : Nat} {c : Int} (h : 0 ≤ B) : seen B s i c = false := by
  have : ¬ B < 0 := by omega
  simp [seen, this]
theorem seen_ne {B : Int} {s : ByteArray} {i : Nat} {c : Int} (h : P.bt s i ≠ c) : seen B s i c = false := by simp [seen, h]

/-- The mark behind a byte that has to stand there. -/
def need (B : Int) (s : ByteArray) (i : Nat) (c : Int) : Int := if seen B s i c then B else mrk B (i : Int)

theorem ret_bool {a b : Bool} (h : a = b) : Ending.returned (.bool a) = .returned (.bool b) := by rw [h]
theorem ret_int {k : IntKind} {a b : Int} (h : a = b) : Ending.returned (.int k a) = .returned (.int k b) := by rw [h]

/-- What a call that hands back a number leaves. -/
def OutI (s : ByteArray) (b o z i : Nat) (m : Int) (r : P.PR Int) (w : World) (e : Ending) (w' : World) : Prop :=
  ∃ (v : Int) (i' : Nat) (B' : Int), e = .returned (.int .i64 v) ∧ RB w' b s i' o z B' ∧ Only b w w' ∧ 0 ≤ v ∧ v ≤ m ∧ (i ≤ i' ∧ i' ≤ s.size) ∧ Fits r v i' B'

theorem bt_lt {s : ByteArray} {i : Nat} (h : i < s.size) : P.bt s i = ((s[i].toNat : Nat) : Int) := by unfold P.bt; rw [dif_pos h]
theorem bt_ge {s : ByteArray} {i : Nat} (h : ¬ i < s.size) : P.bt s i = -1 := by unfold P.bt; rw [dif_neg h]
theorem bt_range (s : ByteArray) (i : Nat) : -1 ≤ P.bt s i ∧ P.bt s i ≤ 255 := by
  unfold P.bt; split
  · have := s[i].toNat_lt; omega
  · omega
theorem lt_of_bt {s : ByteArray} {i : Nat} (h : 0 ≤ P.bt s i) : i < s.size := by
  by_cases hl : i < s.size
  · exact hl
  · rw [bt_ge hl] at h; omega

end Go.Proofs.Ytjhmlcilabnlbaa
