import Derived.Test.YtjhmlcilabnlbaaDoorRows
import Derived.WalkKit
import Derived.WalkSpells
import Derived.WalkLawsBesides
import Derived.Deep.QuietTactic
import Derived.BigQuiet
import Derived.Laws.StandIn
import Derived.Deep.LoopGhost
import Derived.Laws.Bits64
import Derived.Lib.TrailingZeros
import Derived.Laws.Bits64b
import Derived.RangeFuncNested
import Derived.RangeFuncBound
import Derived.RangeFuncCalls
import Derived.RangeFuncLeaves
import Derived.RangeFuncFrom
import Derived.Shelf.Abstract
import Derived.Shelf.RegionOpen
import Derived.OwnWalkIn
import Derived.TacticsInMore
import Derived.LoopNIn
import Derived.LoopIn
import Derived.Sort.QuietThIn
import Derived.Deep.CutBlock
import Derived.Deep.RegionHeld3
import Derived.StillTail
/- What a text of rules is (DOC.md, Words): the plain reading, in functions of bytes and places. Nothing of the program here. -/
namespace Go.Proofs.YtjhmlcilabnlbaaDoor.P

/-- What a reading comes to: a value and the place behind it; the place of a fault; no fuel left. -/
inductive PR (α : Type) where
  | ok (a : α) (i : Nat)
  | bad (p : Nat)
  | out

def PR.bind {α β : Type} (r : PR α) (g : α → Nat → PR β) : PR β :=
  match r with
  | .ok a i => g a i
  | .bad p => .bad p
  | .out => .out

/-- The byte at a place; -1 behind the end. -/
def bt (s : ByteArray) (i : Nat) : Int := if h : i < s.size then ((s[i].toNat : Nat) : Int) else -1

def hexV (c : Int) : Int := if 48 ≤ c ∧ c ≤ 57 then c - 48 else if 97 ≤ c ∧ c ≤ 102 then c - 87 else -1

def hex (s : ByteArray) (i : Nat) : PR Int := if hexV (bt s i) < 0 then .bad i else .ok (hexV (bt s i)) (i + 1)

def escSet (c : Int) : Bool := c == 110 || c == 115 || c == 116 || c == 120 || c == 92 || c == 46 || c == 91 || c == 93 || c == 40 || c == 41 || c == 42 || c == 43 || c == 63 || c == 124 || c == 45 || c == 94

def esc (s : ByteArray) (i : Nat) : PR Int :=
  if escSet (bt s i) = false then .bad i
  else if bt s i = 110 then .ok 10 (i + 1)
  else if bt s i = 116 then .ok 9 (i + 1)
  else if bt s i = 115 then .ok 32 (i + 1)
  else if bt s i = 120 then
    (hex s (i + 1)).bind fun a j => (hex s j).bind fun b k => .ok (16 * a + b) k
  else .ok (bt s i) (i + 1)

def small (s : ByteArray) (i : Nat) : PR Int :=
  if bt s i = 92 then esc s (i + 1)
  else if 33 ≤ bt s i ∧ bt s i ≤ 126 ∧ bt s i ≠ 93 ∧ bt s i ≠ 45 ∧ bt s i ≠ 94 then .ok (bt s i) (i + 1)
  else .bad i

def item (s : ByteArray) (i : Nat) : PR (Int × Int) :=
  (small s i).bind fun lo j =>
    if bt s j = 45 then (small s (j + 1)).bind fun hi k => if hi < lo then .bad (j + 1) else .ok (lo, hi) k
    else .ok (lo, lo) j

def add (acc : Nat → Bool) (lo hi : Int) : Nat → Bool := fun x => acc x || (decide (lo ≤ (x : Int)) && decide ((x : Int) ≤ hi))

def items (s : ByteArray) : Nat → Nat → (Nat → Bool) → PR (Nat → Bool)
  | 0, _, _ => .out
  | f + 1, i, acc =>
    (item s i).bind fun lh j => if bt s j = 93 then .ok (add acc lh.1 lh.2) j else items s f j (add acc lh.1 lh.2)

/-- Is there a byte, of 256, that is in the set (or, turned, not in it)? -/
def some256 (acc : Nat → Bool) (neg : Bool) : Bool := (List.range 256).any fun x => acc x != neg

def cls (s : ByteArray) (f i : Nat) : PR (Nat → Bool) :=
  (items s f (if bt s i = 94 then i + 1 else i) (fun _ => false)).bind fun acc j => if some256 acc (bt s i == 94) then .ok (fun x => acc x != (bt s i == 94)) (j + 1) else .bad j

/-- What a rule matches: a set of bytes, a repetition, a row, a choice. -/
inductive X where
  | set (p : Nat → Bool)
  | rep (no ag : Bool) (x : X)
  | row (l : List X)
  | alt (l : List X)
/-- One more part behind a row, or a choice. -/
def X.snoc (x y : X) : X :=
  match x with
  | .row l => .row (l ++ [y])
  | .alt l => .alt (l ++ [y])
  | x => x
/-- One byte. -/
def eqB (b : Int) : Nat → Bool := fun x => decide (b ≤ (x : Int)) && decide ((x : Int) ≤ b)

/-- Of what was read: how many nodes it has, whether it matches the empty text, and what it matches. -/
structure T where
  sz : Nat
  em : Bool
  x : X

def plain (c : Int) : Bool := decide (33 ≤ c) && decide (c ≤ 126) && !(c == 92 || c == 46 || c == 91 || c == 93 || c == 40 || c == 41 || c == 42 || c == 43 || c == 63 || c == 124)

def begins (c : Int) : Bool := c == 92 || c == 46 || c == 91 || c == 40 || plain c

/-- The marks behind an atom. -/
def marks (s : ByteArray) : Nat → Nat → T → PR T
  | 0, _, _ => .out
  | f + 1, i, t =>
    if bt s i = 42 ∨ bt s i = 63 then marks s f (i + 1) ⟨t.sz + 1, true, .rep true (bt s i == 42) t.x⟩
    else if bt s i = 43 then marks s f (i + 1) ⟨t.sz + 1, t.em, .rep false true t.x⟩
    else .ok t i

/-- A leaf's atom: all but round brackets. -/
def leafAt (s : ByteArray) (f i : Nat) : PR (Nat → Bool) :=
  if bt s i = 91 then cls s f (i + 1)
  else if bt s i = 46 then .ok (fun x => !eqB 10 x) (i + 1)
  else if bt s i = 92 then (esc s (i + 1)).bind fun b j => .ok (eqB b) j
  else if plain (bt s i) then .ok (eqB (bt s i)) (i + 1)
  else .bad i

mutual
/-- An atom, with so many round brackets open. -/
def atom (s : ByteArray) (f o i : Nat) : PR T :=
  match f with
  | 0 => .out
  | f + 1 =>
    if bt s i = 40 then
      if o = 20 then .bad i else
      (alt s f (o + 1) (i + 1)).bind fun t j => if bt s j = 41 then .ok t (j + 1) else .bad j
    else (leafAt s f i).bind fun p j => .ok ⟨1, false, .set p⟩ j
  termination_by structural f
/-- An atom with its marks. -/
def marked (s : ByteArray) (f o i : Nat) : PR T :=
  match f with
  | 0 => .out
  | f + 1 =>
    (atom s f o i).bind fun t j => marks s f j t
  termination_by structural f
/-- More of a row, behind what was read of it. -/
def rowOn (s : ByteArray) (f o i : Nat) (t : T) : PR T :=
  match f with
  | 0 => .out
  | f + 1 =>
    if begins (bt s i) then
      (marked s f o i).bind fun u j => rowOn s f o j ⟨t.sz + u.sz, t.em && u.em, t.x.snoc u.x⟩
    else .ok t i
  termination_by structural f
def row (s : ByteArray) (f o i : Nat) : PR T :=
  match f with
  | 0 => .out
  | f + 1 =>
    (marked s f o i).bind fun u j => rowOn s f o j ⟨u.sz, u.em, .row [u.x]⟩
  termination_by structural f
def altOn (s : ByteArray) (f o i : Nat) (t : T) : PR T :=
  match f with
  | 0 => .out
  | f + 1 =>
    if bt s i = 124 then
      (row s f o (i + 1)).bind fun u j => altOn s f o j ⟨t.sz + 1 + u.sz, t.em || u.em, t.x.snoc u.x⟩
    else .ok t i
  termination_by structural f
def alt (s : ByteArray) (f o i : Nat) : PR T :=
  match f with
  | 0 => .out
  | f + 1 =>
    (row s f o i).bind fun u j => altOn s f o j ⟨u.sz, u.em, .alt [u.x]⟩
  termination_by structural f
end

end Go.Proofs.YtjhmlcilabnlbaaDoor.P
/- The reader of the document's answer in memory, and what a call leaves of the world: the words of all walks. -/
namespace Go.Proofs.YtjhmlcilabnlbaaDoor
open Go.RowKit

theorem hid {p : Prop} (h : p) : Hid p := h

/-- The reader's block. -/
def RB (w : World) (b : Nat) (s : ByteArray) (i o z : Nat) (B : Int) : Prop :=
  w.heap[b]? = some (.cells #[.string s, .int .i64 (i : Int), .int .i64 (o : Int), .int .i64 (z : Int), .int .i64 B] 58 (0, 0))

/-- All that was there is as it was, but for block b. -/
structure Only (b : Nat) (w w' : World) : Prop where
  os : w'.os = w.os
  tape : w'.tape = w.tape
  output : w'.output = w.output
  size : w.heap.size ≤ w'.heap.size
  block : ∀ k, k < w.heap.size → k ≠ b → w'.heap[k]? = w.heap[k]?

theorem Only.refl (b : Nat) (w : World) : Only b w w := ⟨rfl, rfl, rfl, Nat.le_refl _, fun _ _ _ => rfl⟩
theorem Only.trans {b : Nat} {x y z : World} (h : Only b x y) (k : Only b y z) : Only b x z :=
  ⟨k.os.trans h.os, k.tape.trans h.tape, k.output.trans h.output, Nat.le_trans h.size k.size, fun i hi hb => (k.block i (Nat.lt_of_lt_of_le hi h.size) hb).trans (h.block i hi hb)⟩
theorem Only.drewN {b : Nat} {x y : World} (h : Only b x y) (n : Nat) : Only b x (y.drewN n) := ⟨h.os, h.tape, h.output, h.size, h.block⟩
theorem Only.drew {b : Nat} {x y : World} (h : Only b x y) : Only b x y.drew := ⟨h.os, h.tape, h.output, h.size, h.block⟩
theorem Only.setCell {b : Nat} {x y : World} (h : Only b x y) {p : Addr} (hp : p.block = b) (u : Value) : Only b x (y.setCell p u) :=
  h.trans ⟨rfl, rfl, rfl, by simp [World.setCell], fun k _ hb => Below.heap_setCell _ _ _ _ (by omega)⟩
theorem Only.alloc {b : Nat} {x y : World} (h : Only b x y) (o : Obj) : Only b x (y.alloc o) :=
  h.trans ⟨rfl, rfl, rfl, by simp, fun k hk _ => Below.heap_alloc _ _ _ (by omega)⟩

theorem RB.lt {w : World} {b : Nat} {s : ByteArray} {i o z : Nat} {B : Int} (h : RB w b s i o z B) : b < w.heap.size := by
  unfold RB at h
  by_cases hb : b < w.heap.size
  · exact hb
  · simp [hb] at h

theorem RB.drewN {w : World} {b : Nat} {s : ByteArray} {i o z : Nat} {B : Int} (h : RB w b s i o z B) (n : Nat) : RB (w.drewN n) b s i o z B := h
theorem RB.drew {w : World} {b : Nat} {s : ByteArray} {i o z : Nat} {B : Int} (h : RB w b s i o z B) : RB w.drew b s i o z B := h
theorem RB.c0 {w : World} {b : Nat} {s : ByteArray} {i o z : Nat} {B : Int} (h : RB w b s i o z B) : w.cell? ⟨b, 0, none⟩ = some (.string s) := by simp [World.cell?, show w.heap[b]? = _ from h]
theorem RB.c1 {w : World} {b : Nat} {s : ByteArray} {i o z : Nat} {B : Int} (h : RB w b s i o z B) : w.cell? ⟨b, 1, none⟩ = some (.int .i64 (i : Int)) := by simp [World.cell?, show w.heap[b]? = _ from h]
theorem RB.c2 {w : World} {b : Nat} {s : ByteArray} {i o z : Nat} {B : Int} (h : RB w b s i o z B) : w.cell? ⟨b, 2, none⟩ = some (.int .i64 (o : Int)) := by simp [World.cell?, show w.heap[b]? = _ from h]
theorem RB.c3 {w : World} {b : Nat} {s : ByteArray} {i o z : Nat} {B : Int} (h : RB w b s i o z B) : w.cell? ⟨b, 3, none⟩ = some (.int .i64 (z : Int)) := by simp [World.cell?, show w.heap[b]? = _ from h]
theorem RB.c4 {w : World} {b : Nat} {s : ByteArray} {i o z : Nat} {B : Int} (h : RB w b s i o z B) : w.cell? ⟨b, 4, none⟩ = some (.int .i64 B) := by simp [World.cell?, show w.heap[b]? = _ from h]
theorem RB.fz {w : World} {b : Nat} {s : ByteArray} {i o z : Nat} {B : Int} (h : RB w b s i o z B) (k : Nat) : w.frozen? ⟨b, k, none⟩ = false := by
  simp [World.frozen?, show w.heap[b]? = _ from h]
theorem heap_setCell_same {w : World} {a : Addr} {c : Array Value} {e : TypeId} {fz : Nat × Nat} (h : w.heap[a.block]? = some (.cells c e fz)) (hs : a.spot = none) (u : Value) :
    (w.setCell a u).heap[a.block]? = some (.cells (c.setIfInBounds a.off u) e fz) := by
  simp [World.setCell, Array.getElem?_modify, h, hs]
theorem RB.set1 {w : World} {b : Nat} {s : ByteArray} {i o z : Nat} {B : Int} (h : RB w b s i o z B) {j : Nat} {x : Int} (hx : x = (j : Int)) : RB (w.setCell ⟨b, 1, none⟩ (.int .i64 x)) b s j o z B := by
  subst hx; exact heap_setCell_same (a := ⟨b, 1, none⟩) h rfl _
theorem RB.set2 {w : World} {b : Nat} {s : ByteArray} {i o z : Nat} {B : Int} (h : RB w b s i o z B) {j : Nat} {x : Int} (hx : x = (j : Int)) : RB (w.setCell ⟨b, 2, none⟩ (.int .i64 x)) b s i j z B := by
  subst hx; exact heap_setCell_same (a := ⟨b, 2, none⟩) h rfl _
theorem RB.set3 {w : World} {b : Nat} {s : ByteArray} {i o z : Nat} {B : Int} (h : RB w b s i o z B) {j : Nat} {x : Int} (hx : x = (j : Int)) : RB (w.setCell ⟨b, 3, none⟩ (.int .i64 x)) b s i o j B := by
  subst hx; exact heap_setCell_same (a := ⟨b, 3, none⟩) h rfl _
theorem RB.set4 {w : World} {b : Nat} {s : ByteArray} {i o z : Nat} {B : Int} (h : RB w b s i o z B) (x : Int) : RB (w.setCell ⟨b, 4, none⟩ (.int .i64 x)) b s i o z x :=
  heap_setCell_same (a := ⟨b, 4, none⟩) h rfl _
theorem RB.only {w w' : World} {b c : Nat} {s : ByteArray} {i o z : Nat} {B : Int} (h : RB w b s i o z B) (hk : Only c w w') (hn : b ≠ c) : RB w' b s i o z B :=
  (hk.block b h.lt hn).trans h

/-- How a reading's outcome stands in the reader: the value and the place, or the fault's place. -/
def Fits {α : Type} (r : P.PR α) (v : α) (i : Nat) (B : Int) : Prop :=
  match r with
  | .ok a j => v = a ∧ i = j ∧ B = -1
  | .bad p => B = (p : Int)
  | .out => False

/-- Where a fault has been met already, nothing more is read. -/
def gate {α : Type} (B : Int) (r : P.PR α) : P.PR α := if B < 0 then r else .bad B.toNat

theorem gate_neg {α : Type} (r : P.PR α) : gate (-1) r = r := rfl
theorem gate_pos {α : Type} {B : Int} (h : 0 ≤ B) (r : P.PR α) : gate B r = .bad B.toNat := by unfold gate; rw [if_neg (by omega)]

/-- A fault's mark: none, or a place. -/
def Mark (B : Int) : Prop := B = -1 ∨ 0 ≤ B
theorem Fits.mark {α : Type} {r : P.PR α} {v : α} {i : Nat} {B : Int} (h : Fits r v i B) : Mark B := by
  cases r with
  | ok a j => exact Or.inl h.2.2
  | bad p => exact Or.inr (by have : B = (p : Int) := h; omega)
  | out => exact h.elim

theorem Fits.bind {α β : Type} {B0 B C : Int} {r : P.PR α} {g : α → Nat → P.PR β} {v : α} {u : β} {i j : Nat} (h : Fits (gate B0 r) v i B) (k : Fits (gate B (g v i)) u j C) : Fits (gate B0 (r.bind g)) u j C := by
  by_cases hB : B0 < 0
  · unfold gate at h ⊢
    rw [if_pos hB] at h ⊢
    cases r with
    | out => exact h.elim
    | bad p =>
      have hp : B = (p : Int) := h
      rw [gate_pos (by omega)] at k
      have : C = (B.toNat : Int) := k
      show C = (p : Int)
      omega
    | ok a q =>
      obtain ⟨rfl, rfl, rfl⟩ := h
      exact k
  · rw [gate_pos (by omega)] at h ⊢
    have hp : B = (B0.toNat : Int) := h
    rw [gate_pos (by omega)] at k
    have : C = (B.toNat : Int) := k
    show C = (B0.toNat : Int)
    omega
theorem Fits.ok {α : Type} (v : α) (i : Nat) : Fits (gate (-1) (.ok v i)) v i (-1) := ⟨rfl, rfl, rfl⟩
theorem Fits.bad {α : Type} (v : α) (i p : Nat) : Fits (gate (-1) (.bad p)) v i (p : Int) := rfl
/-- Where a fault has been met, the rest is as you like. -/
theorem Fits.past {α : Type} {B : Int} (h : 0 ≤ B) (r : P.PR α) (v : α) (i : Nat) : Fits (gate B r) v i B := by
  rw [gate_pos h]; show B = _; omega

/-- Is this byte at hand, and no fault met? -/
def seen (B : Int) (s : ByteArray) (i : Nat) (c : Int) : Bool := decide (B < 0) && (P.bt s i == c)
/-- One place on, if so. -/
def stp (t : Bool) (i : Nat) : Nat := if t then i + 1 else i
theorem stp_true (i : Nat) : stp true i = i + 1 := rfl
theorem stp_false (i : Nat) : stp false i = i := rfl
/-- The mark of a fault: the first one stays. -/
def mrk (B p : Int) : Int := if B < 0 then p else B
theorem mrk_neg {B : Int} (h : B < 0) (p : Int) : mrk B p = p := if_pos h
theorem mrk_pos {B : Int} (h : 0 ≤ B) (p : Int) : mrk B p = B := if_neg (by omega)
theorem seen_true {B : Int} {s : ByteArray} {i : Nat} {c : Int} (h : seen B s i c = true) : B < 0 ∧ P.bt s i = c := by simpa [seen] using h
theorem seen_mk {B : Int} {s : ByteArray} {i : Nat} {c : Int} (h : B < 0) (k : P.bt s i = c) : seen B s i c = true := by simp [seen, h, k]
theorem seen_pos {B : Int} {s : ByteArray} {i : Nat} {c : Int} (h : 0 ≤ B) : seen B s i c = false := by
  have : ¬ B < 0 := by omega
  simp [seen, this]
theorem seen_ne {B : Int} {s : ByteArray} {i : Nat} {c : Int} (h : P.bt s i ≠ c) : seen B s i c = false := by simp [seen, h]

/-- The mark behind a byte that has to stand there. -/
def need (B : Int) (s : ByteArray) (i : Nat) (c : Int) : Int := if seen B s i c then B else mrk B (i : Int)

theorem ret_bool {a b : Bool} (h : a = b) : Ending.returned (.bool a) = .returned (.bool b) := by rw [h]
theorem ret_int {k : IntKind} {a b : Int} (h : a = b) : Ending.returned (.int k a) = .returned (.int k b) := by rw [h]

/-- What a call that hands back a number leaves. -/
def OutI (s : ByteArray) (b o z i : Nat) (m : Int) (r : P.PR Int) (w : World) (e : Ending) (w' : World) : Prop :=
  ∃ (v : Int) (i' : Nat) (B' : Int), e = .returned (.int .i64 v) ∧ RB w' b s i' o z B' ∧ Only b w w' ∧ 0 ≤ v ∧ v ≤ m ∧ (i ≤ i' ∧ i' ≤ s.size) ∧ Fits r v i' B'

theorem bt_lt {s : ByteArray} {i : Nat} (h : i < s.size) : P.bt s i = ((s[i].toNat : Nat) : Int) := by unfold P.bt; rw [dif_pos h]
theorem bt_ge {s : ByteArray} {i : Nat} (h : ¬ i < s.size) : P.bt s i = -1 := by unfold P.bt; rw [dif_neg h]
theorem bt_range (s : ByteArray) (i : Nat) : -1 ≤ P.bt s i ∧ P.bt s i ≤ 255 := by
  unfold P.bt; split
  · have := s[i].toNat_lt; omega
  · omega
theorem lt_of_bt {s : ByteArray} {i : Nat} (h : 0 ≤ P.bt s i) : i < s.size := by
  by_cases hl : i < s.size
  · exact hl
  · rw [bt_ge hl] at h; omega

end Go.Proofs.YtjhmlcilabnlbaaDoor
/- The program: its reader in memory; the small functions. -/
namespace Go.Proofs.YtjhmlcilabnlbaaDoor
open Go.RowKit

/-- The program's reader. -/
def QB (w : World) (b : Nat) (s : ByteArray) (i o : Nat) : Prop :=
  w.heap[b]? = some (.cells #[.string s, .int .i64 (i : Int), .int .i64 (o : Int)] 69 (0, 0))

theorem QB.lt {w : World} {b : Nat} {s : ByteArray} {i o : Nat} (h : QB w b s i o) : b < w.heap.size := by
  unfold QB at h
  by_cases hb : b < w.heap.size
  · exact hb
  · simp [hb] at h
theorem QB.drewN {w : World} {b : Nat} {s : ByteArray} {i o : Nat} (h : QB w b s i o) (n : Nat) : QB (w.drewN n) b s i o := h
theorem QB.c0 {w : World} {b : Nat} {s : ByteArray} {i o : Nat} (h : QB w b s i o) : w.cell? ⟨b, 0, none⟩ = some (.string s) := by simp [World.cell?, show w.heap[b]? = _ from h]
theorem QB.c1 {w : World} {b : Nat} {s : ByteArray} {i o : Nat} (h : QB w b s i o) : w.cell? ⟨b, 1, none⟩ = some (.int .i64 (i : Int)) := by simp [World.cell?, show w.heap[b]? = _ from h]
theorem QB.c2 {w : World} {b : Nat} {s : ByteArray} {i o : Nat} (h : QB w b s i o) : w.cell? ⟨b, 2, none⟩ = some (.int .i64 (o : Int)) := by simp [World.cell?, show w.heap[b]? = _ from h]
theorem QB.fz {w : World} {b : Nat} {s : ByteArray} {i o : Nat} (h : QB w b s i o) (k : Nat) : w.frozen? ⟨b, k, none⟩ = false := by
  simp [World.frozen?, show w.heap[b]? = _ from h]
theorem QB.set1 {w : World} {b : Nat} {s : ByteArray} {i o : Nat} (h : QB w b s i o) {j : Nat} {x : Int} (hx : x = (j : Int)) : QB (w.setCell ⟨b, 1, none⟩ (.int .i64 x)) b s j o := by
  subst hx; exact heap_setCell_same (a := ⟨b, 1, none⟩) h rfl _
theorem QB.set2 {w : World} {b : Nat} {s : ByteArray} {i o : Nat} (h : QB w b s i o) {j : Nat} {x : Int} (hx : x = (j : Int)) : QB (w.setCell ⟨b, 2, none⟩ (.int .i64 x)) b s i j := by
  subst hx; exact heap_setCell_same (a := ⟨b, 2, none⟩) h rfl _
theorem QB.only {w w' : World} {b c : Nat} {s : ByteArray} {i o : Nat} (h : QB w b s i o) (hk : Only c w w') (hn : b ≠ c) : QB w' b s i o :=
  (hk.block b h.lt hn).trans h

/-- The byte ahead as the program has it: 0 behind the end. -/
def pk (s : ByteArray) (i : Nat) : Int := if P.bt s i < 0 then 0 else P.bt s i
theorem pk_range (s : ByteArray) (i : Nat) : 0 ≤ pk s i ∧ pk s i ≤ 255 := by
  have := bt_range s i
  unfold pk; split <;> omega
theorem pk_eq {s : ByteArray} {i : Nat} {c : Int} (hc : 0 < c) : (pk s i == c) = (P.bt s i == c) := by
  unfold pk
  split
  · rw [Bool.eq_iff_iff, beq_iff_eq, beq_iff_eq]; omega
  · rfl

def idx (s : ByteArray) (c : Int) : Int := firstIdx s c.toNat.toUInt8

theorem Tryd.run53 (s : ByteArray) (c : Int) (w : World) : (callFunc 98 #[.string s, .int .u8 c]).run Tryd.prog w = .ok (.value (.int .i64 (idx s c))) w := by
  rw [run_callFunc_indexByte Tryd.func98 (by kernel_rfl) (by kernel_rfl) (by kernel_rfl) (by kernel_rfl), run_indexByte_string]
  rfl

set_option maxHeartbeats 400000 in
theorem index_any (s : ByteArray) (c : Int) (w : World) :
    Calls Tryd.prog 78 #[.string s, .int .u8 c] w fun e w' => e = .returned (.int .i64 (idx s c)) ∧ w' = w := by
  have h53 := Tryd.run53
  go_enter Tryd.func78, Tryd.ntmps78
  go_wp2
  go_ret
  exact ⟨rfl, rfl⟩

def plainS (sp : ByteArray) (c : Int) : Bool := decide (33 ≤ c) && decide (c ≤ 126) && decide (idx sp c < 0)

set_option maxHeartbeats 400000 in
theorem isPlain_any (sp : ByteArray) (c : Int) (w : World) :
    Calls Tryd.prog 79 #[.int .u8 c, .string sp] w fun e w' => e = .returned (.bool (plainS sp c)) ∧ w' = w := by
  by_cases h1 : 33 ≤ c
  · by_cases h2 : c ≤ 126
    · go_enter Tryd.func79, Tryd.ntmps79
      go_wp2_with (go_at_call 78; refine (index_any _ _ _).mono ?_; rintro e w' ⟨rfl, rfl⟩)
      go_ret
      exact ⟨ret_bool (by unfold plainS; simp [h1, h2]), rfl⟩
    · have h2' : decide (c ≤ 126) = false := by simpa using h2
      go_enter Tryd.func79, Tryd.ntmps79
      go_wp2_with (go_at_call 78; refine (index_any _ _ _).mono ?_; rintro e w' ⟨rfl, rfl⟩)
      go_ret
      exact ⟨ret_bool (by unfold plainS; rw [h2']; simp), rfl⟩
  · have h1' : decide (33 ≤ c) = false := by simpa using h1
    go_enter Tryd.func79, Tryd.ntmps79
    go_wp2_with (go_at_call 78; refine (index_any _ _ _).mono ?_; rintro e w' ⟨rfl, rfl⟩)
    go_ret
    exact ⟨ret_bool (by unfold plainS; rw [h1']; simp), rfl⟩

def letter (c : Int) : Bool := decide (97 ≤ c) && decide (c ≤ 122)
set_option maxHeartbeats 400000 in
theorem letter_any (c : Int) (w : World) :
    Calls Tryd.prog 59 #[.int .u8 c] w fun e w' => e = .returned (.bool (letter c)) ∧ w' = w := by
  by_cases h1 : 97 ≤ c
  · go_enter Tryd.func59, Tryd.ntmps59
    go_wp2
    go_ret
    exact ⟨ret_bool (by unfold letter; simp [h1]), rfl⟩
  · have h1' : decide (97 ≤ c) = false := by simpa using h1
    go_enter Tryd.func59, Tryd.ntmps59
    go_wp2
    go_ret
    exact ⟨ret_bool (by unfold letter; rw [h1']; simp), rfl⟩

set_option maxHeartbeats 400000 in
theorem peek_any (b : Nat) (s : ByteArray) (i o : Nat) (w : World) (h : QB w b s i o) :
    Calls Tryd.prog 47 #[.pointer (some ⟨b, 0, none⟩)] w fun e w' => e = .returned (.int .u8 (pk s i)) ∧ ∃ n, w' = w.drewN n := by
  have c0 := h.c0
  have c1 := h.c1
  clear h
  by_cases hl : i < s.size
  · have hl' : (i : Int) < (s.size : Int) := by omega
    have hl2 : decide ((s.size : Int) ≤ (i : Int)) = false := by simp; omega
    have hl3 : decide (s.size ≤ i) = false := by simp; omega
    have HP : Hid (pk s i = ((s[i].toNat : Nat) : Int)) := by unfold Hid pk; rw [bt_lt hl, if_neg (by omega)]
    go_enter Tryd.func47, Tryd.ntmps47
    go_wp2
    go_quiet (fail)
    go_wp2
    go_quiet (fail)
    go_wp2
    go_ret
    refine ⟨ret_int HP.out.symm, ?_⟩
    simp only [World.drewN_drewN]
    exact ⟨_, rfl⟩
  · have hl2 : (s.size : Int) ≤ (i : Int) := by omega
    have HP : Hid (pk s i = 0) := by unfold Hid pk; rw [bt_ge hl]; rfl
    go_enter Tryd.func47, Tryd.ntmps47
    go_wp2
    go_quiet (fail)
    go_wp2
    go_ret
    exact ⟨ret_int HP.out.symm, _, rfl⟩

/-- Is this byte ahead? -/
def ahd (s : ByteArray) (i : Nat) (c : Int) : Bool := P.bt s i == c
theorem ahd_true {s : ByteArray} {i : Nat} {c : Int} (h : ahd s i c = true) : P.bt s i = c := by simpa [ahd] using h
theorem ahd_false {s : ByteArray} {i : Nat} {c : Int} (h : ahd s i c = false) : P.bt s i ≠ c := by simpa [ahd] using h

set_option maxHeartbeats 400000 in
theorem take_any (c : Int) (b : Nat) (s : ByteArray) (i o : Nat) (w : World) (hs : s.size ≤ 400) (hR : QB w b s i o) (hc : 0 < c) :
    Calls Tryd.prog 32 #[.pointer (some ⟨b, 0, none⟩), .int .u8 c] w fun e w' => e = .returned (.bool (ahd s i c)) ∧ QB w' b s (stp (ahd s i c) i) o ∧ Only b w w' := by
  have c1 := hR.c1
  have f1 := hR.fz 1
  have HE := hid (pk_eq (s := s) (i := i) hc)
  cases hb : ahd s i c with
  | true =>
    have hlt : i < s.size := lt_of_bt (by have := ahd_true hb; omega)
    have hp : (pk s i == c) = true := by rw [HE.out]; exact hb
    have hp2 : (pk s i != c) = false := by rw [bne, hp]; rfl
    go_enter Tryd.func32, Tryd.ntmps32
    go_wp2_with (go_at_call 47; refine (peek_any _ _ _ _ _ hR).mono ?_; rintro e w' ⟨rfl, nq, rfl⟩)
    go_ret
    exact ⟨rfl, (hR.drewN nq).set1 (by rw [stp_true]; omega), Only.setCell (p := ⟨b, 1, none⟩) ((Only.refl _ _).drewN _) rfl _⟩
  | false =>
    have hp : (pk s i == c) = false := by rw [HE.out]; exact hb
    have hp2 : (pk s i != c) = true := by rw [bne, hp]; rfl
    go_enter Tryd.func32, Tryd.ntmps32
    go_wp2_with (go_at_call 47; refine (peek_any _ _ _ _ _ hR).mono ?_; rintro e w' ⟨rfl, nq, rfl⟩)
    go_ret
    exact ⟨rfl, hR.drewN nq, (Only.refl _ _).drewN _⟩

set_option maxHeartbeats 400000 in
theorem ended_any (b : Nat) (s : ByteArray) (i o : Nat) (w : World) (hR : QB w b s i o) :
    Calls Tryd.prog 31 #[.pointer (some ⟨b, 0, none⟩)] w fun e w' => e = .returned (.bool (i == s.size)) ∧ ∃ n, w' = w.drewN n := by
  have c0 := hR.c0
  have c1 := hR.c1
  clear hR
  go_enter Tryd.func31, Tryd.ntmps31
  go_wp2
  go_quiet (fail)
  go_wp2
  go_ret
  exact ⟨ret_bool (by rw [Bool.eq_iff_iff]; simp; omega), _, rfl⟩

/-- The two lists of bytes that do not stand for themselves. -/
theorem plain_row {c : Int} (h0 : 0 ≤ c) (h1 : c ≤ 255) : plainS ⟨#[92, 46, 91, 93, 40, 41, 42, 43, 63, 124]⟩ c = P.plain c := by
  have : ∀ k : Fin 256, plainS ⟨#[92, 46, 91, 93, 40, 41, 42, 43, 63, 124]⟩ ((k.1 : Nat) : Int) = P.plain ((k.1 : Nat) : Int) := by decide +kernel
  have h := this ⟨c.toNat, by omega⟩
  rwa [show (((⟨c.toNat, by omega⟩ : Fin 256).1 : Nat) : Int) = c from by show (c.toNat : Int) = c; omega] at h

theorem small_row {c : Int} (h0 : 0 ≤ c) (h1 : c ≤ 255) : plainS ⟨#[92, 93, 45, 94]⟩ c = (decide (33 ≤ c) && decide (c ≤ 126) && !(c == 92 || c == 93 || c == 45 || c == 94)) := by
  have : ∀ k : Fin 256, plainS ⟨#[92, 93, 45, 94]⟩ ((k.1 : Nat) : Int) = (decide (33 ≤ ((k.1 : Nat) : Int)) && decide (((k.1 : Nat) : Int) ≤ 126) && !(((k.1 : Nat) : Int) == 92 || ((k.1 : Nat) : Int) == 93 || ((k.1 : Nat) : Int) == 45 || ((k.1 : Nat) : Int) == 94)) := by decide +kernel
  have h := this ⟨c.toNat, by omega⟩
  rwa [show (((⟨c.toNat, by omega⟩ : Fin 256).1 : Nat) : Int) = c from by show (c.toNat : Int) = c; omega] at h
theorem hex_row {c : Int} (h0 : 0 ≤ c) (h1 : c ≤ 255) : idx ⟨#[48, 49, 50, 51, 52, 53, 54, 55, 56, 57, 97, 98, 99, 100, 101, 102]⟩ c = P.hexV c := by
  have : ∀ k : Fin 256, idx ⟨#[48, 49, 50, 51, 52, 53, 54, 55, 56, 57, 97, 98, 99, 100, 101, 102]⟩ ((k.1 : Nat) : Int) = P.hexV ((k.1 : Nat) : Int) := by decide +kernel
  have h := this ⟨c.toNat, by omega⟩
  rwa [show (((⟨c.toNat, by omega⟩ : Fin 256).1 : Nat) : Int) = c from by show (c.toNat : Int) = c; omega] at h
def escTail (c : Int) : Bool := c == 92 || c == 46 || c == 91 || c == 93 || c == 40 || c == 41 || c == 42 || c == 43 || c == 63 || c == 124 || c == 45 || c == 94
theorem esc_row {c : Int} (h0 : 0 ≤ c) (h1 : c ≤ 255) : decide (0 ≤ idx ⟨#[92, 46, 91, 93, 40, 41, 42, 43, 63, 124, 45, 94]⟩ c) = escTail c := by
  have : ∀ k : Fin 256, decide (0 ≤ idx ⟨#[92, 46, 91, 93, 40, 41, 42, 43, 63, 124, 45, 94]⟩ ((k.1 : Nat) : Int)) = escTail ((k.1 : Nat) : Int) := by decide +kernel
  have h := this ⟨c.toNat, by omega⟩
  rwa [show (((⟨c.toNat, by omega⟩ : Fin 256).1 : Nat) : Int) = c from by show (c.toNat : Int) = c; omega] at h
theorem begins_row {c : Int} (h0 : 0 ≤ c) (h1 : c ≤ 255) : (decide (0 ≤ idx ⟨#[92, 46, 91, 40]⟩ c) || plainS ⟨#[92, 46, 91, 93, 40, 41, 42, 43, 63, 124]⟩ c) = P.begins c := by
  have : ∀ k : Fin 256, (decide (0 ≤ idx ⟨#[92, 46, 91, 40]⟩ ((k.1 : Nat) : Int)) || plainS ⟨#[92, 46, 91, 93, 40, 41, 42, 43, 63, 124]⟩ ((k.1 : Nat) : Int)) = P.begins ((k.1 : Nat) : Int) := by decide +kernel
  have h := this ⟨c.toNat, by omega⟩
  rwa [show (((⟨c.toNat, by omega⟩ : Fin 256).1 : Nat) : Int) = c from by show (c.toNat : Int) = c; omega] at h

set_option maxHeartbeats 400000 in
theorem begins_any (c : Int) (w : World) (h0 : 0 ≤ c) (h1 : c ≤ 255) :
    Calls Tryd.prog 65 #[.int .u8 c] w fun e w' => e = .returned (.bool (P.begins c)) ∧ w' = w := by
  have HB := hid (begins_row h0 h1)
  cases hd : decide (0 ≤ idx ⟨#[92, 46, 91, 40]⟩ c) with
  | true =>
    rw [hd, Bool.true_or] at HB
    go_enter Tryd.func65, Tryd.ntmps65
    go_wp2_with (first | (go_at_call 78; refine (index_any _ _ _).mono ?_; rintro e w' ⟨rfl, rfl⟩; rw [show (Value.bool (decide (0 ≤ idx ⟨#[92, 46, 91, 40]⟩ c))) = .bool true from by rw [hd]]) | (go_at_call 78; refine (index_any _ _ _).mono ?_; rintro e w' ⟨rfl, rfl⟩) | (go_at_call 79; refine (isPlain_any _ _ _).mono ?_; rintro e w' ⟨rfl, rfl⟩))
    go_ret
    exact ⟨ret_bool HB.out, rfl⟩
  | false =>
    rw [hd, Bool.false_or] at HB
    go_enter Tryd.func65, Tryd.ntmps65
    go_wp2_with (first | (go_at_call 78; refine (index_any _ _ _).mono ?_; rintro e w' ⟨rfl, rfl⟩) | (go_at_call 79; refine (isPlain_any _ _ _).mono ?_; rintro e w' ⟨rfl, rfl⟩))
    go_ret
    exact ⟨ret_bool HB.out, rfl⟩

end Go.Proofs.YtjhmlcilabnlbaaDoor
/- The whole text of rules: the plain reading. -/
namespace Go.Proofs.YtjhmlcilabnlbaaDoor.P

/-- A rule: its name, where it begins, what it is. -/
structure Rl where
  name : ByteArray
  pos : Nat
  t : T

/-- Behind a name's letters, at most so many. -/
def nameTo (s : ByteArray) : Nat → Nat → Nat
  | 0, i => i
  | n + 1, i => if 97 ≤ bt s i ∧ bt s i ≤ 122 then nameTo s n (i + 1) else i

def rule (s : ByteArray) (F i : Nat) : PR Rl :=
  if nameTo s 8 i = i then .bad i
  else if bt s (nameTo s 8 i) = 61 then (alt s F 0 (nameTo s 8 i + 1)).bind fun t k => .ok ⟨s.extract i (nameTo s 8 i), i, t⟩ k
  else .bad (nameTo s 8 i)

/-- The rules, behind those that were read. -/
def text (s : ByteArray) (F : Nat) : Nat → Nat → List Rl → PR (List Rl)
  | 0, _, _ => .out
  | g + 1, i, acc =>
    (rule s F i).bind fun r k =>
      if s.size ≤ k then .ok (acc ++ [r]) k
      else if bt s k = 10 then (if s.size ≤ k + 1 then .ok (acc ++ [r]) (k + 1) else text s F g (k + 1) (acc ++ [r]))
      else .bad k

end Go.Proofs.YtjhmlcilabnlbaaDoor.P
/- There is fuel enough: no reading of at most 400 bytes runs out; and each goes forward. -/
namespace Go.Proofs.YtjhmlcilabnlbaaDoor.P

/-- It did not run out, and went forward. -/
def Good {α : Type} (s : ByteArray) (i : Nat) (r : PR α) : Prop := r ≠ .out ∧ ∀ a j, r = .ok a j → i < j ∧ j ≤ s.size
def Fwd {α : Type} (s : ByteArray) (i : Nat) (r : PR α) : Prop := r ≠ .out ∧ ∀ a j, r = .ok a j → i ≤ j ∧ j ≤ s.size

theorem Good.bad {α : Type} (s : ByteArray) (i p : Nat) : Good s i (.bad p : PR α) := ⟨(by intro e; cases e), (by intro a j e; cases e)⟩
theorem Good.ok {α : Type} {s : ByteArray} {i j : Nat} (a : α) (h : i < j) (h' : j ≤ s.size) : Good s i (.ok a j) := ⟨(by intro e; cases e), (by intro b k e; cases e; exact ⟨h, h'⟩)⟩
theorem Fwd.bad {α : Type} (s : ByteArray) (i p : Nat) : Fwd s i (.bad p : PR α) := ⟨(by intro e; cases e), (by intro a j e; cases e)⟩
theorem Fwd.ok {α : Type} {s : ByteArray} {i j : Nat} (a : α) (h : i ≤ j) (h' : j ≤ s.size) : Fwd s i (.ok a j) := ⟨(by intro e; cases e), (by intro b k e; cases e; exact ⟨h, h'⟩)⟩
theorem Good.fwd {α : Type} {s : ByteArray} {i : Nat} {r : PR α} (h : Good s i r) : Fwd s i r := ⟨h.1, fun a j e => ⟨Nat.le_of_lt (h.2 a j e).1, (h.2 a j e).2⟩⟩
theorem Good.bind {α β : Type} {s : ByteArray} {i : Nat} {r : PR α} {g : α → Nat → PR β} (h : Good s i r) (k : ∀ a j, i < j → j ≤ s.size → Fwd s j (g a j)) : Good s i (r.bind g) := by
  cases r with
  | out => exact absurd rfl h.1
  | bad p => exact Good.bad _ _ _
  | ok a j =>
    obtain ⟨h1, h2⟩ := h.2 a j rfl
    obtain ⟨k1, k2⟩ := k a j h1 h2
    exact ⟨k1, fun b q e => by have := k2 b q e; omega⟩
theorem Fwd.bind {α β : Type} {s : ByteArray} {i : Nat} {r : PR α} {g : α → Nat → PR β} (h : Fwd s i r) (k : ∀ a j, i ≤ j → j ≤ s.size → Fwd s j (g a j)) : Fwd s i (r.bind g) := by
  cases r with
  | out => exact absurd rfl h.1
  | bad p => exact Fwd.bad _ _ _
  | ok a j =>
    obtain ⟨h1, h2⟩ := h.2 a j rfl
    obtain ⟨k1, k2⟩ := k a j h1 h2
    exact ⟨k1, fun b q e => by have := k2 b q e; omega⟩
theorem Good.at {α : Type} {s : ByteArray} {i j : Nat} {r : PR α} (h : Fwd s j r) (k : i < j) : Good s i r := ⟨h.1, fun a q e => by have := h.2 a q e; omega⟩
theorem Fwd.at {α : Type} {s : ByteArray} {i j : Nat} {r : PR α} (h : Fwd s j r) (k : i ≤ j) : Fwd s i r := ⟨h.1, fun a q e => by have := h.2 a q e; omega⟩

theorem lt_of {s : ByteArray} {i : Nat} (h : 0 ≤ bt s i) : i < s.size := by
  unfold bt at h
  by_cases hl : i < s.size
  · exact hl
  · rw [dif_neg hl] at h; omega

theorem hex_good (s : ByteArray) (i : Nat) : Good s i (hex s i) := by
  unfold hex; split
  · exact Good.bad _ _ _
  · rename_i h
    refine Good.ok _ (by omega) ?_
    have : 0 ≤ bt s i := by
      unfold hexV at h
      split at h
      · omega
      · split at h <;> omega
    exact lt_of this
theorem esc_good (s : ByteArray) (i : Nat) : Good s i (esc s i) := by
  unfold esc
  by_cases h : escSet (bt s i) = false
  · rw [if_pos h]; exact Good.bad _ _ _
  · have hp : 0 ≤ bt s i := by
      have h' : escSet (bt s i) = true := by simpa using h
      simp only [escSet, Bool.or_eq_true, beq_iff_eq] at h'
      omega
    have hl := lt_of hp
    rw [if_neg h]
    split
    · exact Good.ok _ (by omega) hl
    · split
      · exact Good.ok _ (by omega) hl
      · split
        · exact Good.ok _ (by omega) hl
        · split
          · exact Good.at (Good.bind (hex_good s (i + 1)) fun a j _ _ => (Good.bind (hex_good s j) fun b k _ h2 => Fwd.ok _ (Nat.le_refl _) h2).fwd).fwd (by omega)
          · exact Good.ok _ (by omega) hl
theorem small_good (s : ByteArray) (i : Nat) : Good s i (small s i) := by
  unfold small
  split
  · exact Good.at (esc_good s (i + 1)).fwd (by omega)
  · split
    · rename_i h; exact Good.ok _ (by omega) (lt_of (by omega))
    · exact Good.bad _ _ _
theorem item_good (s : ByteArray) (i : Nat) : Good s i (item s i) := by
  unfold item
  refine (small_good s i).bind fun lo j h1 h2 => ?_
  split
  · rename_i h
    refine Fwd.at (j := j + 1) ?_ (by omega)
    refine ((small_good s (j + 1)).fwd).bind fun hi k _ h4 => ?_
    split
    · exact Fwd.bad _ _ _
    · exact Fwd.ok _ (Nat.le_refl _) h4
  · exact Fwd.ok _ (Nat.le_refl _) h2
theorem items_good (s : ByteArray) : ∀ (f i : Nat) (acc : Nat → Bool), i ≤ s.size → s.size - i + 1 ≤ f → Good s i (items s f i acc) := by
  intro f
  induction f with
  | zero => intro i acc hi hf; omega
  | succ f ih =>
    intro i acc hi hf
    unfold items
    refine (item_good s i).bind fun lh j h1 h2 => ?_
    split
    · exact Fwd.ok _ (Nat.le_refl _) h2
    · exact (ih j _ h2 (by omega)).fwd
theorem cls_good (s : ByteArray) (f i : Nat) (hi : i ≤ s.size) (hf : s.size - i + 1 ≤ f) : Good s i (cls s f i) := by
  unfold cls
  have key : ∀ i0, i ≤ i0 → i0 ≤ s.size → Good s i ((items s f i0 (fun _ => false)).bind fun acc j => if some256 acc (bt s i == 94) then (.ok (fun x => acc x != (bt s i == 94)) (j + 1) : PR (Nat → Bool)) else .bad j) := by
    intro i0 h1 h2
    have hg := items_good s f i0 (fun _ => false) h2 (by omega)
    cases hr : items s f i0 (fun _ => false) with
    | out => exact absurd hr hg.1
    | bad p => exact Good.bad _ _ _
    | ok acc j =>
      obtain ⟨h3, h4⟩ := hg.2 _ _ hr
      show Good s i (if some256 acc (bt s i == 94) then (.ok (fun x => acc x != (bt s i == 94)) (j + 1) : PR (Nat → Bool)) else .bad j)
      split
      · refine Good.ok _ (by omega) ?_
        -- behind the items stands the bracket
        have : ∀ (f i : Nat) (a b : Nat → Bool) (j : Nat), items s f i a = .ok b j → bt s j = 93 := by
          intro f
          induction f with
          | zero => intro i a b j e; cases e
          | succ f ih =>
            intro i a b j e
            unfold items at e
            cases hi : item s i with
            | out => rw [hi] at e; cases e
            | bad p => rw [hi] at e; cases e
            | ok lh q =>
              rw [hi] at e
              replace e : (if bt s q = 93 then (.ok (add a lh.1 lh.2) q : PR (Nat → Bool)) else items s f q (add a lh.1 lh.2)) = .ok b j := e
              by_cases h93 : bt s q = 93
              · rw [if_pos h93] at e; cases e; exact h93
              · rw [if_neg h93] at e; exact ih _ _ _ _ e
        exact lt_of (by rw [this _ _ _ _ _ hr]; omega)
      · exact Good.bad _ _ _
  split
  · rename_i h; exact key (i + 1) (by omega) (lt_of (by omega))
  · exact key i (Nat.le_refl _) hi
theorem leafAt_good (s : ByteArray) (f i : Nat) (_hi : i ≤ s.size) (hf : s.size - i + 1 ≤ f) : Good s i (leafAt s f i) := by
  unfold leafAt
  split
  · rename_i h
    have := lt_of (s := s) (i := i) (by omega)
    exact Good.at (cls_good s f (i + 1) (by omega) (by omega)).fwd (by omega)
  · split
    · rename_i h; exact Good.ok _ (by omega) (lt_of (by omega))
    · split
      · exact Good.at (Good.bind (esc_good s (i + 1)) fun a j _ h2 => Fwd.ok _ (Nat.le_refl _) h2).fwd (by omega)
      · split
        · rename_i h
          refine Good.ok _ (by omega) (lt_of ?_)
          simp only [plain, Bool.and_eq_true, decide_eq_true_eq] at h
          omega
        · exact Good.bad _ _ _
theorem marks_good (s : ByteArray) : ∀ (f i : Nat) (t : T), i ≤ s.size → s.size - i + 1 ≤ f → Fwd s i (marks s f i t) := by
  intro f
  induction f with
  | zero => intro i t hi hf; omega
  | succ f ih =>
    intro i t hi hf
    unfold marks
    split
    · rename_i h
      have := lt_of (s := s) (i := i) (by omega)
      exact Fwd.at (ih (i + 1) _ (by omega) (by omega)) (by omega)
    · split
      · rename_i h
        have := lt_of (s := s) (i := i) (by omega)
        exact Fwd.at (ih (i + 1) _ (by omega) (by omega)) (by omega)
      · exact Fwd.ok _ (Nat.le_refl _) hi

theorem all_good (s : ByteArray) : ∀ f : Nat,
    (∀ o i, i ≤ s.size → 8 * (s.size - i) + 5 ≤ f → Good s i (atom s f o i)) ∧
    (∀ o i, i ≤ s.size → 8 * (s.size - i) + 6 ≤ f → Good s i (marked s f o i)) ∧
    (∀ o i t, i ≤ s.size → 8 * (s.size - i) + 7 ≤ f → Fwd s i (rowOn s f o i t)) ∧
    (∀ o i, i ≤ s.size → 8 * (s.size - i) + 7 ≤ f → Good s i (row s f o i)) ∧
    (∀ o i t, i ≤ s.size → 8 * (s.size - i) + 7 ≤ f → Fwd s i (altOn s f o i t)) ∧
    (∀ o i, i ≤ s.size → 8 * (s.size - i) + 8 ≤ f → Good s i (alt s f o i)) := by
  intro f
  induction f with
  | zero => refine ⟨?_, ?_, ?_, ?_, ?_, ?_⟩ <;> (intros; omega)
  | succ f ih =>
    obtain ⟨hA, hM, hRo, hR, hAo, hL⟩ := ih
    refine ⟨?_, ?_, ?_, ?_, ?_, ?_⟩
    · intro o i hi hf
      unfold atom
      split
      · rename_i h
        have hlt := lt_of (s := s) (i := i) (by omega)
        split
        · exact Good.bad _ _ _
        · refine Good.at (j := i + 1) ?_ (by omega)
          refine (hL (o + 1) (i + 1) (by omega) (by omega)).fwd.bind fun t j h1 h2 => ?_
          split
          · rename_i h41; exact Fwd.ok _ (by omega) (lt_of (by omega))
          · exact Fwd.bad _ _ _
      · exact (leafAt_good s f i hi (by omega)).bind fun a j _ h2 => Fwd.ok _ (Nat.le_refl _) h2
    · intro o i hi hf
      unfold marked
      exact (hA o i hi (by omega)).bind fun t j h1 h2 => marks_good s f j t h2 (by omega)
    · intro o i t hi hf
      unfold rowOn
      split
      · exact ((hM o i hi (by omega)).bind fun u j h1 h2 => hRo o j _ h2 (by omega)).fwd
      · exact Fwd.ok _ (Nat.le_refl _) hi
    · intro o i hi hf
      unfold row
      exact (hM o i hi (by omega)).bind fun u j h1 h2 => hRo o j _ h2 (by omega)
    · intro o i t hi hf
      unfold altOn
      split
      · rename_i h
        have hlt := lt_of (s := s) (i := i) (by omega)
        exact Fwd.at (((hR o (i + 1) (by omega) (by omega)).bind fun u j h1 h2 => hAo o j _ h2 (by omega)).fwd) (by omega)
      · exact Fwd.ok _ (Nat.le_refl _) hi
    · intro o i hi hf
      unfold alt
      exact (hR o i hi (by omega)).bind fun u j h1 h2 => hAo o j _ h2 (by omega)

/-- Behind the end nothing is read. -/
theorem alt_past (s : ByteArray) (f o i : Nat) (hi : s.size < i) : alt s (f + 5) o i ≠ .out := by
  have hb : bt s i = -1 := by unfold bt; rw [dif_neg (by omega)]
  have ha : atom s (f + 2) o i = .bad i := by
    unfold atom; simp only [hb]
    unfold leafAt; simp only [hb]
    rfl
  have hm : marked s (f + 3) o i = .bad i := by unfold marked; rw [ha]; rfl
  have hr : row s (f + 4) o i = .bad i := by unfold row; rw [hm]; rfl
  unfold alt; rw [hr]; intro e; cases e

theorem alt_enough (s : ByteArray) (hs : s.size ≤ 400) (o i : Nat) : alt s 3210 o i ≠ .out := by
  by_cases h : i ≤ s.size
  · exact ((all_good s 3210).2.2.2.2.2 o i h (by omega)).1
  · exact alt_past s 3205 o i (by omega)

theorem rule_good (s : ByteArray) (hs : s.size ≤ 400) (i : Nat) : Good s i (rule s 3210 i) := by
  have hge : ∀ n i, i ≤ nameTo s n i := by
    intro n
    induction n with
    | zero => intro i; exact Nat.le_refl _
    | succ n ih => intro i; unfold nameTo; split; have := ih (i + 1); omega; exact Nat.le_refl _
  unfold rule
  split
  · exact Good.bad _ _ _
  · split
    · rename_i h61
      have h1 := hge 8 i
      have h2 := lt_of (s := s) (i := nameTo s 8 i) (by omega)
      refine Good.at (j := nameTo s 8 i + 1) ?_ (by omega)
      exact ((all_good s 3210).2.2.2.2.2 0 (nameTo s 8 i + 1) (by omega) (by omega)).fwd.bind fun t k _ h4 => Fwd.ok _ (Nat.le_refl _) h4
    · exact Good.bad _ _ _

theorem text_enough (s : ByteArray) (hs : s.size ≤ 400) : ∀ (g i : Nat) (acc : List Rl), s.size - i + 1 ≤ g → text s 3210 g i acc ≠ .out := by
  intro g
  induction g with
  | zero => intro i acc h; omega
  | succ g ih =>
    intro i acc h
    unfold text
    have hr := rule_good s hs i
    cases he : rule s 3210 i with
    | out => exact absurd he hr.1
    | bad p => intro e; cases e
    | ok r k =>
      obtain ⟨h1, h2⟩ := hr.2 _ _ he
      show (if s.size ≤ k then (.ok (acc ++ [r]) k : PR (List Rl)) else if bt s k = 10 then (if s.size ≤ k + 1 then .ok (acc ++ [r]) (k + 1) else text s 3210 g (k + 1) (acc ++ [r])) else .bad k) ≠ .out
      split
      · intro e; cases e
      · split
        · split
          · intro e; cases e
          · exact ih (k + 1) _ (by omega)
        · intro e; cases e

end Go.Proofs.YtjhmlcilabnlbaaDoor.P
/- The program: hex, escape, single. -/
namespace Go.Proofs.YtjhmlcilabnlbaaDoor
open Go.RowKit

/-- What a call of the program's reader comes to: the value, the place, and whether it went well. -/
def Fit2 {α : Type} (r : P.PR α) (v : α) (i : Nat) (k : Bool) : Prop :=
  match r with
  | .ok a j => k = true ∧ v = a ∧ i = j
  | .bad p => k = false ∧ i = p
  | .out => False
/-- The same, the reader still standing on the last byte. -/
def FitL {α : Type} (r : P.PR α) (v : α) (i : Nat) (k : Bool) : Prop :=
  match r with
  | .ok a j => k = true ∧ v = a ∧ i + 1 = j
  | .bad p => k = false ∧ i = p
  | .out => False

theorem hexV_pk (s : ByteArray) (i : Nat) : P.hexV (pk s i) = P.hexV (P.bt s i) := by
  unfold pk
  split
  · rename_i h
    have := bt_range s i
    rw [show P.bt s i = -1 from by omega]; rfl
  · rfl
theorem hexV_le (c : Int) : -1 ≤ P.hexV c ∧ P.hexV c ≤ 15 := by
  unfold P.hexV; split
  · omega
  · split <;> omega
theorem hexV_size {s : ByteArray} {i : Nat} (h : ¬ P.hexV (P.bt s i) < 0) : i < s.size := by
  apply lt_of_bt
  unfold P.hexV at h
  split at h
  · omega
  · split at h <;> omega

/-- Two digits. -/
def two (s : ByteArray) (i : Nat) : P.PR Int := (P.hex s i).bind fun a j => (P.hex s j).bind fun b q => .ok (16 * a + b) q
theorem two_first {s : ByteArray} {i : Nat} (h : P.hexV (P.bt s i) < 0) : two s i = .bad i := by unfold two P.hex; rw [if_pos h]; rfl
theorem two_second {s : ByteArray} {i : Nat} (h : ¬ P.hexV (P.bt s i) < 0) (h2 : P.hexV (P.bt s (i + 1)) < 0) : two s i = .bad (i + 1) := by
  unfold two P.hex; rw [if_neg h]
  show ((if P.hexV (P.bt s (i + 1)) < 0 then (.bad (i + 1) : P.PR Int) else .ok (P.hexV (P.bt s (i + 1))) (i + 1 + 1)).bind _) = _
  rw [if_pos h2]; rfl
theorem two_both {s : ByteArray} {i : Nat} (h : ¬ P.hexV (P.bt s i) < 0) (h2 : ¬ P.hexV (P.bt s (i + 1)) < 0) : two s i = .ok (16 * P.hexV (P.bt s i) + P.hexV (P.bt s (i + 1))) (i + 2) := by
  unfold two P.hex; rw [if_neg h]
  show ((if P.hexV (P.bt s (i + 1)) < 0 then (.bad (i + 1) : P.PR Int) else .ok (P.hexV (P.bt s (i + 1))) (i + 1 + 1)).bind _) = _
  rw [if_neg h2]; rfl

def OutB (s : ByteArray) (b o : Nat) (F : Int → Nat → Bool → Prop) (w : World) (e : Ending) (w' : World) : Prop :=
  ∃ (v : Int) (i' : Nat) (k : Bool), e = .returned (.tuple #[.int .u8 v, .bool k]) ∧ QB w' b s i' o ∧ Only b w w' ∧ 0 ≤ v ∧ v ≤ 255 ∧ i' ≤ s.size ∧ F v i' k

set_option maxHeartbeats 1000000 in
theorem phex_any (b : Nat) (s : ByteArray) (i o : Nat) (w : World) (hs : s.size ≤ 400) (hR : QB w b s i o) (hi : i < s.size) :
    Calls Tryd.prog 99 #[.pointer (some ⟨b, 0, none⟩)] w fun e w' => OutB s b o (FitL (two s (i + 1))) w e w' := by
  have hv1 := hexV_le (P.bt s (i + 1))
  have hv2 := hexV_le (P.bt s (i + 2))
  go_enter Tryd.func99, Tryd.ntmps99
  go_wp2_with fail
  go_loopg [4, 6] 2 (fun g v n wr => ∃ k : Nat, n = .int .i64 (k : Int) ∧ k + g = 2 ∧ i + k < s.size ∧ QB wr b s (i + k) o ∧ Only b w wr ∧ ((k = 0 ∧ v = .int .i64 0) ∨ (k = 1 ∧ 0 ≤ P.hexV (P.bt s (i + 1)) ∧ v = .int .i64 (P.hexV (P.bt s (i + 1)))) ∨ (k = 2 ∧ 0 ≤ P.hexV (P.bt s (i + 1)) ∧ 0 ≤ P.hexV (P.bt s (i + 2)) ∧ v = .int .i64 (16 * P.hexV (P.bt s (i + 1)) + P.hexV (P.bt s (i + 2))))))
  case atStart => exact ⟨0, rfl, rfl, hi, hR, Only.refl _ _, Or.inl ⟨rfl, rfl⟩⟩
  case round =>
    obtain ⟨k, rfl, hkg, hik, hR2, hO2, hv⟩ := hrel
    have c1 := hR2.c1
    have f1 := hR2.fz 1
    rcases hv with ⟨rfl, rfl⟩ | ⟨rfl, hd1, rfl⟩ | ⟨rfl, hd1, hd2, rfl⟩
    · go_wp2_with fail
      refine (peek_any _ _ (i + 1) _ _ (hR2.set1 (by omega))).mono ?_
      rintro e w3 ⟨rfl, n3, rfl⟩
      have hpr := pk_range s (i + 1)
      go_wp2_with fail
      refine (index_any _ _ _).mono ?_
      rintro e w4 ⟨rfl, rfl⟩
      rw [hex_row hpr.1 hpr.2, hexV_pk]
      have hO3 : Only b w ((wr.setCell ⟨b, 1, none⟩ (.int .i64 ((i : Int) + 1))).drewN n3) := (Only.setCell (p := ⟨b, 1, none⟩) hO2 rfl _).drewN _
      by_cases hd : P.hexV (P.bt s (i + 1)) < 0
      · have HT := hid (two_first hd)
        go_wp2_with fail
        go_ret2
        refine ⟨0, i + 1, false, rfl, (hR2.set1 (by omega)).drewN _, by simpa using hO3, by omega, by omega, by omega, ?_⟩
        rw [HT.out]; exact ⟨rfl, rfl⟩
      · have hlt := hexV_size hd
        have hd' : decide (P.hexV (P.bt s (i + 1)) < 0) = false := by simpa using hd
        have HD := hid hd
        clear hd
        go_wp2_with fail
        go_roundg 1
        case measure => omega
        case rel => exact ⟨1, rfl, rfl, hlt, (hR2.set1 (by omega)).drewN _, by simpa using hO3, Or.inr (Or.inl ⟨rfl, by have := HD.out; omega, rfl⟩)⟩
    · have hpos : 0 ≤ P.hexV (P.bt s (i + 1)) := by omega
      have HD1 := hid hd1
      clear hd1
      go_wp2_with fail
      refine (peek_any _ _ (i + 2) _ _ (hR2.set1 (by omega))).mono ?_
      rintro e w3 ⟨rfl, n3, rfl⟩
      have hpr := pk_range s (i + 2)
      go_wp2_with fail
      refine (index_any _ _ _).mono ?_
      rintro e w4 ⟨rfl, rfl⟩
      rw [hex_row hpr.1 hpr.2, hexV_pk]
      have hO3 : ∀ x : Int, Only b w ((wr.setCell ⟨b, 1, none⟩ (.int .i64 x)).drewN n3) := fun x => (Only.setCell (p := ⟨b, 1, none⟩) hO2 rfl _).drewN _
      by_cases hd : P.hexV (P.bt s (i + 2)) < 0
      · have HT := hid (two_second (by have := HD1.out; omega) hd)
        go_wp2_with fail
        go_ret2
        refine ⟨0, i + 2, false, rfl, (hR2.set1 (by omega)).drewN _, hO3 _, by omega, by omega, by omega, ?_⟩
        rw [HT.out]; exact ⟨rfl, rfl⟩
      · have hlt := hexV_size hd
        have hd' : decide (P.hexV (P.bt s (i + 2)) < 0) = false := by simpa using hd
        have hpos2 : 0 ≤ P.hexV (P.bt s (i + 2)) := by omega
        have HD := hid hd
        clear hd
        go_wp2_with fail
        go_roundg 0
        case measure => omega
        case rel => exact ⟨2, rfl, rfl, hlt, (hR2.set1 (by omega)).drewN _, hO3 _, Or.inr (Or.inr ⟨rfl, hpos, hpos2, by go_num⟩)⟩
    · have HT := hid (two_both (s := s) (i := i + 1) (by omega) (show ¬ P.hexV (P.bt s (i + 2)) < 0 by omega))
      have hp1 : 0 ≤ P.hexV (P.bt s (i + 1)) := by omega
      have hp2 : 0 ≤ P.hexV (P.bt s (i + 2)) := by omega
      clear hd1 hd2
      go_wp2_with fail
      go_ret2
      refine ⟨16 * P.hexV (P.bt s (i + 1)) + P.hexV (P.bt s (i + 2)), i + 2, true, rfl, hR2, hO2, by omega, by omega, by omega, ?_⟩
      rw [HT.out]; exact ⟨rfl, rfl, rfl⟩

/-- A single one: an escape, or a byte that stands for itself. -/
def singleP (sp : ByteArray) (s : ByteArray) (i : Nat) : P.PR Int :=
  if P.bt s i = 92 then P.esc s (i + 1) else if plainS sp (pk s i) then .ok (P.bt s i) (i + 1) else .bad i

theorem esc_two {s : ByteArray} {i : Nat} (h : P.bt s i = 120) : P.esc s i = two s (i + 1) := by
  unfold P.esc two
  rw [if_neg (by rw [h]; decide), if_neg (by omega), if_neg (by omega), if_neg (by omega), if_pos h]
theorem escB_n {s : ByteArray} {i : Nat} (h : P.bt s i = 110) : P.esc s i = .ok 10 (i + 1) := by simp [P.esc, h, P.escSet]
theorem escB_t {s : ByteArray} {i : Nat} (h : P.bt s i = 116) : P.esc s i = .ok 9 (i + 1) := by simp [P.esc, h, P.escSet]
theorem escB_s {s : ByteArray} {i : Nat} (h : P.bt s i = 115) : P.esc s i = .ok 32 (i + 1) := by simp [P.esc, h, P.escSet]
theorem escB_else {s : ByteArray} {i : Nat} (h1 : P.bt s i ≠ 110) (h2 : P.bt s i ≠ 116) (h3 : P.bt s i ≠ 115) (h4 : P.bt s i ≠ 120) : P.esc s i = if escTail (P.bt s i) then .ok (P.bt s i) (i + 1) else .bad i := by
  have e : P.escSet (P.bt s i) = escTail (P.bt s i) := by
    unfold P.escSet escTail
    rw [show (P.bt s i == 110) = false from beq_false_of_ne h1, show (P.bt s i == 116) = false from beq_false_of_ne h2, show (P.bt s i == 115) = false from beq_false_of_ne h3, show (P.bt s i == 120) = false from beq_false_of_ne h4]
    simp
  unfold P.esc
  rw [e]
  cases ht : escTail (P.bt s i) with
  | false => rfl
  | true => rw [if_neg (by decide), if_neg h1, if_neg h2, if_neg h3, if_neg h4]; rfl

set_option maxHeartbeats 1000000 in
theorem pescape_any (b : Nat) (s : ByteArray) (i o : Nat) (w : World) (hs : s.size ≤ 400) (hR : QB w b s i o) (hi : i < s.size) :
    Calls Tryd.prog 97 #[.pointer (some ⟨b, 0, none⟩)] w fun e w' => OutB s b o (FitL (P.esc s (i + 1))) w e w' := by
  have c1 := hR.c1
  have f1 := hR.fz 1
  have hpr := pk_range s (i + 1)
  have e1 := hid (pk_eq (s := s) (i := i + 1) (c := 110) (by omega))
  have e2 := hid (pk_eq (s := s) (i := i + 1) (c := 116) (by omega))
  have e3 := hid (pk_eq (s := s) (i := i + 1) (c := 115) (by omega))
  have e4 := hid (pk_eq (s := s) (i := i + 1) (c := 120) (by omega))
  have hO : ∀ (x : Int) (n : Nat), Only b w ((w.setCell ⟨b, 1, none⟩ (.int .i64 x)).drewN n) := fun x n => (Only.setCell (p := ⟨b, 1, none⟩) (Only.refl _ _) rfl _).drewN _
  go_enter Tryd.func97, Tryd.ntmps97
  go_wp2_with fail
  refine (peek_any _ _ (i + 1) _ _ (hR.set1 (by omega))).mono ?_
  rintro e w3 ⟨rfl, n3, rfl⟩
  have HQ := hid ((hR.set1 (x := (i : Int) + 1) (j := i + 1) (by omega)).drewN n3)
  go_wp2_with fail
  · go_ret2
    refine ⟨10, i + 1, true, rfl, HQ.out, hO _ _, by omega, by omega, by omega, ?_⟩
    rw [escB_n (eq_of_beq (by rw [← e1.out]; exact ‹(pk s (i + 1) == 110) = true›))]; exact ⟨rfl, rfl, rfl⟩
  · go_ret2
    refine ⟨9, i + 1, true, rfl, HQ.out, hO _ _, by omega, by omega, by omega, ?_⟩
    rw [escB_t (eq_of_beq (by rw [← e2.out]; exact ‹(pk s (i + 1) == 116) = true›))]; exact ⟨rfl, rfl, rfl⟩
  · go_ret2
    refine ⟨32, i + 1, true, rfl, HQ.out, hO _ _, by omega, by omega, by omega, ?_⟩
    rw [escB_s (eq_of_beq (by rw [← e3.out]; exact ‹(pk s (i + 1) == 115) = true›))]; exact ⟨rfl, rfl, rfl⟩
  · have h120 : P.bt s (i + 1) = 120 := eq_of_beq (by rw [← e4.out]; exact ‹(pk s (i + 1) == 120) = true›)
    have hlt := lt_of_bt (s := s) (i := i + 1) (by omega)
    have HT := hid (esc_two h120)
    clear h120
    refine (phex_any _ _ (i + 1) _ _ hs HQ.out hlt).mono ?_
    rintro e w4 ⟨v, i4, k, rfl, hR4, hO4, hv0, hv1, hi4, hf4⟩
    go_wp2_with fail
    go_ret2
    exact ⟨v, i4, k, rfl, hR4, (hO _ _).trans hO4, hv0, hv1, hi4, by rw [HT.out]; exact hf4⟩
  · have n1 : P.bt s (i + 1) ≠ 110 := ne_of_beq_false (by rw [← e1.out]; exact ‹(pk s (i + 1) == 110) = false›)
    have n2 : P.bt s (i + 1) ≠ 116 := ne_of_beq_false (by rw [← e2.out]; exact ‹(pk s (i + 1) == 116) = false›)
    have n3 : P.bt s (i + 1) ≠ 115 := ne_of_beq_false (by rw [← e3.out]; exact ‹(pk s (i + 1) == 115) = false›)
    have n4 : P.bt s (i + 1) ≠ 120 := ne_of_beq_false (by rw [← e4.out]; exact ‹(pk s (i + 1) == 120) = false›)
    have HT := hid (escB_else n1 n2 n3 n4)
    have HTl : Hid (escTail (pk s (i + 1)) = escTail (P.bt s (i + 1))) := by
      unfold Hid pk
      split
      · rename_i h
        have := bt_range s (i + 1)
        rw [show P.bt s (i + 1) = -1 from by omega]; rfl
      · rfl
    clear n1 n2 n3 n4
    refine (index_any _ _ _).mono ?_
    rintro e w4 ⟨rfl, rfl⟩
    have HX := hid (esc_row hpr.1 hpr.2)
    go_wp2_with fail
    go_ret2
    refine ⟨pk s (i + 1), i + 1, escTail (P.bt s (i + 1)), ?_, HQ.out, hO _ _, by omega, by omega, by omega, ?_⟩
    · rw [← HTl.out, ← HX.out]; rfl
    · rw [HT.out]
      cases ht : escTail (P.bt s (i + 1)) with
      | false => exact ⟨rfl, rfl⟩
      | true =>
        refine ⟨rfl, ?_, rfl⟩
        unfold pk; rw [if_neg]
        intro h
        have := bt_range s (i + 1)
        rw [show P.bt s (i + 1) = -1 from by omega] at ht; cases ht

set_option maxHeartbeats 1000000 in
theorem single_any (sp : ByteArray) (b : Nat) (s : ByteArray) (i o : Nat) (w : World) (hs : s.size ≤ 400) (hR : QB w b s i o) (hi : i ≤ s.size) :
    Calls Tryd.prog 84 #[.pointer (some ⟨b, 0, none⟩), .string sp] w fun e w' => OutB s b o (Fit2 (singleP sp s i)) w e w' := by
  have c1 := hR.c1
  have f1 := hR.fz 1
  have hpr := pk_range s i
  have e1 := hid (pk_eq (s := s) (i := i) (c := 92) (by omega))
  cases h92 : (pk s i == 92) with
  | true =>
    have hb : P.bt s i = 92 := eq_of_beq (by rw [← e1.out]; exact h92)
    have hlt := lt_of_bt (s := s) (i := i) (by omega)
    have HT : Hid (singleP sp s i = P.esc s (i + 1)) := by unfold Hid singleP; rw [if_pos hb]
    clear hb
    go_enter Tryd.func84, Tryd.ntmps84
    go_wp2_with fail
    refine (peek_any _ _ i _ _ hR).mono ?_
    rintro e w3 ⟨rfl, n3, rfl⟩
    go_wp2_with fail
    refine (pescape_any _ _ _ _ _ hs (hR.drewN _) hlt).mono ?_
    rintro e w4 ⟨v, i4, k, rfl, hR4, hO4, hv0, hv1, hi4, hf4⟩
    have d1 := hR4.c1
    have d2 := hR4.fz 1
    have HF := hid hf4
    clear hf4
    cases k with
    | false =>
      go_wp2_with fail
      go_ret2
      refine ⟨0, i4, false, rfl, hR4, ((Only.refl _ _).drewN _).trans hO4, by omega, by omega, hi4, ?_⟩
      rw [HT.out]
      have h := HF.out
      cases he : P.esc s (i + 1) with
      | out => rw [he] at h; exact h.elim
      | bad p => rw [he] at h; exact h
      | ok a j => rw [he] at h; cases h.1
    | true =>
      go_wp2_with fail
      go_ret2
      have h := HF.out
      have hj : i4 + 1 ≤ s.size := by
        cases he : P.esc s (i + 1) with
        | out => rw [he] at h; exact h.elim
        | bad p => rw [he] at h; cases h.1
        | ok a j => rw [he] at h; have := ((P.esc_good s (i + 1)).2 a j he).2; have := h.2.2; omega
      refine ⟨v, i4 + 1, true, rfl, hR4.set1 (by omega), Only.setCell (p := ⟨b, 1, none⟩) (((Only.refl _ _).drewN _).trans hO4) rfl _, hv0, hv1, hj, ?_⟩
      rw [HT.out]
      cases he : P.esc s (i + 1) with
      | out => rw [he] at h; exact h.elim
      | bad p => rw [he] at h; cases h.1
      | ok a j => rw [he] at h; exact h
  | false =>
    have hb : P.bt s i ≠ 92 := ne_of_beq_false (by rw [← e1.out]; exact h92)
    have HT : Hid (singleP sp s i = if plainS sp (pk s i) then .ok (P.bt s i) (i + 1) else .bad i) := by unfold Hid singleP; rw [if_neg hb]
    clear hb
    cases hp : plainS sp (pk s i) with
    | true =>
      have h33 : 33 ≤ pk s i := by
        have h := hp; unfold plainS at h; simp only [Bool.and_eq_true, decide_eq_true_eq] at h; exact h.1.1
      have HPK : Hid (pk s i = P.bt s i) := by
        unfold Hid pk; rw [if_neg]; intro h; unfold pk at h33; rw [if_pos h] at h33; omega
      have hlt := lt_of_bt (s := s) (i := i) (by rw [← HPK.out]; omega)
      rw [hp] at HT
      go_enter Tryd.func84, Tryd.ntmps84
      go_wp2_with fail
      refine (peek_any _ _ i _ _ hR).mono ?_
      rintro e w3 ⟨rfl, n3, rfl⟩
      go_wp2_with (go_at_call 79; refine (isPlain_any _ _ _).mono ?_; rintro e w' ⟨rfl, rfl⟩)
      go_ret2
      refine ⟨pk s i, i + 1, true, rfl, (hR.drewN _).set1 (by omega), Only.setCell (p := ⟨b, 1, none⟩) ((Only.refl _ _).drewN _) rfl _, hpr.1, hpr.2, by omega, ?_⟩
      rw [HT.out]; exact ⟨rfl, HPK.out, rfl⟩
    | false =>
      rw [hp] at HT
      go_enter Tryd.func84, Tryd.ntmps84
      go_wp2_with fail
      refine (peek_any _ _ i _ _ hR).mono ?_
      rintro e w3 ⟨rfl, n3, rfl⟩
      go_wp2_with (go_at_call 79; refine (isPlain_any _ _ _).mono ?_; rintro e w' ⟨rfl, rfl⟩)
      go_ret2
      refine ⟨0, i, false, rfl, hR.drewN _, (Only.refl _ _).drewN _, by omega, by omega, hi, ?_⟩
      rw [HT.out]; exact ⟨rfl, rfl⟩

end Go.Proofs.YtjhmlcilabnlbaaDoor
/- The program: sets of bytes. -/
namespace Go.Proofs.YtjhmlcilabnlbaaDoor
open Go.RowKit

/-- A set as a value: four words. -/
def setV (a0 a1 a2 a3 : Int) : Value := .agg #[.int .u64 a0, .int .u64 a1, .int .u64 a2, .int .u64 a3]
def flipW (a : Int) : Int := bits BinOp.xor IntKind.u64 IntKind.u64.max a
def orW (a b : Int) : Int := bits BinOp.or IntKind.u64 a b

theorem Tryd.idx0 (w : World) (a0 a1 a2 a3 : Int) : (Instr.index 46 (.agg #[.int .u64 a0, .int .u64 a1, .int .u64 a2, .int .u64 a3]) (.int .i64 0)).run Tryd.prog w = .ok (.int .u64 a0) w := by kernel_rfl
theorem Tryd.idx1 (w : World) (a0 a1 a2 a3 : Int) : (Instr.index 46 (.agg #[.int .u64 a0, .int .u64 a1, .int .u64 a2, .int .u64 a3]) (.int .i64 1)).run Tryd.prog w = .ok (.int .u64 a1) w := by kernel_rfl
theorem Tryd.idx2 (w : World) (a0 a1 a2 a3 : Int) : (Instr.index 46 (.agg #[.int .u64 a0, .int .u64 a1, .int .u64 a2, .int .u64 a3]) (.int .i64 2)).run Tryd.prog w = .ok (.int .u64 a2) w := by kernel_rfl
theorem Tryd.idx3 (w : World) (a0 a1 a2 a3 : Int) : (Instr.index 46 (.agg #[.int .u64 a0, .int .u64 a1, .int .u64 a2, .int .u64 a3]) (.int .i64 3)).run Tryd.prog w = .ok (.int .u64 a3) w := by kernel_rfl

set_option maxHeartbeats 1600000 in
theorem rest_any (a0 a1 a2 a3 : Int) (w : World)  :
    Calls Tryd.prog 83 #[.agg #[.int .u64 a0, .int .u64 a1, .int .u64 a2, .int .u64 a3]] w fun e w' => e = .returned (.agg #[.int .u64 (flipW a0), .int .u64 (flipW a1), .int .u64 (flipW a2), .int .u64 (flipW a3)]) ∧ Below w.heap.size w w' := by
  have i0 := Tryd.idx0
  have i1 := Tryd.idx1
  have i2 := Tryd.idx2
  have i3 := Tryd.idx3
  go_enter Tryd.func83, Tryd.ntmps83
  go_wp2
  refine wp_loop_rounds 5 ?_
  rw [rounds_succ]
  go_wp2
  rw [rounds_succ]
  go_wp2
  rw [rounds_succ]
  go_wp2
  rw [rounds_succ]
  go_wp2
  rw [rounds_succ]
  go_wp2
  exact bodyPost_ret (v := .agg #[.int .u64 (flipW a0), .int .u64 (flipW a1), .int .u64 (flipW a2), .int .u64 (flipW a3)]) (by simp [results, Tryd.results83, go_sem, flipW]) rfl ⟨rfl, ((Below.refl _ _).alloc (Nat.le_refl _) _).alloc (by simp) _⟩

set_option maxHeartbeats 1600000 in
theorem with_any (a0 a1 a2 a3 b0 b1 b2 b3 : Int) (w : World)  :
    Calls Tryd.prog 96 #[.agg #[.int .u64 a0, .int .u64 a1, .int .u64 a2, .int .u64 a3], .agg #[.int .u64 b0, .int .u64 b1, .int .u64 b2, .int .u64 b3]] w fun e w' => e = .returned (.agg #[.int .u64 (orW a0 b0), .int .u64 (orW a1 b1), .int .u64 (orW a2 b2), .int .u64 (orW a3 b3)]) ∧ Below w.heap.size w w' := by
  have i0 := Tryd.idx0
  have i1 := Tryd.idx1
  have i2 := Tryd.idx2
  have i3 := Tryd.idx3
  go_enter Tryd.func96, Tryd.ntmps96
  go_wp2
  refine wp_loop_rounds 5 ?_
  rw [rounds_succ]
  go_wp2
  rw [rounds_succ]
  go_wp2
  rw [rounds_succ]
  go_wp2
  rw [rounds_succ]
  go_wp2
  rw [rounds_succ]
  go_wp2
  exact bodyPost_ret (v := .agg #[.int .u64 (orW a0 b0), .int .u64 (orW a1 b1), .int .u64 (orW a2 b2), .int .u64 (orW a3 b3)]) (by simp [results, Tryd.results96, go_sem, orW]) rfl ⟨rfl, (((Below.refl _ _).alloc (Nat.le_refl _) _).alloc (by simp) _).alloc (by simp; omega) _⟩

/-- A word of 64 bits that tells which of 64 places are in a set. -/
def Wd (a : Int) (p : Nat → Bool) : Prop := ∃ n : Nat, a = (n : Int) ∧ n < 2 ^ 64 ∧ ∀ j, j < 64 → n.testBit j = p j
theorem wrapN64 (n : Nat) (h : n < 2 ^ 64) : IntKind.u64.wrap (n : Int) = (n : Int) := by rw [IntKind.wrap_u64]; omega
theorem Wd.zero : Wd 0 (fun _ => false) := ⟨0, rfl, by omega, fun j _ => Nat.zero_testBit j⟩
theorem Wd.or {a b : Int} {p q : Nat → Bool} (ha : Wd a p) (hb : Wd b q) : Wd (orW a b) (fun j => p j || q j) := by
  obtain ⟨n, rfl, hn, hp⟩ := ha
  obtain ⟨m, rfl, hm, hq⟩ := hb
  have h := (bits_nat .u64 64 (by decide) (fun n h0 h1 => by rw [IntKind.wrap_u64]; omega) n m hn hm).2
  exact ⟨n ||| m, h, Nat.or_lt_two_pow hn hm, fun j hj => by rw [Nat.testBit_or, hp j hj, hq j hj]⟩
theorem Wd.flip {a : Int} {p : Nat → Bool} (ha : Wd a p) : Wd (flipW a) (fun j => !p j) := by
  obtain ⟨n, rfl, hn, hp⟩ := ha
  have hx : (2 ^ 64 - 1) ^^^ n < 2 ^ 64 := Nat.xor_lt_two_pow (by omega) hn
  refine ⟨(2 ^ 64 - 1) ^^^ n, ?_, hx, ?_⟩
  · have hm : IntKind.u64.max = ((2 ^ 64 - 1 : Nat) : Int) := by decide
    have h1 : (2 ^ 64 - 1) % 2 ^ IntKind.u64.bits = 2 ^ 64 - 1 := Nat.mod_eq_of_lt (by show 2 ^ 64 - 1 < 2 ^ 64; omega)
    have h2 : n % 2 ^ IntKind.u64.bits = n := Nat.mod_eq_of_lt hn
    unfold flipW
    rw [hm]
    simp only [bits, BitVec.ofInt_natCast, BitVec.toNat_xor, BitVec.toNat_ofNat, h1, h2]
    exact wrapN64 _ hx
  · intro j hj
    rw [Nat.testBit_xor, Nat.testBit_two_pow_sub_one, hp j hj]
    simp [hj]
theorem Wd.none {a : Int} {p : Nat → Bool} (ha : Wd a p) : (a = 0) ↔ ∀ j, j < 64 → p j = false := by
  obtain ⟨n, rfl, hn, hp⟩ := ha
  constructor
  · intro h j hj
    have : n = 0 := by omega
    rw [← hp j hj, this]; exact Nat.zero_testBit j
  · intro h
    have : n = 0 := by
      apply Nat.eq_of_testBit_eq
      intro j
      by_cases hj : j < 64
      · rw [hp j hj, h j hj, Nat.zero_testBit]
      · rw [Nat.zero_testBit, Nat.testBit_lt_two_pow (Nat.lt_of_lt_of_le hn (Nat.pow_le_pow_right (by decide) (by omega)))]
    omega

end Go.Proofs.YtjhmlcilabnlbaaDoor
/- What stays of memory behind an alloc and a store: plain words. -/
namespace Go.Proofs.YtjhmlcilabnlbaaDoor
open Go.RowKit
theorem heap_alloc_at (w : World) (o : Obj) : (w.alloc o).heap[w.heap.size]? = some o := by
  show (w.heap.push o)[w.heap.size]? = _
  simp
theorem Only.new {b : Nat} {x y : World} (h : Only b x y) {p : Addr} (hp : x.heap.size ≤ p.block) (u : Value) : Only b x (y.setCell p u) :=
  ⟨h.os, h.tape, h.output, by have := h.size; simpa [World.setCell] using this, fun k hk hb => (Below.heap_setCell _ _ _ _ (by omega)).trans (h.block k hk hb)⟩
theorem Only.ofBelow {b : Nat} {x y : World} (h : Below x.heap.size x y) : Only b x y := ⟨h.os, h.tape, h.output, h.size, fun k hk _ => h.block k hk⟩

theorem heap_alloc_old {w : World} {o : Obj} {k : Nat} {x : Option Obj} (h : w.heap[k]? = x) (hk : k < w.heap.size) : (w.alloc o).heap[k]? = x := (Below.heap_alloc w o k hk).trans h

def rng (lo hi : Int) : Nat → Bool := fun x => decide (lo ≤ (x : Int)) && decide ((x : Int) ≤ hi)

end Go.Proofs.YtjhmlcilabnlbaaDoor
/- The program: span. -/
namespace Go.Proofs.YtjhmlcilabnlbaaDoor
open Go.RowKit

/-- Four words that tell which bytes are in a set. -/
def W4 (a0 a1 a2 a3 : Int) (acc : Nat → Bool) : Prop :=
  Wd a0 (fun j => acc j) ∧ Wd a1 (fun j => acc (64 + j)) ∧ Wd a2 (fun j => acc (128 + j)) ∧ Wd a3 (fun j => acc (192 + j))
theorem Wd.congr {a : Int} {p q : Nat → Bool} (h : Wd a p) (e : ∀ j, j < 64 → p j = q j) : Wd a q := by
  obtain ⟨n, hn, hl, hp⟩ := h
  exact ⟨n, hn, hl, fun j hj => (hp j hj).trans (e j hj)⟩
def rg (lo hi : Int) : Nat → Bool := fun x => decide (lo ≤ (x : Int)) && decide ((x : Int) ≤ hi)
theorem W4.none {lo : Int} : W4 0 0 0 0 (rg lo (lo - 1)) := by
  have h : ∀ x, false = rg lo (lo - 1) x := by
    intro x; unfold rg
    by_cases h : lo ≤ (x : Int)
    · have : ¬ (x : Int) ≤ lo - 1 := by omega
      simp [this]
    · simp [h]
  exact ⟨Wd.zero.congr fun j _ => h _, Wd.zero.congr fun j _ => h _, Wd.zero.congr fun j _ => h _, Wd.zero.congr fun j _ => h _⟩
theorem Wd.bit {m : Nat} (h : m < 64) : Wd (IntKind.u64.wrap (2 ^ m)) (fun j => decide (j = m)) := by
  have hp : 2 ^ m < 2 ^ 64 := Nat.pow_lt_pow_right (by decide) h
  refine ⟨2 ^ m, ?_, hp, ?_⟩
  · have := wrapN64 (2 ^ m) hp
    rw [← this]; simp
  · intro j _
    rw [Nat.testBit_two_pow]
    by_cases e : m = j
    · simp [e]
    · have : ¬ j = m := fun h => e h.symm
      simp [e, this]
theorem rg_same {lo k : Int} {x : Nat} (hx : (x : Int) ≠ k) : rg lo (k - 1) x = rg lo (k + 1 - 1) x := by
  unfold rg; congr 1; rw [decide_eq_decide]; omega
theorem rg_bit {lo k : Int} (hk : lo ≤ k) (base : Nat) (hb : (base : Int) = 64 * (k / 64)) (j : Nat) : (rg lo (k - 1) (base + j) || decide (j = (k % 64).toNat)) = rg lo (k + 1 - 1) (base + j) := by
  by_cases h : j = (k % 64).toNat
  · have : ((base + j : Nat) : Int) = k := by omega
    simp only [h, decide_true, Bool.or_true]
    unfold rg
    rw [h] at this
    simp; omega
  · rw [decide_eq_false h, Bool.or_false]
    exact rg_same (by omega)

def SB (w : World) (g : Nat) (a0 a1 a2 a3 : Int) : Prop := w.heap[g]? = some (.cells #[.int .u64 a0, .int .u64 a1, .int .u64 a2, .int .u64 a3] 46 (0, 0))
theorem SB.c0 {w : World} {g : Nat} {a0 a1 a2 a3 : Int} (h : SB w g a0 a1 a2 a3) : w.cell? ⟨g, 0, none⟩ = some (.int .u64 a0) := by simp [World.cell?, show w.heap[g]? = _ from h]
theorem SB.s0 {w : World} {g : Nat} {a0 a1 a2 a3 : Int} (h : SB w g a0 a1 a2 a3) (x : Int) : SB (w.setCell ⟨g, 0, none⟩ (.int .u64 x)) g x a1 a2 a3 := heap_setCell_same (a := ⟨g, 0, none⟩) h rfl _
theorem SB.c1 {w : World} {g : Nat} {a0 a1 a2 a3 : Int} (h : SB w g a0 a1 a2 a3) : w.cell? ⟨g, 1, none⟩ = some (.int .u64 a1) := by simp [World.cell?, show w.heap[g]? = _ from h]
theorem SB.s1 {w : World} {g : Nat} {a0 a1 a2 a3 : Int} (h : SB w g a0 a1 a2 a3) (x : Int) : SB (w.setCell ⟨g, 1, none⟩ (.int .u64 x)) g a0 x a2 a3 := heap_setCell_same (a := ⟨g, 1, none⟩) h rfl _
theorem SB.c2 {w : World} {g : Nat} {a0 a1 a2 a3 : Int} (h : SB w g a0 a1 a2 a3) : w.cell? ⟨g, 2, none⟩ = some (.int .u64 a2) := by simp [World.cell?, show w.heap[g]? = _ from h]
theorem SB.s2 {w : World} {g : Nat} {a0 a1 a2 a3 : Int} (h : SB w g a0 a1 a2 a3) (x : Int) : SB (w.setCell ⟨g, 2, none⟩ (.int .u64 x)) g a0 a1 x a3 := heap_setCell_same (a := ⟨g, 2, none⟩) h rfl _
theorem SB.c3 {w : World} {g : Nat} {a0 a1 a2 a3 : Int} (h : SB w g a0 a1 a2 a3) : w.cell? ⟨g, 3, none⟩ = some (.int .u64 a3) := by simp [World.cell?, show w.heap[g]? = _ from h]
theorem SB.s3 {w : World} {g : Nat} {a0 a1 a2 a3 : Int} (h : SB w g a0 a1 a2 a3) (x : Int) : SB (w.setCell ⟨g, 3, none⟩ (.int .u64 x)) g a0 a1 a2 x := heap_setCell_same (a := ⟨g, 3, none⟩) h rfl _
theorem SB.fz {w : World} {g : Nat} {a0 a1 a2 a3 : Int} (h : SB w g a0 a1 a2 a3) (k : Nat) : w.frozen? ⟨g, k, none⟩ = false := by
  simp [World.frozen?, show w.heap[g]? = _ from h]
theorem SB.other {w : World} {g : Nat} {a0 a1 a2 a3 : Int} (h : SB w g a0 a1 a2 a3) {p : Addr} (hp : g ≠ p.block) (u : Value) : SB (w.setCell p u) g a0 a1 a2 a3 :=
  (Below.heap_setCell _ _ _ _ hp).trans h

set_option maxHeartbeats 4000000 in
theorem span_any (lo hi : Int) (w : World) (h0 : 0 ≤ lo) (h1 : lo ≤ hi) (h3 : hi ≤ 255) :
    Calls Tryd.prog 82 #[.int .u8 lo, .int .u8 hi] w fun e w' => ∃ a0 a1 a2 a3 : Int, e = .returned (.agg #[.int .u64 a0, .int .u64 a1, .int .u64 a2, .int .u64 a3]) ∧ W4 a0 a1 a2 a3 (rg lo hi) ∧ Below w.heap.size w w' := by
  go_enter Tryd.func82, Tryd.ntmps82
  go_wp2
  go_loopg [6] (hi + 1 - lo).toNat (fun g x wr => ∃ k : Int, x = .int .i64 k ∧ lo ≤ k ∧ k ≤ hi + 1 ∧ (hi + 1 - k).toNat ≤ g ∧ SB wr w.heap.size 0 0 0 0 ∧ Below w.heap.size w wr ∧ ∃ a0 a1 a2 a3 : Int, SB wr (w.heap.size + 1) a0 a1 a2 a3 ∧ Hid (W4 a0 a1 a2 a3 (rg lo (k - 1))))
  case atStart =>
    refine ⟨lo, rfl, by omega, by omega, by omega, ?_, ((Below.refl _ _).alloc (Nat.le_refl _) _).alloc (by simp) _, 0, 0, 0, 0, ?_, W4.none⟩
    · exact heap_alloc_old (heap_alloc_at _ _) (by simp)
    · have := heap_alloc_at (w.alloc (.cells #[.int .u64 0, .int .u64 0, .int .u64 0, .int .u64 0] 46)) (.cells #[.int .u64 0, .int .u64 0, .int .u64 0, .int .u64 0] 46)
      rw [show (w.alloc (.cells #[.int .u64 0, .int .u64 0, .int .u64 0, .int .u64 0] 46)).heap.size = w.heap.size + 1 from by simp] at this
      exact this
  case round =>
    obtain ⟨k, rfl, hk1, hk2, hkg, hS, hBl, a0, a1, a2, a3, hA, hW⟩ := hrel
    have c0 := hA.c0
    have c1 := hA.c1
    have c2 := hA.c2
    have c3 := hA.c3
    have fz := hA.fz
    by_cases hl : k ≤ hi
    · have hm : (k % 64).toNat < 64 := by omega
      have HB := hid (Wd.bit hm)
      rcases (show k / 64 = 0 ∨ k / 64 = 1 ∨ k / 64 = 2 ∨ k / 64 = 3 from by omega) with hc | hc | hc | hc
      · have hq : k.tdiv 64 = 0 := by rw [Int.tdiv_eq_ediv_of_nonneg (by omega)]; exact hc
        have HW : Hid (W4 (orW a0 (IntKind.u64.wrap (2 ^ (k % 64).toNat))) a1 a2 a3 (rg lo (k + 1 - 1))) := ⟨((hW.out.1.or HB.out).congr fun j _ => by have := rg_bit hk1 0 (by omega) j; rwa [Nat.zero_add] at this), (hW.out.2.1.congr fun j hj => rg_same (by omega)), (hW.out.2.2.1.congr fun j hj => rg_same (by omega)), (hW.out.2.2.2.congr fun j hj => rg_same (by omega))⟩
        go_wp2
        go_region
        go_wp2
        go_roundg (gk - 1)
        case measure => omega
        case rel => exact ⟨k + 1, rfl, by omega, by omega, by omega, hS.other (by simp) _, (hBl.setCell (by simp) _).drew, _, _, _, _, hA.s0 _, HW⟩
      · have hq : k.tdiv 64 = 1 := by rw [Int.tdiv_eq_ediv_of_nonneg (by omega)]; exact hc
        have HW : Hid (W4 a0 (orW a1 (IntKind.u64.wrap (2 ^ (k % 64).toNat))) a2 a3 (rg lo (k + 1 - 1))) := ⟨(hW.out.1.congr fun j hj => rg_same (by omega)), ((hW.out.2.1.or HB.out).congr fun j _ => rg_bit hk1 64 (by omega) j), (hW.out.2.2.1.congr fun j hj => rg_same (by omega)), (hW.out.2.2.2.congr fun j hj => rg_same (by omega))⟩
        go_wp2
        go_region
        go_wp2
        go_roundg (gk - 1)
        case measure => omega
        case rel => exact ⟨k + 1, rfl, by omega, by omega, by omega, hS.other (by simp) _, (hBl.setCell (by simp) _).drew, _, _, _, _, hA.s1 _, HW⟩
      · have hq : k.tdiv 64 = 2 := by rw [Int.tdiv_eq_ediv_of_nonneg (by omega)]; exact hc
        have HW : Hid (W4 a0 a1 (orW a2 (IntKind.u64.wrap (2 ^ (k % 64).toNat))) a3 (rg lo (k + 1 - 1))) := ⟨(hW.out.1.congr fun j hj => rg_same (by omega)), (hW.out.2.1.congr fun j hj => rg_same (by omega)), ((hW.out.2.2.1.or HB.out).congr fun j _ => rg_bit hk1 128 (by omega) j), (hW.out.2.2.2.congr fun j hj => rg_same (by omega))⟩
        go_wp2
        go_region
        go_wp2
        go_roundg (gk - 1)
        case measure => omega
        case rel => exact ⟨k + 1, rfl, by omega, by omega, by omega, hS.other (by simp) _, (hBl.setCell (by simp) _).drew, _, _, _, _, hA.s2 _, HW⟩
      · have hq : k.tdiv 64 = 3 := by rw [Int.tdiv_eq_ediv_of_nonneg (by omega)]; exact hc
        have HW : Hid (W4 a0 a1 a2 (orW a3 (IntKind.u64.wrap (2 ^ (k % 64).toNat))) (rg lo (k + 1 - 1))) := ⟨(hW.out.1.congr fun j hj => rg_same (by omega)), (hW.out.2.1.congr fun j hj => rg_same (by omega)), (hW.out.2.2.1.congr fun j hj => rg_same (by omega)), ((hW.out.2.2.2.or HB.out).congr fun j _ => rg_bit hk1 192 (by omega) j)⟩
        go_wp2
        go_region
        go_wp2
        go_roundg (gk - 1)
        case measure => omega
        case rel => exact ⟨k + 1, rfl, by omega, by omega, by omega, hS.other (by simp) _, (hBl.setCell (by simp) _).drew, _, _, _, _, hA.s3 _, HW⟩
    · have hke : k = hi + 1 := by omega
      have HW : Hid (W4 a0 a1 a2 a3 (rg lo hi)) := by
        have h := hW.out
        rw [hke, show hi + 1 - 1 = hi from by omega] at h
        exact h
      clear hke
      have s0 := hS.c0
      have s1 := hS.c1
      have s2 := hS.c2
      have s3 := hS.c3
      have sf := hS.fz
      have hlt : w.heap.size < wr.heap.size := by
        by_cases h : w.heap.size < wr.heap.size
        · exact h
        · have h' := hS; unfold SB at h'; simp [h] at h'
      go_wp2
      have hF := (((hS.s0 a0).s1 a1).s2 a2).s3 a3
      have r0 := hF.c0
      have r1 := hF.c1
      have r2 := hF.c2
      have r3 := hF.c3
      exact bodyPost_ret (v := .agg #[.int .u64 a0, .int .u64 a1, .int .u64 a2, .int .u64 a3]) (by simp [results, Tryd.results82, go_sem, r0, r1, r2, r3]) rfl ⟨a0, a1, a2, a3, rfl, HW.out, (((hBl.setCell (by simp) _).setCell (by simp) _).setCell (by simp) _).setCell (by simp) _⟩
end Go.Proofs.YtjhmlcilabnlbaaDoor
/- States: sets of two words: union, Meets, with. -/
namespace Go.Proofs.YtjhmlcilabnlbaaDoor
open Go.RowKit

def andW (a b : Int) : Int := bits BinOp.and IntKind.u64 a b
theorem Tryd.jdx0 (w : World) (a0 a1 : Int) : (Instr.index 58 (.agg #[.int .u64 a0, .int .u64 a1]) (.int .i64 0)).run Tryd.prog w = .ok (.int .u64 a0) w := by kernel_rfl
theorem Tryd.jdx1 (w : World) (a0 a1 : Int) : (Instr.index 58 (.agg #[.int .u64 a0, .int .u64 a1]) (.int .i64 1)).run Tryd.prog w = .ok (.int .u64 a1) w := by kernel_rfl

set_option maxHeartbeats 1600000 in
theorem union_any (a0 a1 b0 b1 : Int) (w : World) :
    Calls Tryd.prog 29 #[.agg #[.int .u64 a0, .int .u64 a1], .agg #[.int .u64 b0, .int .u64 b1]] w fun e w' => e = .returned (.agg #[.int .u64 (orW a0 b0), .int .u64 (orW a1 b1)]) ∧ Below w.heap.size w w' := by
  have i0 := Tryd.jdx0
  have i1 := Tryd.jdx1
  go_enter Tryd.func29, Tryd.ntmps29
  go_wp2
  refine wp_loop_rounds 3 ?_
  rw [rounds_succ]
  go_wp2
  rw [rounds_succ]
  go_wp2
  rw [rounds_succ]
  go_wp2
  exact bodyPost_ret (v := .agg #[.int .u64 (orW a0 b0), .int .u64 (orW a1 b1)]) (by simp [results, Tryd.results29, go_sem, orW]) rfl ⟨rfl, (((Below.refl _ _).alloc (Nat.le_refl _) _).alloc (by simp) _).alloc (by simp; omega) _⟩

def meetsW (a0 a1 b0 b1 : Int) : Bool := (andW a0 b0 != 0) || (andW a1 b1 != 0)

set_option maxHeartbeats 1600000 in
theorem meets_any (a0 a1 b0 b1 : Int) (w : World) :
    Calls Tryd.prog 37 #[.agg #[.int .u64 a0, .int .u64 a1], .agg #[.int .u64 b0, .int .u64 b1]] w fun e w' => e = .returned (.bool (meetsW a0 a1 b0 b1)) ∧ Below w.heap.size w w' := by
  have i0 := Tryd.jdx0
  have i1 := Tryd.jdx1
  cases h0 : (andW a0 b0 == 0) with
  | false =>
    have h0' : (bits BinOp.and IntKind.u64 a0 b0 == 0) = false := h0
    have HM : Hid (meetsW a0 a1 b0 b1 = true) := by unfold Hid meetsW; simp only [bne, h0]; rfl
    go_enter Tryd.func37, Tryd.ntmps37
    go_wp2
    refine wp_loop_rounds 3 ?_
    rw [rounds_succ]
    go_wp2
    go_ret
    exact ⟨ret_bool HM.out.symm, ((Below.refl _ _).alloc (Nat.le_refl _) _).alloc (by simp) _⟩
  | true =>
    have h0' : (bits BinOp.and IntKind.u64 a0 b0 == 0) = true := h0
    cases h1 : (andW a1 b1 == 0) with
    | false =>
      have h1' : (bits BinOp.and IntKind.u64 a1 b1 == 0) = false := h1
      have HM : Hid (meetsW a0 a1 b0 b1 = true) := by unfold Hid meetsW; simp only [bne, h0, h1]; rfl
      go_enter Tryd.func37, Tryd.ntmps37
      go_wp2
      refine wp_loop_rounds 3 ?_
      rw [rounds_succ]
      go_wp2
      rw [rounds_succ]
      go_wp2
      go_ret
      exact ⟨ret_bool HM.out.symm, ((Below.refl _ _).alloc (Nat.le_refl _) _).alloc (by simp) _⟩
    | true =>
      have h1' : (bits BinOp.and IntKind.u64 a1 b1 == 0) = true := h1
      have HM : Hid (meetsW a0 a1 b0 b1 = false) := by unfold Hid meetsW; simp only [bne, h0, h1]; rfl
      go_enter Tryd.func37, Tryd.ntmps37
      go_wp2
      refine wp_loop_rounds 3 ?_
      rw [rounds_succ]
      go_wp2
      rw [rounds_succ]
      go_wp2
      rw [rounds_succ]
      go_wp2
      go_ret
      exact ⟨ret_bool HM.out.symm, ((Below.refl _ _).alloc (Nat.le_refl _) _).alloc (by simp) _⟩

/-- One number more in a set of two words. -/
def bitW (k : Nat) : Int := IntKind.u64.wrap (2 ^ (k % 64))

set_option maxHeartbeats 1600000 in
theorem with_low (a0 a1 : Int) (k : Nat) (hk : k < 64) (w : World) :
    Calls Tryd.prog 27 #[.agg #[.int .u64 a0, .int .u64 a1], .int .i64 (k : Int)] w fun e w' => e = .returned (.agg #[.int .u64 (orW a0 (bitW k)), .int .u64 a1]) ∧ Below w.heap.size w w' := by
  have hq : (k : Int).tdiv 64 = 0 := by rw [Int.tdiv_eq_ediv_of_nonneg (by omega)]; omega
  have hr : ((k : Int) % 64).toNat = k % 64 := by omega
  go_enter Tryd.func27, Tryd.ntmps27
  go_wp2
  go_region
  go_wp2
  exact bodyPost_ret (v := .agg #[.int .u64 (orW a0 (bitW k)), .int .u64 a1]) (by simp [results, Tryd.results27, go_sem, orW, bitW]) rfl ⟨rfl, (((Below.refl _ _).alloc (Nat.le_refl _) _).alloc (by simp) _).drew⟩

set_option maxHeartbeats 1600000 in
theorem with_high (a0 a1 : Int) (k : Nat) (hk : 64 ≤ k) (hk2 : k < 128) (w : World) :
    Calls Tryd.prog 27 #[.agg #[.int .u64 a0, .int .u64 a1], .int .i64 (k : Int)] w fun e w' => e = .returned (.agg #[.int .u64 a0, .int .u64 (orW a1 (bitW k))]) ∧ Below w.heap.size w w' := by
  have hq : (k : Int).tdiv 64 = 1 := by rw [Int.tdiv_eq_ediv_of_nonneg (by omega)]; omega
  have hr : ((k : Int) % 64).toNat = k % 64 := by omega
  go_enter Tryd.func27, Tryd.ntmps27
  go_wp2
  go_region
  go_wp2
  exact bodyPost_ret (v := .agg #[.int .u64 a0, .int .u64 (orW a1 (bitW k))]) (by simp [results, Tryd.results27, go_sem, orW, bitW]) rfl ⟨rfl, (((Below.refl _ _).alloc (Nat.le_refl _) _).alloc (by simp) _).drew⟩
end Go.Proofs.YtjhmlcilabnlbaaDoor
/- States: which number is the lowest of a word. -/
namespace Go.Proofs.YtjhmlcilabnlbaaDoor
open Go.RowKit

/-- The library's table in its variable. -/
def TabIn (w : World) : Prop := ∀ j, j < 64 → w.cell? ⟨0, j, none⟩ = some (.int .u8 (Lib.deBruijn64tab.getD j 0))

theorem tz_key (x a : Nat) (hx : x < 18446744073709551616) (hx0 : x ≠ 0) (hlow : x &&& (18446744073709551616 - x) = a) :
    IntKind.u64.wrap (bits BinOp.and IntKind.u64 (x : Int) (IntKind.u64.wrap (-(x : Int))) * 285870213051353865) / 288230376151711744 = ((a * 285870213051353865 % 18446744073709551616 / 288230376151711744 : Nat) : Int) := by
  have e1 : IntKind.u64.wrap (-(x : Int)) = ((18446744073709551616 - x : Nat) : Int) := by rw [IntKind.wrap_u64]; omega
  rw [e1, bits_and_u64_nat x _ hx (by omega), hlow, IntKind.wrap_u64]
  omega

set_option maxHeartbeats 1000000 in
theorem tz_core (x k idx : Nat) (w : World) (hx0 : ((x : Int) == 0) = false)
    (key : IntKind.u64.wrap (bits BinOp.and IntKind.u64 (x : Int) (IntKind.u64.wrap (-(x : Int))) * 285870213051353865) / 288230376151711744 = (idx : Int))
    (hi : idx < 64) (hk : k < 64) (hcell : w.cell? ⟨0, idx, none⟩ = some (.int .u8 k)) :
    Calls Tryd.prog 55 #[.int .u64 (x : Int)] w fun e w' => e = .returned (.int .i64 (k : Int)) ∧ w' = w := by
  go_enter Tryd.func55, Tryd.ntmps55
  go_wp2_with (simp only [key])
  go_ret
  exact ⟨rfl, rfl⟩

theorem tz_any (x : Nat) (hx : x < 18446744073709551616) (h0 : x ≠ 0) (w : World) (hT : TabIn w) :
    Calls Tryd.prog 55 #[.int .u64 (x : Int)] w fun e w' => e = .returned (.int .i64 (Lib.ctz 64 x : Int)) ∧ w' = w := by
  obtain ⟨hlow, hk⟩ := Lib.lowest_bit 64 x h0 hx
  obtain ⟨hi, htab⟩ := Lib.deBruijn64_at _ hk
  have hcell := hT _ hi
  rw [htab] at hcell
  exact tz_core x _ _ w (by simp; omega) (tz_key x _ hx h0 hlow) hi hk hcell
end Go.Proofs.YtjhmlcilabnlbaaDoor
/- The numbers of a word, in their order. -/
namespace Go.Proofs.YtjhmlcilabnlbaaDoor

def bitsN (x : Nat) : List Nat := (List.range 64).filter fun j => x.testBit j
theorem bitsN_len (x : Nat) : (bitsN x).length ≤ 64 := Nat.le_trans (List.length_filter_le _ _) (by simp)
theorem mem_bitsN {x j : Nat} : j ∈ bitsN x ↔ j < 64 ∧ x.testBit j = true := by simp [bitsN]
theorem bitsN_zero : bitsN 0 = [] := by simp [bitsN]

theorem ctz_odd (y : Nat) (h0 : y ≠ 0) (h : y < 2 ^ 64) : ∃ m, y = 2 ^ Lib.ctz 64 y * (2 * m + 1) ∧ Lib.ctz 64 y < 64 := by
  unfold Lib.ctz
  rw [if_neg h0]
  exact Lib.ctzFrom_spec 64 y (by omega) h

theorem odd_bit (c m j : Nat) : (2 ^ c * (2 * m + 1)).testBit j = if j < c then false else if j = c then true else m.testBit (j - c - 1) := by
  rw [Nat.testBit_two_pow_mul]
  by_cases h1 : j < c
  · simp [h1, Nat.not_le.2 h1]
  · by_cases h2 : j = c
    · subst h2; simp
    · rw [if_neg h1, if_neg h2]
      have hle : c ≤ j := by omega
      obtain ⟨d, rfl⟩ : ∃ d, j = c + 1 + d := ⟨j - c - 1, by omega⟩
      rw [show c + 1 + d - c - 1 = d from by omega, show c + 1 + d - c = d + 1 from by omega, Nat.testBit_succ, show (2 * m + 1) / 2 = m from by omega]
      simp; omega
theorem clear_low (c m : Nat) : (2 ^ c * (2 * m + 1)) &&& (2 ^ c * (2 * m + 1) - 1) = 2 ^ (c + 1) * m := by
  have hp : 0 < 2 ^ c := Nat.two_pow_pos c
  have he : 2 ^ c * (2 * m + 1) - 1 = 2 ^ (c + 1) * m + (2 ^ c - 1) := by
    rw [Nat.mul_add, Nat.mul_one, Nat.pow_succ, Nat.mul_assoc]; omega
  apply Nat.eq_of_testBit_eq
  intro j
  rw [Nat.testBit_and, odd_bit, he, Nat.testBit_two_pow_mul_add m (show 2 ^ c - 1 < 2 ^ (c + 1) by rw [Nat.pow_succ]; omega), Nat.testBit_two_pow_mul]
  by_cases h1 : j < c
  · simp [h1, show ¬ (c + 1 ≤ j) by omega]
  · by_cases h2 : j = c
    · subst h2
      simp
      omega
    · simp [h1, h2, show c + 1 ≤ j by omega, show ¬ j < c + 1 by omega]
      rw [show j - c - 1 = j - (c + 1) from by omega]
      simp

theorem filter_split (p q : Nat → Bool) (c : Nat) (n : Nat) (hc : c < n) (h1 : ∀ j, j < c → p j = false) (h2 : p c = true) (h3 : ∀ j, j ≤ c → q j = false) (h4 : ∀ j, c < j → p j = q j) :
    (List.range n).filter p = c :: (List.range n).filter q := by
  have e : List.range n = List.range c ++ c :: (List.range (n - c - 1)).map (fun j => c + 1 + j) := by
    rw [show n = c + (1 + (n - c - 1)) from by omega, List.range_add, List.range_add]
    simp
    intro a _; omega
  rw [e, List.filter_append, List.filter_append, List.filter_cons, List.filter_cons, h2, h3 c (Nat.le_refl _)]
  have z1 : (List.range c).filter p = [] := by rw [List.filter_eq_nil_iff]; intro a ha; simp at ha; simp [h1 a ha]
  have z2 : (List.range c).filter q = [] := by rw [List.filter_eq_nil_iff]; intro a ha; simp at ha; simp [h3 a (by omega)]
  rw [z1, z2]
  simp only [List.nil_append, if_true]
  congr 1
  simp only [Bool.false_eq_true, if_false]
  apply List.filter_congr
  intro a ha
  simp at ha
  obtain ⟨b, _, rfl⟩ := ha
  exact h4 _ (by omega)

theorem bitsN_cons (y : Nat) (h0 : y ≠ 0) (h : y < 2 ^ 64) : bitsN y = Lib.ctz 64 y :: bitsN (y &&& (y - 1)) := by
  obtain ⟨m, he, hc⟩ := ctz_odd y h0 h
  generalize Lib.ctz 64 y = c at *
  subst he
  rw [clear_low]
  refine filter_split _ _ c 64 hc ?_ ?_ ?_ ?_
  · intro j hj; rw [odd_bit, if_pos hj]
  · rw [odd_bit, if_neg (by omega), if_pos rfl]
  · intro j hj; rw [Nat.testBit_two_pow_mul]; simp; omega
  · intro j hj
    rw [odd_bit, if_neg (by omega), if_neg (by omega), Nat.testBit_two_pow_mul]
    simp [show c + 1 ≤ j by omega]
    rw [show j - c - 1 = j - (c + 1) from by omega]
theorem clear_lt (y : Nat) (h0 : y ≠ 0) : y &&& (y - 1) < y := Nat.lt_of_le_of_lt (Nat.and_le_right) (by omega)
theorem ctz_bit (y : Nat) (h0 : y ≠ 0) (h : y < 2 ^ 64) : Lib.ctz 64 y < 64 ∧ y.testBit (Lib.ctz 64 y) = true := by
  have := bitsN_cons y h0 h
  exact mem_bitsN.1 (by rw [this]; exact List.mem_cons_self ..)
end Go.Proofs.YtjhmlcilabnlbaaDoor
/- States: the atoms of a set, one by one. -/
namespace Go.Proofs.YtjhmlcilabnlbaaDoor
open Go.RowKit Go.Shelf

attribute [local go_sem] Oper.semAt_some

/-- A number of a word. -/
abbrev Atom (x : Nat) := { k : Nat // k < 64 ∧ x.testBit k = true }
abbrev atomV {x : Nat} (k : Atom x) : Array Value := #[.int .i64 (k.1 : Int)]

theorem TabIn.below {B : Nat} {w w' : World} (h : TabIn w) (k : Below B w w') (hB : 0 < B) : TabIn w' := fun j hj => (k.cell (p := ⟨0, j, none⟩) hB).trans (h j hj)

set_option maxRecDepth 100000 in
set_option maxHeartbeats 1000000 in
theorem atoms_in (n l bx x0 : Nat) (hx : x0 < 18446744073709551616) (J Jx : List (Atom x0) → World → Prop)
    (hY : ∀ pre x W, J pre W → pre.length < 64 → YieldAt Fence.wide (n - 1) Tryd.prog l (atomV x) W fun e W' =>
      (e = .returned (.bool true) ∧ J (pre ++ [x]) W' ∧ Below 1 W W') ∨ (e = .returned (.bool false) ∧ Jx (pre ++ [x]) W'))
    (W : World) (hb : W.cell? ⟨bx, 0, none⟩ = some (.int .u64 (x0 : Int))) (hT : TabIn W) (h0 : J [] W) :
    CallsIn Fence.wide n Tryd.prog 58 #[.func (.yield l) #[] #[], .pointer (some ⟨bx, 0, none⟩)] W fun e W' => (∃ v, e = .returned v) ∧
      ((∃ ys : List (Atom x0), ys.map (·.1) = bitsN x0 ∧ J ys W') ∨ (∃ pre, True ∧ Jx pre W')) := by
  refine callsIn_of_wp Tryd.func58 rfl trivial ?_ rfl
  simp only [Tryd.ntmps58, List.size_toArray, List.length_cons, List.length_nil, Nat.reduceAdd, Nat.reduceSub, Array.replicate_succ, Array.replicate_zero, List.push_toArray, List.append_toArray, List.nil_append, List.cons_append]
  gi_wp2
  gi_loopw [3] (fun v wr => ∃ (pre : List (Atom x0)) (y : Nat), v = .int .u64 (y : Int) ∧ y < 18446744073709551616 ∧ Hid (pre.map (·.1) ++ bitsN y = bitsN x0) ∧ TabIn wr ∧ J pre wr)
    (fun v _ => (intOf v).toNat)
  case atStart =>
    exact ⟨[], x0, rfl, hx, rfl, hT, h0⟩
  case round =>
    obtain ⟨pre, y, rfl, hy, hE, hTr, hJ⟩ := hrel
    by_cases hy0 : y = 0
    · subst hy0
      gi_wp2
      go_end0
      refine ⟨⟨_, rfl⟩, .inl ⟨pre, ?_, hJ⟩⟩
      have h := hE.out
      rw [bitsN_zero, List.append_nil] at h
      exact h
    · have hy0' : ((y : Int) == 0) = false := beq_false_of_ne (by omega)
      have hy0n : (y == 0) = false := beq_false_of_ne hy0
      have HC := hid (bitsN_cons y hy0 hy)
      have hcb := ctz_bit y hy0 hy
      have hc64 := hcb.1
      have hmem : Lib.ctz 64 y ∈ bitsN x0 := by rw [← hE.out, HC.out]; simp
      have hlen : pre.length < 64 := by
        have h := congrArg List.length hE.out
        rw [HC.out] at h
        simp at h
        have := bitsN_len x0
        omega
      have HTZ := hid (tz_any y hy hy0 wr hTr)
      obtain ⟨ka, hka⟩ : ∃ ka : Atom x0, ka.1 = Lib.ctz 64 y := ⟨⟨_, mem_bitsN.1 hmem⟩, rfl⟩
      rw [← hka] at HC HTZ
      clear hmem hcb hc64 hka
      have hka64 := ka.2.1
      obtain ⟨f1, t1, a1, b1, hy1, hR1⟩ := hY pre ka wr hJ hlen
      dsimp only [atomV] at hy1 hR1
      gi_wp2
      refine ⟨trivial, (fun h => by cases h), ?_⟩
      refine (callsIn_wide.2 HTZ.out).mono ?_
      rintro e w' ⟨rfl, rfl⟩
      gi_wp2
      refine ⟨(fun h => by cases h), hR1.mono ?_⟩
      rintro e W3 (⟨rfl, hJ3, hk3⟩ | ⟨rfl, hJx3⟩)
      · have hwrap : IntKind.u64.wrap ((y : Int) - 1) = ((y - 1 : Nat) : Int) := by rw [IntKind.wrap_u64]; omega
        have hand : bits BinOp.and IntKind.u64 (y : Int) ((y - 1 : Nat) : Int) = ((y &&& (y - 1) : Nat) : Int) := bits_and_u64_nat y (y - 1) hy (by omega)
        gi_wp2
        have hlt := clear_lt y hy0
        refine ⟨⟨pre ++ [ka], y &&& (y - 1), rfl, by omega, ?_, hTr.below hk3 (by omega), hJ3⟩, by simp [intOf]; omega⟩
        have h := hE.out
        unfold Hid
        rw [HC.out] at h
        rw [List.map_append, List.append_assoc]
        exact h
      · gi_wp2
        refine bodyPost_ret (results_none rfl _ _ _) rfl ?_
        exact ⟨⟨_, rfl⟩, .inr ⟨pre ++ [ka], trivial, hJx3⟩⟩

/-- The iterator's contract. -/
theorem atoms_stops (n bx x0 : Nat) (hx : x0 < 18446744073709551616) (w : World) (hb : w.cell? ⟨bx, 0, none⟩ = some (.int .u64 (x0 : Int))) (hbl : bx < w.heap.size) (hT : TabIn w) :
    SeqStopsK Fence.wide n Tryd.prog 58 #[.pointer (some ⟨bx, 0, none⟩)] (atomV (x := x0)) (Below 1) (fun ys => ys.map (·.1) = bitsN x0) (fun _ => True) 64 w := fun l J Jx W hW _ _ hY h0 =>
  atoms_in n l bx x0 hx J Jx hY W ((hW.cell (p := ⟨bx, 0, none⟩) hbl).trans hb) (hT.below hW (by omega)) h0

set_option maxHeartbeats 1000000 in
/-- The set is boxed; the function value captures the box. -/
theorem atoms_any (a0 a1 : Int) (w : World) :
    Calls Tryd.prog 44 #[.agg #[.int .u64 a0, .int .u64 a1]] w fun e w' => e = .returned (.func (.func 58) #[] #[.pointer (some ⟨w.heap.size, 0, none⟩)]) ∧ w' = w.alloc (.cells #[.int .u64 a0, .int .u64 a1] 58) := by
  have hmf : ∀ (fn : Fn) (first cp : Array Value) (w : World), (Instr.makeFunc fn first cp).run Tryd.prog w = .ok (.func fn first cp) w := fun _ _ _ _ => rfl
  go_enter Tryd.func44, Tryd.ntmps44
  go_wp2
  go_ret
  exact ⟨rfl, rfl⟩
end Go.Proofs.YtjhmlcilabnlbaaDoor
/- States: sets of two words as numbers; a plan in memory. -/
namespace Go.Proofs.YtjhmlcilabnlbaaDoor
open Go.RowKit

/-- A set: the word of the atoms, the word of the ends. -/
abbrev S2 := Nat × Nat
def S2.ok (a : S2) : Prop := a.1 < 18446744073709551616 ∧ a.2 < 18446744073709551616
def S2.or (a b : S2) : S2 := (a.1 ||| b.1, a.2 ||| b.2)
def S2.meets (a b : S2) : Bool := (a.1 &&& b.1 != 0) || (a.2 &&& b.2 != 0)
def S2.bit (k : Nat) : S2 := if k < 64 then (2 ^ k, 0) else (0, 2 ^ (k - 64))
theorem S2.or_ok {a b : S2} (ha : a.ok) (hb : b.ok) : (a.or b).ok := ⟨Nat.or_lt_two_pow (n := 64) ha.1 hb.1, Nat.or_lt_two_pow (n := 64) ha.2 hb.2⟩
theorem S2.zero_ok : S2.ok (0, 0) := ⟨by decide, by decide⟩

theorem orW_nat {n m : Nat} (hn : n < 18446744073709551616) (hm : m < 18446744073709551616) : orW (n : Int) (m : Int) = ((n ||| m : Nat) : Int) :=
  (bits_nat .u64 64 (by decide) (fun n h0 h1 => by rw [IntKind.wrap_u64]; omega) n m hn hm).2
theorem andW_nat {n m : Nat} (hn : n < 18446744073709551616) (hm : m < 18446744073709551616) : andW (n : Int) (m : Int) = ((n &&& m : Nat) : Int) := bits_and_u64_nat n m hn hm
theorem bitW_nat (k : Nat) : bitW k = ((2 ^ (k % 64) : Nat) : Int) := by
  have hp : 2 ^ (k % 64) < 2 ^ 64 := Nat.pow_lt_pow_right (by decide) (by omega)
  have := wrapN64 (2 ^ (k % 64)) hp
  unfold bitW
  rw [← this]; simp

theorem bne_cast (n : Nat) : (((n : Nat) : Int) != 0) = (n != 0) := by
  rw [Bool.eq_iff_iff]; simp

theorem union_nat (a b : S2) (ha : a.ok) (hb : b.ok) (w : World) :
    Calls Tryd.prog 29 #[.agg #[.int .u64 (a.1 : Int), .int .u64 (a.2 : Int)], .agg #[.int .u64 (b.1 : Int), .int .u64 (b.2 : Int)]] w fun e w' => e = .returned (.agg #[.int .u64 ((a.or b).1 : Int), .int .u64 ((a.or b).2 : Int)]) ∧ Below w.heap.size w w' := by
  have h := union_any (a.1 : Int) (a.2 : Int) (b.1 : Int) (b.2 : Int) w
  rw [orW_nat ha.1 hb.1, orW_nat ha.2 hb.2] at h
  exact h
theorem meets_nat (a b : S2) (ha : a.ok) (hb : b.ok) (w : World) :
    Calls Tryd.prog 37 #[.agg #[.int .u64 (a.1 : Int), .int .u64 (a.2 : Int)], .agg #[.int .u64 (b.1 : Int), .int .u64 (b.2 : Int)]] w fun e w' => e = .returned (.bool (a.meets b)) ∧ Below w.heap.size w w' := by
  have h := meets_any (a.1 : Int) (a.2 : Int) (b.1 : Int) (b.2 : Int) w
  unfold meetsW at h
  rw [andW_nat ha.1 hb.1, andW_nat ha.2 hb.2, bne_cast, bne_cast] at h
  exact h
theorem S2.bit_ok {k : Nat} (hk : k < 128) : (S2.bit k).ok := by
  unfold S2.bit
  split
  · rename_i h; exact ⟨show 2 ^ k < 2 ^ 64 from Nat.pow_lt_pow_right (by decide) h, show (0 : Nat) < 18446744073709551616 by decide⟩
  · exact ⟨show (0 : Nat) < 18446744073709551616 by decide, show 2 ^ (k - 64) < 2 ^ 64 from Nat.pow_lt_pow_right (by decide) (by omega)⟩
theorem with_nat (a : S2) (k : Nat) (ha : a.ok) (hk : k < 128) (w : World) :
    Calls Tryd.prog 27 #[.agg #[.int .u64 (a.1 : Int), .int .u64 (a.2 : Int)], .int .i64 (k : Int)] w fun e w' => e = .returned (.agg #[.int .u64 ((a.or (S2.bit k)).1 : Int), .int .u64 ((a.or (S2.bit k)).2 : Int)]) ∧ Below w.heap.size w w' := by
  have hb := S2.bit_ok hk
  by_cases h : k < 64
  · have hm : k % 64 = k := Nat.mod_eq_of_lt h
    have hc := with_low (a.1 : Int) (a.2 : Int) k h w
    have e : S2.bit k = (2 ^ k, 0) := if_pos h
    rw [bitW_nat, hm] at hc
    rw [e] at hb ⊢
    rw [orW_nat ha.1 hb.1] at hc
    show Calls Tryd.prog 27 _ w fun e w' => e = .returned (.agg #[.int .u64 ((a.1 ||| 2 ^ k : Nat) : Int), .int .u64 ((a.2 ||| 0 : Nat) : Int)]) ∧ _
    rw [Nat.or_zero]
    exact hc
  · have hm : k % 64 = k - 64 := by omega
    have hc := with_high (a.1 : Int) (a.2 : Int) k (by omega) hk w
    have e : S2.bit k = (0, 2 ^ (k - 64)) := if_neg h
    rw [bitW_nat, hm] at hc
    rw [e] at hb ⊢
    rw [orW_nat ha.2 hb.2] at hc
    show Calls Tryd.prog 27 _ w fun e w' => e = .returned (.agg #[.int .u64 ((a.1 ||| 0 : Nat) : Int), .int .u64 ((a.2 ||| 2 ^ (k - 64) : Nat) : Int)]) ∧ _
    rw [Nat.or_zero]
    exact hc
theorem meets_bit (a : S2) (k : Nat) (hk : k < 64) : a.meets (S2.bit k) = a.1.testBit k := by
  unfold S2.meets S2.bit
  rw [if_pos hk]
  simp only [Nat.and_zero, bne_self_eq_false, Bool.or_false]
  rw [Bool.eq_iff_iff]
  simp only [bne_iff_ne, ne_eq]
  constructor
  · intro h
    by_cases ht : a.1.testBit k = true
    · exact ht
    · exfalso; apply h
      apply Nat.eq_of_testBit_eq
      intro j
      rw [Nat.testBit_and, Nat.testBit_two_pow, Nat.zero_testBit]
      by_cases e : k = j
      · subst e; simp; simpa using ht
      · simp [e]
  · intro h e
    have := congrArg (fun x => x.testBit k) e
    simp [Nat.testBit_and, h] at this

/-- What a plan holds. -/
structure PlD where
  bg : List S2
  nx : List S2
  mt : Nat → S2
  en : S2
structure PlD.ok (D : PlD) : Prop where
  bg : ∀ a, a ∈ D.bg → a.ok
  nx : ∀ a, a ∈ D.nx → a.ok
  mt : ∀ b, b < 256 → (D.mt b).ok
  en : D.en.ok
  fit : ∀ b k, b < 256 → k < 64 → (D.mt b).1.testBit k = true → k < D.nx.length
  few : D.nx.length ≤ 64
  less : D.bg.length ≤ 64

/-- A list of sets in a block. -/
def SetsAt (w : World) (g : Nat) (l : List S2) : Prop := ∀ i a, l[i]? = some a → w.cell? ⟨g, i * 2, none⟩ = some (.int .u64 (a.1 : Int)) ∧ w.cell? ⟨g, i * 2 + 1, none⟩ = some (.int .u64 (a.2 : Int))
/-- A plan in memory, below B. -/
structure PlanAt (B : Nat) (w : World) (p : Nat) (D : PlD) : Prop where
  plt : p < B
  bg : ∃ g c, w.cell? ⟨p, 0, none⟩ = some (.slice (some ⟨g, 0, none⟩) D.bg.length c) ∧ g < B ∧ D.bg.length ≤ c ∧ SetsAt w g D.bg
  nx : ∃ g c, w.cell? ⟨p, 1, none⟩ = some (.slice (some ⟨g, 0, none⟩) D.nx.length c) ∧ g < B ∧ D.nx.length ≤ c ∧ SetsAt w g D.nx
  mt : ∀ b, b < 256 → w.cell? ⟨p, 2 + b * 2, none⟩ = some (.int .u64 ((D.mt b).1 : Int)) ∧ w.cell? ⟨p, 2 + b * 2 + 1, none⟩ = some (.int .u64 ((D.mt b).2 : Int))
  en : w.cell? ⟨p, 514, none⟩ = some (.int .u64 (D.en.1 : Int)) ∧ w.cell? ⟨p, 515, none⟩ = some (.int .u64 (D.en.2 : Int))
theorem SetsAt.below {B : Nat} {w w' : World} {g : Nat} {l : List S2} (h : SetsAt w g l) (k : Below B w w') (hg : g < B) : SetsAt w' g l := fun i a ha => ⟨(k.cell (p := ⟨g, i * 2, none⟩) hg).trans (h i a ha).1, (k.cell (p := ⟨g, i * 2 + 1, none⟩) hg).trans (h i a ha).2⟩
theorem PlanAt.below {B : Nat} {w w' : World} {p : Nat} {D : PlD} (h : PlanAt B w p D) (k : Below B w w') : PlanAt B w' p D := by
  obtain ⟨g1, c1, e1, l1, m1, s1⟩ := h.bg
  obtain ⟨g2, c2, e2, l2, m2, s2⟩ := h.nx
  exact ⟨h.plt, ⟨g1, c1, (k.cell (p := ⟨p, 0, none⟩) h.plt).trans e1, l1, m1, s1.below k l1⟩, ⟨g2, c2, (k.cell (p := ⟨p, 1, none⟩) h.plt).trans e2, l2, m2, s2.below k l2⟩,
    fun b hb => ⟨(k.cell (p := ⟨p, 2 + b * 2, none⟩) h.plt).trans (h.mt b hb).1, (k.cell (p := ⟨p, 2 + b * 2 + 1, none⟩) h.plt).trans (h.mt b hb).2⟩,
    (k.cell (p := ⟨p, 514, none⟩) h.plt).trans h.en.1, (k.cell (p := ⟨p, 515, none⟩) h.plt).trans h.en.2⟩
end Go.Proofs.YtjhmlcilabnlbaaDoor
/- A region that draws its order, in the round of a range over a function: one walk of its text, over a class of worlds. -/
namespace Go.Proofs.YtjhmlcilabnlbaaDoor
variable {F : Fence} {n : Nat} {P : Program} {ops : Array Oper} {C : World → Prop}

def noDefer (o : Oper) : Bool := match o.op with | .defer _ => false | _ => true
theorem noDefer_ne {o : Oper} (h : noDefer o = true) : ∀ c, o.op ≠ .defer c := by
  intro c e
  unfold noDefer at h
  rw [e] at h
  cases h

theorem quiet_runs {o : Oper} {a : Act} {K : Act → Prop} {K' : Act → World → Prop} {Q' : Exit → Act → World → Prop} {w : World} (hnd : noDefer o = true) (hw : C w) (h : ∀ a w', C w' → K a → K' a w')
    (ha : o.askedIn F P a C) (hh : o.quietIn F n P a C K) : o.wpIn F n P a w K' Q' := by
  obtain ⟨v, h1, h2⟩ := hh
  have h3 := h1 w hw
  refine ⟨ha w hw, ?_⟩
  rw [Oper.semAt_eq _ _ _ (noDefer_ne hnd)]
  unfold Oper.quietAtIn at h3
  cases hr : (execOp a.eval o).run P w with
  | halt x w' => rw [hr] at h3; exact h3.elim
  | ok x w' =>
    rw [hr] at h3
    cases x with
    | value u => obtain ⟨rfl, rfl⟩ := h3; exact h _ _ hw h2
    | skip => obtain ⟨rfl, rfl⟩ := h3; exact h _ _ hw h2
    | enter f args =>
      obtain ⟨rfl, hd, hc⟩ := h3
      exact ⟨hd, hc.mono fun e w'' hx => by obtain ⟨rfl, hC⟩ := hx; exact h _ _ hC h2⟩
    | _ => exact h3.elim

theorem quiet_op {i : Nat} {a : Act} {K : Act → Prop} {K' : Act → World → Prop} {Q' : Exit → Act → World → Prop} {w : World} (hnd : ops.all noDefer = true) (hC : C w) (h : ∀ a w', C w' → K a → K' a w')
    (hh : qOpIn F n P ops C i K a) : wpOpIn F n P ops Q' i K' a w := by
  unfold wpOpIn
  unfold qOpIn at hh
  cases ho : ops[i]? with
  | none => rw [ho] at hh; exact h _ _ hC hh
  | some o =>
    rw [ho] at hh
    obtain ⟨ha, hh⟩ := hh
    have hn : noDefer o = true := by
      rw [Array.all_eq_true_iff_forall_mem] at hnd
      exact hnd o (Array.mem_of_getElem? ho)
    by_cases hw : Region.wanted o (yielded ops a.tmps) = true
    · rw [if_pos hw] at hh
      show if Region.wanted o (yielded ops a.tmps) = true then _ else _
      rw [if_pos hw]
      exact quiet_runs hn hC h ha hh
    · rw [if_neg hw] at hh
      show if Region.wanted o (yielded ops a.tmps) = true then _ else _
      rw [if_neg hw]
      exact ⟨ha w hC, h _ _ hC hh⟩

theorem quiet_any {Q : Act → Prop} {Q' : Exit → Act → World → Prop} (hnd : ops.all noDefer = true) (hQ : ∀ a w, C w → Q a → Q' .normal a w) (fuel : Nat) : ∀ (listed : Array Bool) (a : Act) (w : World), C w →
    wpAnyQIn F n P .any ops C Q fuel listed a → wpAnyIn F n P .any ops Q' fuel listed a w := by
  induction fuel with
  | zero => intro listed a w hw h; exact ⟨h.1, hQ _ _ hw h.2⟩
  | succ fuel ih => intro listed a w hw h; exact ⟨fun h0 => hQ _ _ hw (h.1 h0), fun i hi => quiet_op hnd hw (fun a' w' hw' hx => ih _ a' w' hw' hx) (h.2 i hi)⟩

/-- One walk of the text serves every order, in a round too. -/
theorem region_quiet {id : Nat} {Q : Exit → Act → World → Prop} {a : Act} {w : World} (hnd : ops.all noDefer = true) (hm : P.follows .mixedOrders = true) (hB : Region.lexB .any ops = true) (hC : C w.drew)
    (h : wpQuietIn F n P ops C (fun a' => ∀ w', C w' → Q .normal a' w') ops.toList a) : (Code.region id ops true).wpIn F n P Q a w := by
  simp only [Region.lexB, Bool.and_eq_true] at hB
  refine wpIn_region_any hm (quiet_any hnd (Q := fun a' => ∀ w', C w' → Q .normal a' w') (fun _ w' hw' h => h w' hw') _ _ _ _ hC ?_)
  have := wpAnyQIn_lex (F := F) (n := n) (C := C) (md := .any) hB.1 ops.toList 0 (Array.replicate ops.size false) a (by simp) (by simpa using hB.2) h
  simpa using this
end Go.Proofs.YtjhmlcilabnlbaaDoor
/- States: one step. -/
namespace Go.Proofs.YtjhmlcilabnlbaaDoor
open Go.RowKit Go.Shelf

attribute [local go_sem] Oper.semAt_some

def stepL (D : PlD) (b : Nat) (ks : List Nat) : S2 := ks.foldl (fun acc k => if (D.mt b).1.testBit k then acc.or (D.nx.getD k (0, 0)) else acc) (0, 0)
def stepN (D : PlD) (x b : Nat) : S2 := stepL D b (bitsN x)
theorem stepL_snoc (D : PlD) (b : Nat) (ks : List Nat) (k : Nat) : stepL D b (ks ++ [k]) = if (D.mt b).1.testBit k then (stepL D b ks).or (D.nx.getD k (0, 0)) else stepL D b ks := by
  unfold stepL; rw [List.foldl_append]; rfl
theorem getD_ok {l : List S2} (h : ∀ a, a ∈ l → a.ok) (k : Nat) : (l.getD k (0, 0)).ok := by
  rw [List.getD_eq_getElem?_getD]
  cases e : l[k]? with
  | none => exact S2.zero_ok
  | some a => exact h a (List.mem_of_getElem? e)
theorem stepL_ok (D : PlD) (hD : D.ok) (b : Nat) (ks : List Nat) : (stepL D b ks).ok := by
  unfold stepL
  have : ∀ (ks : List Nat) (a : S2), a.ok → (ks.foldl (fun acc k => if (D.mt b).1.testBit k then acc.or (D.nx.getD k (0, 0)) else acc) a).ok := by
    intro ks
    induction ks with
    | nil => intro a ha; exact ha
    | cons k ks ih =>
      intro a ha
      rw [List.foldl_cons]
      apply ih
      split
      · exact S2.or_ok ha (getD_ok hD.nx k)
      · exact ha
  exact this ks _ S2.zero_ok
theorem keeps_below {W W' : World} (h : Below W.heap.size W W') : KeepsOthers W W' := ⟨h.size, fun k o hk _ => by
  have : k < W.heap.size := (Array.getElem?_eq_some_iff.1 hk).1
  rw [h.block k this]; exact hk⟩

theorem heap_six (w : World) (o0 o1 o2 o3 o4 o5 : Obj) : ∀ W, W = (((((w.alloc o0).alloc o1).alloc o2).alloc o3).alloc o4).alloc o5 → W.heap[w.heap.size]? = some o0 ∧ W.heap[w.heap.size + 1]? = some o1 ∧ W.heap[w.heap.size + 1 + 1]? = some o2 ∧ W.heap[w.heap.size + 1 + 1 + 1]? = some o3 ∧ W.heap[w.heap.size + 1 + 1 + 1 + 1]? = some o4 ∧ W.heap[w.heap.size + 1 + 1 + 1 + 1 + 1]? = some o5 := by
  intro W hW
  have e1 := heap_alloc_at w o0
  have e2 := heap_alloc_at (w.alloc o0) o1
  have e3 := heap_alloc_at ((w.alloc o0).alloc o1) o2
  have e4 := heap_alloc_at (((w.alloc o0).alloc o1).alloc o2) o3
  have e5 := heap_alloc_at ((((w.alloc o0).alloc o1).alloc o2).alloc o3) o4
  have e6 := heap_alloc_at (((((w.alloc o0).alloc o1).alloc o2).alloc o3).alloc o4) o5
  simp only [World.size_alloc] at e2 e3 e4 e5 e6
  subst hW
  refine ⟨?_, ?_, ?_, ?_, ?_, e6⟩
  · exact heap_alloc_old (heap_alloc_old (heap_alloc_old (heap_alloc_old (heap_alloc_old e1 (by simp only [World.size_alloc]; omega)) (by simp only [World.size_alloc]; omega)) (by simp only [World.size_alloc]; omega)) (by simp only [World.size_alloc]; omega)) (by simp only [World.size_alloc]; omega)
  · exact heap_alloc_old (heap_alloc_old (heap_alloc_old (heap_alloc_old e2 (by simp only [World.size_alloc]; omega)) (by simp only [World.size_alloc]; omega)) (by simp only [World.size_alloc]; omega)) (by simp only [World.size_alloc]; omega)
  · exact heap_alloc_old (heap_alloc_old (heap_alloc_old e3 (by simp only [World.size_alloc]; omega)) (by simp only [World.size_alloc]; omega)) (by simp only [World.size_alloc]; omega)
  · exact heap_alloc_old (heap_alloc_old e4 (by simp only [World.size_alloc]; omega)) (by simp only [World.size_alloc]; omega)
  · exact heap_alloc_old e5 (by simp only [World.size_alloc]; omega)

theorem with_bit (k : Nat) (hk : k < 64) (w : World) :
    Calls Tryd.prog 27 #[.agg #[.int .u64 0, .int .u64 0], .int .i64 (k : Int)] w fun e w' => e = .returned (.agg #[.int .u64 ((S2.bit k).1 : Int), .int .u64 ((S2.bit k).2 : Int)]) ∧ Below w.heap.size w w' := by
  have h := with_nat (0, 0) k S2.zero_ok (by omega) w
  have e : S2.or (0, 0) (S2.bit k) = S2.bit k := by unfold S2.or; simp
  rw [e] at h
  exact h

/-- The call's own cells, between two rounds. -/
def StepI (w : World) (p b : Nat) (a : S2) (W : World) : Prop :=
  (W.cell? ⟨w.heap.size, 0, none⟩ = some (.pointer (some ⟨p, 0, none⟩)) ∧ W.cell? ⟨w.heap.size + 1 + 1, 0, none⟩ = some (.int .u8 (b : Int)) ∧
   W.cell? ⟨w.heap.size + 1 + 1 + 1, 0, none⟩ = some (.int .u64 0) ∧ W.cell? ⟨w.heap.size + 1 + 1 + 1, 1, none⟩ = some (.int .u64 0) ∧
   W.cell? ⟨w.heap.size + 1 + 1 + 1 + 1, 0, none⟩ = some (.int .u64 (a.1 : Int)) ∧ W.cell? ⟨w.heap.size + 1 + 1 + 1 + 1, 1, none⟩ = some (.int .u64 (a.2 : Int)) ∧
   W.frozen? ⟨w.heap.size + 1 + 1 + 1, 0, none⟩ = false ∧ W.frozen? ⟨w.heap.size + 1 + 1 + 1, 1, none⟩ = false ∧ W.frozen? ⟨w.heap.size + 1 + 1 + 1 + 1, 0, none⟩ = false ∧ W.frozen? ⟨w.heap.size + 1 + 1 + 1 + 1, 1, none⟩ = false) ∧ Below w.heap.size w W

theorem StepI.below {w W W' : World} {p b : Nat} {a : S2} (h : StepI w p b a W) (k : Below W.heap.size W W') : StepI w p b a W' := by
  have hlt : ∀ {A : Addr} {v : Value}, W.cell? A = some v → A.block < W.heap.size := by
    intro A v hv
    by_cases hx : A.block < W.heap.size
    · exact hx
    · simp [World.cell?, hx] at hv
  obtain ⟨⟨i0, i1, i2, i3, i4, i5, f0, f1, f2, f3⟩, hB⟩ := h
  exact ⟨⟨(k.cell (hlt i0)).trans i0, (k.cell (hlt i1)).trans i1, (k.cell (hlt i2)).trans i2, (k.cell (hlt i3)).trans i3, (k.cell (hlt i4)).trans i4, (k.cell (hlt i5)).trans i5,
    (World.frozen?_of_block (k.block _ (hlt i2))).trans f0, (World.frozen?_of_block (k.block _ (hlt i3))).trans f1, (World.frozen?_of_block (k.block _ (hlt i4))).trans f2, (World.frozen?_of_block (k.block _ (hlt i5))).trans f3⟩, hB.trans (k.mono hB.size)⟩

theorem StepI.store {w W : World} {p b : Nat} {a : S2} (h : StepI w p b a W) (a' : S2) : StepI w p b a' ((W.setCell ⟨w.heap.size + 1 + 1 + 1 + 1, 0, none⟩ (.int .u64 (a'.1 : Int))).setCell ⟨w.heap.size + 1 + 1 + 1 + 1, 1, none⟩ (.int .u64 (a'.2 : Int))) := by
  obtain ⟨⟨i0, i1, i2, i3, i4, i5, f0, f1, f2, f3⟩, hB⟩ := h
  have other : ∀ (A : Addr), A.block ≠ w.heap.size + 1 + 1 + 1 + 1 → ((W.setCell ⟨w.heap.size + 1 + 1 + 1 + 1, 0, none⟩ (.int .u64 (a'.1 : Int))).setCell ⟨w.heap.size + 1 + 1 + 1 + 1, 1, none⟩ (.int .u64 (a'.2 : Int))).cell? A = W.cell? A := fun A hA =>
    World.cell?_of_block ((Below.heap_setCell _ _ _ _ hA).trans (Below.heap_setCell _ _ _ _ hA))
  refine ⟨⟨(other _ (by show w.heap.size ≠ _; omega)).trans i0, (other _ (by show w.heap.size + 1 + 1 ≠ _; omega)).trans i1, (other _ (by show w.heap.size + 1 + 1 + 1 ≠ _; omega)).trans i2, (other _ (by show w.heap.size + 1 + 1 + 1 ≠ _; omega)).trans i3, ?_, ?_, ?_, ?_, ?_, ?_⟩, (hB.setCell (p := ⟨w.heap.size + 1 + 1 + 1 + 1, 0, none⟩) (by show w.heap.size ≤ w.heap.size + 1 + 1 + 1 + 1; omega) _).setCell (p := ⟨w.heap.size + 1 + 1 + 1 + 1, 1, none⟩) (by show w.heap.size ≤ w.heap.size + 1 + 1 + 1 + 1; omega) _⟩
  · go_simp
  · go_simp
  · rw [World.frozen?_setCell, World.frozen?_setCell]; exact f0
  · rw [World.frozen?_setCell, World.frozen?_setCell]; exact f1
  · rw [World.frozen?_setCell, World.frozen?_setCell]; exact f2
  · rw [World.frozen?_setCell, World.frozen?_setCell]; exact f3

theorem StepI.own (w : World) (p b : Nat) {α : Type} (f : List α → S2) (B : Nat) (hB : w.heap.size ≤ B) : OwnFrom B (fun pre W => StepI w p b (f pre) W) :=
  OwnFrom.and (Own.from (fun _ _ _ _ hs hg hr => ⟨cell_kept hs.1 hg hr, cell_kept hs.2.1 hg hr, cell_kept hs.2.2.1 hg hr, cell_kept hs.2.2.2.1 hg hr, cell_kept hs.2.2.2.2.1 hg hr, cell_kept hs.2.2.2.2.2.1 hg hr, (frozen_kept hs.2.2.1 hg hr).trans hs.2.2.2.2.2.2.1, (frozen_kept hs.2.2.2.1 hg hr).trans hs.2.2.2.2.2.2.2.1, (frozen_kept hs.2.2.2.2.1 hg hr).trans hs.2.2.2.2.2.2.2.2.1, (frozen_kept hs.2.2.2.2.2.1 hg hr).trans hs.2.2.2.2.2.2.2.2.2⟩) _) (ownFrom_below (Nat.le_refl _) hB)

set_option maxRecDepth 100000 in
set_option maxHeartbeats 2000000 in
theorem step_any (D : PlD) (hD : D.ok) (p : Nat) (x : S2) (hx : x.ok) (b : Nat) (hb : b < 256) (w : World) (hP : PlanAt w.heap.size w p D) (hT : TabIn w) :
    Calls Tryd.prog 54 #[.pointer (some ⟨p, 0, none⟩), .agg #[.int .u64 (x.1 : Int), .int .u64 (x.2 : Int)], .int .u8 (b : Int)] w fun e w' => e = .returned (.agg #[.int .u64 ((stepN D x.1 b).1 : Int), .int .u64 ((stepN D x.1 b).2 : Int)]) ∧ Below w.heap.size w w' := by
  have hplt := hP.plt
  refine callsIn_wide (n := 5).1 ?_
  refine callsIn_of_wp_marks Tryd.func54 rfl trivial ?_ rfl
  simp only [Tryd.ntmps54, List.size_toArray, List.length_cons, List.length_nil, Nat.reduceAdd, Nat.reduceSub, Array.replicate_succ, Array.replicate_zero, List.push_toArray, List.append_toArray, List.nil_append, List.cons_append]
  gi_wp2
  refine ⟨trivial, (callsIn_wide.2 (atoms_any _ _ _)).mono ?_⟩
  rintro e w' ⟨rfl, rfl⟩
  gi_wp2
  have hB0 : Below w.heap.size w ((((((w.alloc (.cells #[.pointer (some ⟨p, 0, none⟩)] 62)).alloc (.cells #[.int .u64 (x.1 : Int), .int .u64 (x.2 : Int)] 58)).alloc (.cells #[.int .u8 (b : Int)] 5)).alloc (.cells #[.int .u64 0, .int .u64 0] 58)).alloc (.cells #[.int .u64 0, .int .u64 0] 58)).alloc (.cells #[.int .u64 (x.1 : Int), .int .u64 (x.2 : Int)] 58)) := (((((((Below.refl _ w).alloc (Nat.le_refl _) _).alloc (by simp) _).alloc (by simp; omega) _).alloc (by simp; omega) _).alloc (by simp; omega) _).alloc (by simp; omega) _)
  obtain ⟨g0, g1, g2, g3, g4, g5⟩ := heap_six w (.cells #[.pointer (some ⟨p, 0, none⟩)] 62) (.cells #[.int .u64 (x.1 : Int), .int .u64 (x.2 : Int)] 58) (.cells #[.int .u8 (b : Int)] 5) (.cells #[.int .u64 0, .int .u64 0] 58) (.cells #[.int .u64 0, .int .u64 0] 58) (.cells #[.int .u64 (x.1 : Int), .int .u64 (x.2 : Int)] 58) _ rfl
  have hx0 : ((((((w.alloc (.cells #[.pointer (some ⟨p, 0, none⟩)] 62)).alloc (.cells #[.int .u64 (x.1 : Int), .int .u64 (x.2 : Int)] 58)).alloc (.cells #[.int .u8 (b : Int)] 5)).alloc (.cells #[.int .u64 0, .int .u64 0] 58)).alloc (.cells #[.int .u64 0, .int .u64 0] 58)).alloc (.cells #[.int .u64 (x.1 : Int), .int .u64 (x.2 : Int)] 58)).cell? ⟨w.heap.size + 1 + 1 + 1 + 1 + 1, 0, none⟩ = some (.int .u64 (x.1 : Int)) := by simp only [World.cell?, g5]; rfl
  have hI0 : StepI w p b (0, 0) ((((((w.alloc (.cells #[.pointer (some ⟨p, 0, none⟩)] 62)).alloc (.cells #[.int .u64 (x.1 : Int), .int .u64 (x.2 : Int)] 58)).alloc (.cells #[.int .u8 (b : Int)] 5)).alloc (.cells #[.int .u64 0, .int .u64 0] 58)).alloc (.cells #[.int .u64 0, .int .u64 0] 58)).alloc (.cells #[.int .u64 (x.1 : Int), .int .u64 (x.2 : Int)] 58)) := by
    refine ⟨⟨?_, ?_, ?_, ?_, ?_, ?_, ?_, ?_, ?_, ?_⟩, hB0⟩
    · simp only [World.cell?, g0]; rfl
    · simp only [World.cell?, g2]; rfl
    · simp only [World.cell?, g3]; rfl
    · simp only [World.cell?, g3]; rfl
    · simp only [World.cell?, g4]; rfl
    · simp only [World.cell?, g4]; rfl
    · simp only [World.frozen?, g3]; simp
    · simp only [World.frozen?, g3]; simp
    · simp only [World.frozen?, g4]; simp
    · simp only [World.frozen?, g4]; simp
  have mixed : Tryd.prog.follows .mixedOrders = true := by kernel_rfl
  have hT0 := hT.below hB0 (by omega)
  refine wpIn_rangeFunc_ownF rfl (by omega) (gf := 58) (lb := #[.pointer (some ⟨w.heap.size + 1 + 1 + 1 + 1 + 1, 0, none⟩)]) rfl trivial (enters_of Tryd.func58 (by kernel_rfl) rfl)
    (atoms_stops 4 (w.heap.size + 1 + 1 + 1 + 1 + 1) x.1 hx.1 _ hx0 (by simp only [World.size_alloc]; omega) hT0) belowK_t (belowK_b (by simp only [World.size_alloc]; omega)) (Below.refl _ _) (fun _ => rfl)
    (fun (pre : List (Atom x.1)) W => StepI w p b (stepL D b (pre.map (·.1))) W) (fun _ _ _ => False)
    (StepI.own w p b (fun pre : List (Atom x.1) => stepL D b (pre.map (·.1))) _ hB0.size)
    (fun _ _ _ _ _ hs _ _ => hs) hI0
    (fun k => { tmps := #[.pointer (some ⟨p, 0, none⟩), .agg #[.int .u64 (x.1 : Int), .int .u64 (x.2 : Int)], .int .u8 (b : Int), .pointer (some ⟨w.heap.size, 0, none⟩), .pointer (some ⟨w.heap.size + 1, 0, none⟩), .pointer (some ⟨w.heap.size + 1 + 1, 0, none⟩), .pointer (some ⟨w.heap.size + 1 + 1 + 1, 0, none⟩), .pointer (some ⟨w.heap.size + 1 + 1 + 1 + 1, 0, none⟩), (.int .i64 (k.1 : Int)), .agg #[.int .u64 (x.1 : Int), .int .u64 (x.2 : Int)], .func (.func 58) #[] #[.pointer (some ⟨w.heap.size + 1 + 1 + 1 + 1 + 1, 0, none⟩)], (.int .i64 (k.1 : Int)), undef, undef, undef, undef, undef, undef, undef, undef, undef, undef, undef, undef, undef, undef, undef, undef, undef, undef, undef, undef], defers := [] }) ?assign ?body ?done ?stop
  case assign =>
    intro l k W K hK
    gi_wp2
    exact hK
  case body =>
    rintro l pre k W ⟨⟨i0, i1, i2, i3, i4, i5, f0, f1, f2, f3⟩, hB⟩ hlen
    have hPW := hP.below hB
    obtain ⟨gx, cx, ex, lx, mx, sx⟩ := hPW.nx
    obtain ⟨em1, em2⟩ := hPW.mt b hb
    have hk := k.2.1
    have hm := hD.mt b hb
    have hbI : (b : Int) < 256 := by omega
    have HBit := hid (meets_bit (D.mt b) k.1 hk)
    have hNW : w.heap.size + 1 + 1 < W.heap.size := by
      by_cases hx : w.heap.size + 1 + 1 < W.heap.size
      · exact hx
      · simp [World.cell?, hx] at i1
    have key : ∀ W', Below W.heap.size W W' → W'.cell? ⟨w.heap.size, 0, none⟩ = some (.pointer (some ⟨p, 0, none⟩)) ∧ W'.cell? ⟨w.heap.size + 1 + 1, 0, none⟩ = some (.int .u8 (b : Int)) ∧ W'.cell? ⟨p, 2 + b * 2, none⟩ = some (.int .u64 ((D.mt b).1 : Int)) ∧ W'.cell? ⟨p, 2 + b * 2 + 1, none⟩ = some (.int .u64 ((D.mt b).2 : Int)) := fun W' h =>
      ⟨(h.cell (p := ⟨w.heap.size, 0, none⟩) (show w.heap.size < W.heap.size by omega)).trans i0, (h.cell (p := ⟨w.heap.size + 1 + 1, 0, none⟩) hNW).trans i1, (h.cell (p := ⟨p, 2 + b * 2, none⟩) (show p < W.heap.size by omega)).trans em1, (h.cell (p := ⟨p, 2 + b * 2 + 1, none⟩) (show p < W.heap.size by omega)).trans em2⟩
    have k0 := fun W' h => (key W' h).1
    have k1 := fun W' h => (key W' h).2.1
    have k2 := fun W' h => (key W' h).2.2.1
    have k3 := fun W' h => (key W' h).2.2.2
    gi_wp2
    refine region_quiet (C := fun W' => Below W.heap.size W W') (by kernel_rfl) mixed (by kernel_rfl) ((Below.refl _ _).drew) ?_
    refine wpQuietIn_step (fun _ _ _ _ => trivial) (fun K hK => ?_)
    go_simp
    refine ⟨.pointer (some ⟨p, 0, none⟩), fun w' hC => by simp [k0 w' hC], hK _ ?_⟩
    clear hK K
    refine wpQuietIn_step (fun _ _ _ _ => trivial) (fun K hK => ?_)
    go_simp
    refine ⟨.int .u8 (b : Int), fun w' hC => by simp [k1 w' hC], hK _ ?_⟩
    clear hK K
    refine wpQuietIn_step (fun _ _ _ _ => trivial) (fun K hK => ?_)
    go_simp
    refine ⟨_, fun _ _ => rfl, hK _ ?_⟩
    clear hK K
    refine wpQuietIn_step (fun _ _ _ _ => trivial) (fun K hK => ?_)
    go_simp
    refine ⟨_, fun _ _ => rfl, hK _ ?_⟩
    clear hK K
    refine wpQuietIn_step (fun _ _ _ _ => trivial) (fun K hK => ?_)
    go_simp
    refine ⟨_, fun _ _ => rfl, hK _ ?_⟩
    clear hK K
    refine wpQuietIn_step (fun _ _ _ _ => trivial) (fun K hK => ?_)
    go_simp
    refine ⟨.agg #[.int .u64 ((D.mt b).1 : Int), .int .u64 ((D.mt b).2 : Int)], fun w' hC => by simp [k2 w' hC, k3 w' hC], hK _ ?_⟩
    clear hK K
    refine wpQuietIn_step (fun _ _ _ _ => trivial) (fun K hK => ?_)
    go_simp
    refine ⟨_, fun _ _ => rfl, hK _ ?_⟩
    clear hK K
    refine wpQuietIn_step (fun _ _ _ _ => trivial) (fun K hK => ?_)
    go_simp
    refine ⟨_, fun _ _ => rfl, hK _ ?_⟩
    clear hK K
    refine wpQuietIn_step (fun _ _ _ _ => trivial) (fun K hK => ?_)
    go_simp
    refine ⟨_, fun w' hC => (CallsIn.inRound l (callsIn_wide.2 (with_bit k.1 hk w'))).mono (fun e w'' hx => ⟨hx.1, hC.trans (hx.2.mono hC.size)⟩), hK _ ?_⟩
    clear hK K
    refine wpQuietIn_step (fun _ _ _ _ => trivial) (fun K hK => ?_)
    go_simp
    refine ⟨_, fun w' hC => (CallsIn.inRound l (callsIn_wide.2 (meets_nat (D.mt b) (S2.bit k.1) hm (S2.bit_ok (by omega)) w'))).mono (fun e w'' hx => ⟨hx.1, hC.trans (hx.2.mono hC.size)⟩), hK _ ?_⟩
    clear hK K
    refine wpQuietIn_nil ?_
    intro w3 hB3
    rw [HBit.out]
    have hB1 : Below 1 W w3 := hB3.mono (by omega)
    have hKO := keeps_below hB3
    clear k0 k1 k2 k3 key
    have hI3 : StepI w p b (stepL D b (pre.map (·.1))) w3 := StepI.below ⟨⟨i0, i1, i2, i3, i4, i5, f0, f1, f2, f3⟩, hB⟩ hB3
    have hsn := stepL_snoc D b (pre.map (·.1)) k.1
    have hmp : (pre ++ [k]).map (·.1) = pre.map (·.1) ++ [k.1] := by simp
    cases htb : (D.mt b).1.testBit k.1 with
    | false =>
      rw [htb] at hsn
      gi_wp2
      refine ⟨hKO, hB1, ?_⟩
      show StepI w p b (stepL D b ((pre ++ [k]).map (·.1))) w3
      rw [hmp, hsn]
      exact hI3
    | true =>
      rw [htb] at hsn
      have hfit := hD.fit b k.1 hb hk htb
      obtain ⟨y, hy⟩ : ∃ y, D.nx[k.1]? = some y := ⟨D.nx[k.1], List.getElem?_eq_getElem hfit⟩
      have hyD : D.nx.getD k.1 (0, 0) = y := by rw [List.getD_eq_getElem?_getD, hy]; rfl
      have hyok : y.ok := hD.nx y (List.mem_of_getElem? hy)
      have hsok := stepL_ok D hD b (pre.map (·.1))
      have hP3 := hP.below hI3.2
      obtain ⟨gx3, cx3, ex3, lx3, mx3, sx3⟩ := hP3.nx
      obtain ⟨sy0, sy1⟩ := sx3 k.1 y hy
      have hI3' := hI3
      obtain ⟨⟨j0, j1, j2, j3, j4, j5, m0, m1, m2, m3⟩, hBw3⟩ := hI3'
      have hfitI : (k.1 : Int) < (D.nx.length : Int) := by omega
      have hN4 : w.heap.size + 1 + 1 + 1 + 1 < w3.heap.size := by
        by_cases hx : w.heap.size + 1 + 1 + 1 + 1 < w3.heap.size
        · exact hx
        · simp [World.cell?, hx] at j4
      have HSN : Hid (stepL D b ((pre ++ [k]).map (·.1)) = (stepL D b (pre.map (·.1))).or y) := by unfold Hid; rw [hmp, hsn, if_pos rfl, hyD]
      clear hmp hsn
      generalize stepL D b (pre.map (·.1)) = acc at *
      have key5 : ∀ w5, Below w3.drew.heap.size w3.drew w5 → w5.cell? ⟨w.heap.size + 1 + 1 + 1 + 1, 0, none⟩ = some (.int .u64 (acc.1 : Int)) ∧ w5.cell? ⟨w.heap.size + 1 + 1 + 1 + 1, 1, none⟩ = some (.int .u64 (acc.2 : Int)) ∧ w5.frozen? ⟨w.heap.size + 1 + 1 + 1 + 1, 0, none⟩ = false ∧ w5.frozen? ⟨w.heap.size + 1 + 1 + 1 + 1, 1, none⟩ = false := fun w5 h =>
        ⟨(h.cell (p := ⟨w.heap.size + 1 + 1 + 1 + 1, 0, none⟩) hN4).trans j4, (h.cell (p := ⟨w.heap.size + 1 + 1 + 1 + 1, 1, none⟩) hN4).trans j5, (World.frozen?_of_block (a := ⟨w.heap.size + 1 + 1 + 1 + 1, 0, none⟩) (h.block _ hN4)).trans m2, (World.frozen?_of_block (a := ⟨w.heap.size + 1 + 1 + 1 + 1, 1, none⟩) (h.block _ hN4)).trans m3⟩
      clear i0 i1 i2 i3 i4 i5 f0 f1 f2 f3 em1 em2 ex sx hPW
      gi_wp2
      gi_region_with_o (refine ⟨trivial, (CallsIn.inRound l (callsIn_wide.2 (union_nat acc y hsok hyok _))).mono ?_⟩; rintro e w5 ⟨rfl, hB5⟩; obtain ⟨q0, q1, q2, q3⟩ := key5 _ hB5)
      all_goals
        gi_wp2
        refine ⟨((hKO.trans (KeepsOthers.drew _)).trans (keeps_below hB5)).trans ((KeepsOthers.setCell _ _ _).trans (KeepsOthers.setCell _ _ _)), ?_, ?_⟩
        · exact ((hB1.drew.trans (hB5.mono (by show 1 ≤ w3.heap.size; omega))).setCell (p := ⟨w.heap.size + 1 + 1 + 1 + 1, 0, none⟩) (by show 1 ≤ w.heap.size + 1 + 1 + 1 + 1; omega) _).setCell (p := ⟨w.heap.size + 1 + 1 + 1 + 1, 1, none⟩) (by show 1 ≤ w.heap.size + 1 + 1 + 1 + 1; omega) _
        · show StepI w p b (stepL D b ((pre ++ [k]).map (·.1))) _
          rw [HSN.out]
          exact ((hI3.below (W' := w3.drew) ((Below.refl _ _).drew)).below hB5).store _
  case done =>
    rintro D' ys W hD' hS ⟨⟨i0, i1, i2, i3, i4, i5, f0, f1, f2, f3⟩, hB⟩ hK
    have hSt : stepL D b (ys.map (·.1)) = stepN D x.1 b := by rw [hS]; rfl
    rw [hSt] at i4 i5
    clear hS hSt
    obtain ⟨R, hRe⟩ : ∃ R, stepN D x.1 b = R := ⟨_, rfl⟩
    rw [hRe] at i4 i5
    have HRe := hid hRe
    clear hRe
    gi_wp2
    have hK' := ((KeepsOthers.setCell W ⟨w.heap.size + 1 + 1 + 1, 0, none⟩ (.int .u64 (R.1 : Int))).trans (KeepsOthers.setCell _ ⟨w.heap.size + 1 + 1 + 1, 1, none⟩ (.int .u64 (R.2 : Int)))).same D' _ hK rfl
    have c0 : ((W.setCell ⟨w.heap.size + 1 + 1 + 1, 0, none⟩ (.int .u64 (R.1 : Int))).setCell ⟨w.heap.size + 1 + 1 + 1, 1, none⟩ (.int .u64 (R.2 : Int))).cell? ⟨w.heap.size + 1 + 1 + 1, 0, none⟩ = some (.int .u64 (R.1 : Int)) := by go_simp
    have c1 : ((W.setCell ⟨w.heap.size + 1 + 1 + 1, 0, none⟩ (.int .u64 (R.1 : Int))).setCell ⟨w.heap.size + 1 + 1 + 1, 1, none⟩ (.int .u64 (R.2 : Int))).cell? ⟨w.heap.size + 1 + 1 + 1, 1, none⟩ = some (.int .u64 (R.2 : Int)) := by go_simp
    have d0 := cell_kept c0 (grownBy_putObj' _ D' (.deferred none)) (fun r e => by cases e; exact ⟨_, hK', rfl⟩)
    have d1 := cell_kept c1 (grownBy_putObj' _ D' (.deferred none)) (fun r e => by cases e; exact ⟨_, hK', rfl⟩)
    have hBe := ((hB.setCell (p := ⟨w.heap.size + 1 + 1 + 1, 0, none⟩) (by show w.heap.size ≤ w.heap.size + 1 + 1 + 1; omega) (.int .u64 (R.1 : Int))).setCell (p := ⟨w.heap.size + 1 + 1 + 1, 1, none⟩) (by show w.heap.size ≤ w.heap.size + 1 + 1 + 1; omega) (.int .u64 (R.2 : Int))).trans (belowK_b (w := w) (Nat.le_refl _) _ D' _ (.deferred none) (by simp at hD'; omega) hK' rfl rfl)
    refine ⟨by simp, .inl ⟨_, _, rfl, run_takeDeferred hK', ?_⟩⟩
    refine ⟨.agg #[.int .u64 (R.1 : Int), .int .u64 (R.2 : Int)], ?_, by rw [HRe.out], hBe⟩
    simp [results, Tryd.f54, go_sem, d0, d1]
  case stop =>
    rintro D' c pre W _ _ h _
    exact h.elim
end Go.Proofs.YtjhmlcilabnlbaaDoor
/- States: the first state. -/
namespace Go.Proofs.YtjhmlcilabnlbaaDoor
open Go.RowKit

def firstL (l : List S2) : S2 := l.foldl S2.or (0, 0)
def firstN (D : PlD) : S2 := firstL D.bg
theorem firstL_succ {l : List S2} {m : Nat} {a : S2} (h : l[m]? = some a) : firstL (l.take (m + 1)) = (firstL (l.take m)).or a := by
  unfold firstL
  rw [List.take_add_one, h, List.foldl_append]; rfl
theorem firstL_ok {l : List S2} (h : ∀ a, a ∈ l → a.ok) : (firstL l).ok := by
  unfold firstL
  have : ∀ (l : List S2) (a : S2), (∀ x, x ∈ l → x.ok) → a.ok → (l.foldl S2.or a).ok := by
    intro l
    induction l with
    | nil => intro a _ ha; exact ha
    | cons y ys ih => intro a h ha; exact ih _ (fun x hx => h x (List.mem_cons_of_mem _ hx)) (S2.or_ok ha (h y (List.mem_cons_self ..)))
  exact this l _ h S2.zero_ok

/-- A set's block. -/
def ZB (w : World) (g : Nat) (a : S2) : Prop := w.heap[g]? = some (.cells #[.int .u64 (a.1 : Int), .int .u64 (a.2 : Int)] 58 (0, 0))
theorem ZB.c0 {w : World} {g : Nat} {a : S2} (h : ZB w g a) : w.cell? ⟨g, 0, none⟩ = some (.int .u64 (a.1 : Int)) := by simp [World.cell?, show w.heap[g]? = _ from h]
theorem ZB.c1 {w : World} {g : Nat} {a : S2} (h : ZB w g a) : w.cell? ⟨g, 1, none⟩ = some (.int .u64 (a.2 : Int)) := by simp [World.cell?, show w.heap[g]? = _ from h]
theorem ZB.fz {w : World} {g : Nat} {a : S2} (h : ZB w g a) (k : Nat) : w.frozen? ⟨g, k, none⟩ = false := by simp [World.frozen?, show w.heap[g]? = _ from h]
theorem ZB.put {w : World} {g : Nat} {a : S2} (h : ZB w g a) (x : S2) : ZB ((w.setCell ⟨g, 0, none⟩ (.int .u64 (x.1 : Int))).setCell ⟨g, 1, none⟩ (.int .u64 (x.2 : Int))) g x :=
  heap_setCell_same (a := ⟨g, 1, none⟩) (heap_setCell_same (a := ⟨g, 0, none⟩) h rfl _) rfl _
theorem ZB.other {w : World} {g k : Nat} {a : S2} (h : ZB w g a) (hk : g ≠ k) (x y : Value) : ZB ((w.setCell ⟨k, 0, none⟩ x).setCell ⟨k, 1, none⟩ y) g a :=
  (Below.heap_setCell _ _ _ _ hk).trans ((Below.heap_setCell _ _ _ _ hk).trans h)
theorem ZB.lt {w : World} {g : Nat} {a : S2} (h : ZB w g a) : g < w.heap.size := (Array.getElem?_eq_some_iff.1 h).1

set_option maxHeartbeats 1000000 in
theorem first_any (D : PlD) (hD : D.ok) (p : Nat) (w : World) (hP : PlanAt w.heap.size w p D) :
    Calls Tryd.prog 52 #[.pointer (some ⟨p, 0, none⟩)] w fun e w' => e = .returned (.agg #[.int .u64 ((firstN D).1 : Int), .int .u64 ((firstN D).2 : Int)]) ∧ Below w.heap.size w w' := by
  have hplt := hP.plt
  obtain ⟨gb, cb, eb, lb, mb, sb⟩ := hP.bg
  have hless := hD.less
  have hB0 : Below w.heap.size w ((w.alloc (.cells #[.int .u64 0, .int .u64 0] 58)).alloc (.cells #[.int .u64 0, .int .u64 0] 58)) := ((Below.refl _ _).alloc (Nat.le_refl _) _).alloc (by simp) _
  have eb0 := (hB0.cell (p := ⟨p, 0, none⟩) hplt).trans eb
  go_enter Tryd.func52, Tryd.ntmps52
  go_wp2_with fail
  go_loopg [11] D.bg.length (fun gk ix wr => ∃ m : Nat, m + gk = D.bg.length ∧ ix = .int .i64 (m : Int) ∧ ZB wr w.heap.size (0, 0) ∧ ZB wr (w.heap.size + 1) (firstL (D.bg.take m)) ∧ Below w.heap.size w wr)
  case atStart =>
    refine ⟨0, by omega, rfl, heap_alloc_old (heap_alloc_at _ _) (by simp), ?_, hB0⟩
    have h := heap_alloc_at (w.alloc (.cells #[.int .u64 0, .int .u64 0] 58)) (.cells #[.int .u64 0, .int .u64 0] 58)
    rw [World.size_alloc] at h
    exact h
  case round =>
    obtain ⟨m, hm, rfl, hZ, hS, hBr⟩ := hrel
    by_cases hlt : m < D.bg.length
    · obtain ⟨a, ha⟩ : ∃ a, D.bg[m]? = some a := ⟨D.bg[m], List.getElem?_eq_getElem hlt⟩
      have hlt' : (m : Int) < (D.bg.length : Int) := by omega
      obtain ⟨s0, s1⟩ := (sb.below hBr lb) m a ha
      have haok := hD.bg a (List.mem_of_getElem? ha)
      have hsok := firstL_ok (l := D.bg.take m) (fun x hx => hD.bg x (List.mem_of_mem_take hx))
      have HSU := hid (firstL_succ ha)
      generalize firstL (D.bg.take m) = acc at *
      have hSl := hS.lt
      have hSa : ZB (wr.alloc (.cells #[.int .u64 (a.1 : Int), .int .u64 (a.2 : Int)] 58)) (w.heap.size + 1) acc := heap_alloc_old hS hSl
      have hZa : ZB (wr.alloc (.cells #[.int .u64 (a.1 : Int), .int .u64 (a.2 : Int)] 58)) w.heap.size (0, 0) := heap_alloc_old hZ hZ.lt
      have c0 := hSa.c0
      have c1 := hSa.c1
      clear ha
      go_wp2_with fail
      refine (union_nat acc a hsok haok _).mono ?_
      rintro e w3 ⟨rfl, hB3⟩
      have hS3 : ZB w3 (w.heap.size + 1) acc := (hB3.block _ (by simp; omega)).trans hSa
      have hZ3 : ZB w3 w.heap.size (0, 0) := (hB3.block _ (by simp; omega)).trans hZa
      have hB4 : Below w.heap.size w w3 := (hBr.alloc hBr.size _).trans (hB3.mono (by simp; have := hBr.size; omega))
      have d0 := hS3.c0
      have d1 := hS3.c1
      have df := hS3.fz
      go_wp2_with fail
      go_roundg (gk - 1)
      case measure => omega
      case rel => exact ⟨m + 1, by omega, by go_num, hZ3.other (by omega) _ _, by rw [HSU.out]; exact hS3.put _, (hB4.setCell (p := ⟨w.heap.size + 1, 0, none⟩) (by show w.heap.size ≤ w.heap.size + 1; omega) _).setCell (p := ⟨w.heap.size + 1, 1, none⟩) (by show w.heap.size ≤ w.heap.size + 1; omega) _⟩
    · have hme : m = D.bg.length := by omega
      subst hme
      rw [List.take_length] at hS
      have c0 := hS.c0
      have c1 := hS.c1
      have z0 := hZ.c0
      have z1 := hZ.c1
      have zf := hZ.fz
      have hF := hZ.put (firstL D.bg)
      have r0 := hF.c0
      have r1 := hF.c1
      go_wp2_with fail
      exact bodyPost_ret (v := .agg #[.int .u64 ((firstL D.bg).1 : Int), .int .u64 ((firstL D.bg).2 : Int)]) (by simp [results, Tryd.results52, go_sem, r0, r1]) rfl ⟨rfl, (hBr.setCell (p := ⟨w.heap.size, 0, none⟩) (Nat.le_refl _) _).setCell (p := ⟨w.heap.size, 1, none⟩) (Nat.le_refl _) _⟩
end Go.Proofs.YtjhmlcilabnlbaaDoor
/- States: from the text's end. -/
namespace Go.Proofs.YtjhmlcilabnlbaaDoor
open Go.RowKit Go.Shelf

attribute [local go_sem] Oper.semAt_some

def backL (D : PlD) (goal : S2) (ks : List Nat) : S2 := ks.foldl (fun acc k => if (D.nx.getD k (0, 0)).meets goal then acc.or (S2.bit k) else acc) (0, 0)
def backN (D : PlD) (b : Nat) (later : S2) : S2 := backL D (later.or D.en) (bitsN (D.mt b).1)

theorem heap_three (w : World) (o0 o1 o2 : Obj) : ∀ W, W = ((w.alloc o0).alloc o1).alloc o2 → W.heap[w.heap.size]? = some o0 ∧ W.heap[w.heap.size + 1]? = some o1 ∧ W.heap[w.heap.size + 1 + 1]? = some o2 := by
  intro W hW
  have e1 := heap_alloc_at w o0
  have e2 := heap_alloc_at (w.alloc o0) o1
  have e3 := heap_alloc_at ((w.alloc o0).alloc o1) o2
  simp only [World.size_alloc] at e2 e3
  subst hW
  exact ⟨heap_alloc_old (heap_alloc_old e1 (by simp only [World.size_alloc]; omega)) (by simp only [World.size_alloc]; omega), heap_alloc_old e2 (by simp only [World.size_alloc]; omega), e3⟩

theorem backL_snoc (D : PlD) (goal : S2) (ks : List Nat) (k : Nat) : backL D goal (ks ++ [k]) = if (D.nx.getD k (0, 0)).meets goal then (backL D goal ks).or (S2.bit k) else backL D goal ks := by
  unfold backL; rw [List.foldl_append]; rfl
theorem backL_ok (D : PlD) (goal : S2) (ks : List Nat) (hk : ∀ k, k ∈ ks → k < 128) : (backL D goal ks).ok := by
  unfold backL
  have : ∀ (ks : List Nat) (a : S2), (∀ k, k ∈ ks → k < 128) → a.ok → (ks.foldl (fun acc k => if (D.nx.getD k (0, 0)).meets goal then acc.or (S2.bit k) else acc) a).ok := by
    intro ks
    induction ks with
    | nil => intro a _ ha; exact ha
    | cons k ks ih =>
      intro a hk ha
      rw [List.foldl_cons]
      apply ih
      · intro j hj; exact hk j (List.mem_cons_of_mem _ hj)
      · split
        · exact S2.or_ok ha (S2.bit_ok (hk k (List.mem_cons_self ..)))
        · exact ha
  exact this ks _ hk S2.zero_ok

/-- The call's own cells, between two rounds. -/
def BackI (w : World) (p G L : Nat) (gl a : S2) (W : World) : Prop :=
  (W.cell? ⟨w.heap.size, 0, none⟩ = some (.pointer (some ⟨p, 0, none⟩)) ∧
   W.cell? ⟨w.heap.size + 1 + 1, 0, none⟩ = some (.int .u64 0) ∧ W.cell? ⟨w.heap.size + 1 + 1, 1, none⟩ = some (.int .u64 0) ∧
   W.cell? ⟨G, 0, none⟩ = some (.int .u64 (gl.1 : Int)) ∧ W.cell? ⟨G, 1, none⟩ = some (.int .u64 (gl.2 : Int)) ∧
   W.cell? ⟨L, 0, none⟩ = some (.int .u64 (a.1 : Int)) ∧ W.cell? ⟨L, 1, none⟩ = some (.int .u64 (a.2 : Int)) ∧
   W.frozen? ⟨w.heap.size + 1 + 1, 0, none⟩ = false ∧ W.frozen? ⟨w.heap.size + 1 + 1, 1, none⟩ = false ∧ W.frozen? ⟨L, 0, none⟩ = false ∧ W.frozen? ⟨L, 1, none⟩ = false) ∧ Below w.heap.size w W
theorem cell_lt {W : World} {A : Addr} {v : Value} (hv : W.cell? A = some v) : A.block < W.heap.size := by
  by_cases hx : A.block < W.heap.size
  · exact hx
  · simp [World.cell?, hx] at hv
theorem BackI.below {w W W' : World} {p G L : Nat} {gl a : S2} (h : BackI w p G L gl a W) (k : Below W.heap.size W W') : BackI w p G L gl a W' := by
  obtain ⟨⟨i0, i1, i2, i3, i4, i5, i6, f0, f1, f2, f3⟩, hB⟩ := h
  exact ⟨⟨(k.cell (cell_lt i0)).trans i0, (k.cell (cell_lt i1)).trans i1, (k.cell (cell_lt i2)).trans i2, (k.cell (cell_lt i3)).trans i3, (k.cell (cell_lt i4)).trans i4, (k.cell (cell_lt i5)).trans i5, (k.cell (cell_lt i6)).trans i6,
    (World.frozen?_of_block (k.block _ (cell_lt i1))).trans f0, (World.frozen?_of_block (k.block _ (cell_lt i2))).trans f1, (World.frozen?_of_block (k.block _ (cell_lt i5))).trans f2, (World.frozen?_of_block (k.block _ (cell_lt i6))).trans f3⟩, hB.trans (k.mono hB.size)⟩
theorem BackI.store {w W : World} {p G L : Nat} {gl a : S2} (h : BackI w p G L gl a W) (hL : w.heap.size + 1 + 1 < L) (hG : G ≠ L) (a' : S2) : BackI w p G L gl a' ((W.setCell ⟨L, 0, none⟩ (.int .u64 (a'.1 : Int))).setCell ⟨L, 1, none⟩ (.int .u64 (a'.2 : Int))) := by
  obtain ⟨⟨i0, i1, i2, i3, i4, i5, i6, f0, f1, f2, f3⟩, hB⟩ := h
  have other : ∀ (A : Addr), A.block ≠ L → ((W.setCell ⟨L, 0, none⟩ (.int .u64 (a'.1 : Int))).setCell ⟨L, 1, none⟩ (.int .u64 (a'.2 : Int))).cell? A = W.cell? A := fun A hA =>
    World.cell?_of_block ((Below.heap_setCell _ _ _ _ hA).trans (Below.heap_setCell _ _ _ _ hA))
  refine ⟨⟨(other _ (by show w.heap.size ≠ _; omega)).trans i0, (other _ (by show w.heap.size + 1 + 1 ≠ _; omega)).trans i1, (other _ (by show w.heap.size + 1 + 1 ≠ _; omega)).trans i2, (other _ (by show G ≠ _; omega)).trans i3, (other _ (by show G ≠ _; omega)).trans i4, ?_, ?_, ?_, ?_, ?_, ?_⟩, (hB.setCell (p := ⟨L, 0, none⟩) (by show w.heap.size ≤ L; omega) _).setCell (p := ⟨L, 1, none⟩) (by show w.heap.size ≤ L; omega) _⟩
  · go_simp
  · go_simp
  · rw [World.frozen?_setCell, World.frozen?_setCell]; exact f0
  · rw [World.frozen?_setCell, World.frozen?_setCell]; exact f1
  · rw [World.frozen?_setCell, World.frozen?_setCell]; exact f2
  · rw [World.frozen?_setCell, World.frozen?_setCell]; exact f3
theorem BackI.own (w : World) (p G L : Nat) (gl : S2) {α : Type} (f : List α → S2) (B : Nat) (hB : w.heap.size ≤ B) : OwnFrom B (fun pre W => BackI w p G L gl (f pre) W) :=
  OwnFrom.and (Own.from (fun _ _ _ _ hs hg hr => ⟨cell_kept hs.1 hg hr, cell_kept hs.2.1 hg hr, cell_kept hs.2.2.1 hg hr, cell_kept hs.2.2.2.1 hg hr, cell_kept hs.2.2.2.2.1 hg hr, cell_kept hs.2.2.2.2.2.1 hg hr, cell_kept hs.2.2.2.2.2.2.1 hg hr, (frozen_kept hs.2.1 hg hr).trans hs.2.2.2.2.2.2.2.1, (frozen_kept hs.2.2.1 hg hr).trans hs.2.2.2.2.2.2.2.2.1, (frozen_kept hs.2.2.2.2.2.1 hg hr).trans hs.2.2.2.2.2.2.2.2.2.1, (frozen_kept hs.2.2.2.2.2.2.1 hg hr).trans hs.2.2.2.2.2.2.2.2.2.2⟩) _) (ownFrom_below (Nat.le_refl _) hB)

end Go.Proofs.YtjhmlcilabnlbaaDoor
/- A region that draws its order, in the round of a range over a function: one walk of all but the last operations over a class of worlds, then those, one behind the other. -/
namespace Go.Proofs.YtjhmlcilabnlbaaDoor
variable {F : Fence} {n : Nat} {P : Program} {ops : Array Oper} {md : Region.Mode} {C : World → Prop}

def anyHd (F : Fence) (n : Nat) (P : Program) (md : Region.Mode) (ops : Array Oper) (C : World → Prop) (m : Nat) (L : Array Bool → Act → Prop) : Nat → Array Bool → Act → Prop
  | 0, listed, a => L listed a
  | f + 1, listed, a => Region.ready md ops listed ≠ [] ∧ ∀ i ∈ Region.ready md ops listed, i < m ∧ qOpIn F n P ops C i (anyHd F n P md ops C m L f (listed.setIfInBounds i true)) a

theorem any_of_hd {m g : Nat} {L : Array Bool → Act → Prop} {Q' : Exit → Act → World → Prop} (hnd : ops.all noDefer = true) (hL : ∀ listed a w, C w → L listed a → wpAnyIn F n P md ops Q' g listed a w) (f : Nat) :
    ∀ (listed : Array Bool) (a : Act) (w : World), C w → anyHd F n P md ops C m L f listed a → wpAnyIn F n P md ops Q' (f + g) listed a w := by
  induction f with
  | zero => intro listed a w hw h; rw [Nat.zero_add]; exact hL _ _ _ hw h
  | succ f ih =>
    intro listed a w hw h
    rw [show f + 1 + g = (f + g) + 1 by omega]
    exact ⟨fun h0 => absurd h0 h.1, fun i hi => quiet_op hnd hw (fun a' w' hw' hx => ih _ a' w' hw' hx) (h.2 i hi).2⟩

theorem hd_first {m i : Nat} {oi : Oper} {v : Value} {L : Array Bool → Act → Prop} (hi : ops[i]? = some oi) (hsel : ∀ (j : Nat) (o : Oper) cs b, ops[j]? = some o → o.op ≠ .select cs b)
    (hs : Region.sinkB md ops m = true) (hc : Region.chainB md ops m = true) (hn : m < ops.size) (hin : i < m)
    (hdone : ∀ listed a, L listed a → ∀ j ∈ Region.ready md ops listed, m ≤ j) (f : Nat) :
    ∀ (listed : Array Bool) (a : Act), HeadInv md ops m listed →
      (∀ j oj, ops[j]? = some oj → j ≠ i → listed.getD j true = false → (∀ e ∈ oj.after, Region.binds md e = true → e.on ≠ i) → oi.apart ops oj = true) →
      i ∈ Region.ready md ops listed → YieldsQuiet F n P ops C oi v a →
      anyHd F n P md ops C m L f (listed.setIfInBounds i true) (a.put oi.dst v) → anyHd F n P md ops C m L (f + 1) listed a := by
  induction f with
  | zero =>
    intro listed a inv _ hr hy H
    have hun := (mem_ready.1 hr).1
    refine ⟨fun h => (by rw [h] at hr; cases hr), fun j hj => ?_⟩
    have hjn : j < m := by
      rcases Nat.lt_or_ge j m with h | h
      · exact h
      · exact absurd hj (tail_waits hs hc hn inv _ i rfl hin hun j h)
    refine ⟨hjn, ?_⟩
    by_cases hji : j = i
    · subst hji; exact hy.qOpIn hi H
    · have := hdone _ _ H j (ready_mono hj hji)
      omega
  | succ f ih =>
    intro listed a inv hfree hr hy H
    have hun := (mem_ready.1 hr).1
    refine ⟨fun h => (by rw [h] at hr; cases hr), fun j hj => ?_⟩
    have hjn : j < m := by
      rcases Nat.lt_or_ge j m with h | h
      · exact h
      · exact absurd hj (tail_waits hs hc hn inv _ i rfl hin hun j h)
    refine ⟨hjn, ?_⟩
    by_cases hji : j = i
    · subst hji; exact hy.qOpIn hi H
    · have h1 := (H.2 j (ready_mono hj hji)).2
      obtain ⟨hjun, oj, hoj, hall⟩ := mem_ready.1 hj
      have hnot : ∀ e ∈ oj.after, Region.binds md e = true → e.on ≠ i := fun e he hb heq => by
        have h1 := hall e he hb
        rw [heq, getD_both hun] at h1
        cases h1
      have h2 := qOpIn_put hoj (hfree j oj hoj hji hjun hnot) (fun cs b => hsel i oi cs b hi) (fun cs b => hsel j oj cs b hoj) hy h1
      have hfree' : ∀ k ok, ops[k]? = some ok → k ≠ i → (listed.setIfInBounds j true).getD k true = false →
          (∀ e ∈ ok.after, Region.binds md e = true → e.on ≠ i) → oi.apart ops ok = true := fun k ok hk hki hun hno => by
        refine hfree k ok hk hki ?_ hno
        by_cases hjk : j = k
        · subst hjk; exact hjun
        · rw [getD_set_ne true hjk] at hun; exact hun
      refine qOpIn_mono (fun a' h3 => ih (listed.setIfInBounds j true) a' (inv.set hj hjn) hfree' (ready_mono hr (Ne.symm hji)) h3.1 ?_) h2
      rw [Array.setIfInBounds_comm _ _ hji]
      exact h3.2

theorem hd_lex {m g : Nat} {Lq : Act → Prop} (hsel : Region.noSelect ops = true) (hs : Region.sinkB md ops m = true) (hc : Region.chainB md ops m = true) (hn : m < ops.size) :
    ∀ (l : List Oper) (k : Nat) (listed : Array Bool) (a : Act), (∀ j, j < l.length → l[j]? = ops[k + j]?) → k + l.length = m → HeadInv md ops m listed →
    Region.lexHead md ops g l.length k listed = true → wpQuietIn F n P ops C Lq l a →
    anyHd F n P md ops C m (fun listed' a' => Region.seqB md ops g m listed' = true ∧ Lq a') l.length listed a
  | [], k, listed, a, _, hk, _, hB, h => by
    have : k = m := by simpa using hk
    subst this
    exact ⟨by simpa [Region.lexHead] using hB, h⟩
  | o :: l, k, listed, a, hl, hk, inv, hB, h => by
    have h0 : ops[k]? = some o := by simpa using (hl 0 (by simp)).symm
    simp only [List.length_cons, Region.lexHead, Bool.and_eq_true] at hB
    obtain ⟨⟨hr, hf⟩, hB'⟩ := hB
    have hkn : k < m := by simp only [List.length_cons] at hk; omega
    have hr' : k ∈ Region.ready md ops listed := by simpa using hr
    have hst : qOpIn F n P ops C k (wpQuietIn F n P ops C Lq l) a := by unfold qOpIn; simp only [h0]; exact h
    obtain ⟨v, hy, hK⟩ := yieldsQuiet_of_qOpIn h0 hst
    exact hd_first h0 (Region.noSelect_spec hsel) hs hc hn hkn (fun listed' a' hL => seqB_ready hL.1) l.length listed a inv (Region.free_spec h0 hf) hr' hy
      (hd_lex hsel hs hc hn l (k + 1) _ _ (fun j hj => by have := hl (j + 1) (by simp; omega); simpa [Nat.add_assoc, Nat.add_comm 1 j] using this) (by simp only [List.length_cons] at hk; omega) (inv.set hr' hkn) hB' hK)

theorem any_of_seq {Q' : Exit → Act → World → Prop} : ∀ (l : List Nat) (k : Nat) (listed : Array Bool) (a : Act) (w : World), (∀ j, j < l.length → l[j]? = some (k + j)) →
    Region.seqB md ops l.length k listed = true → wpOpsIn F n P ops Q' l a w → wpAnyIn F n P md ops Q' l.length listed a w
  | [], _, _, _, _, _, hB, h => ⟨by simpa [Region.seqB] using hB, h⟩
  | i :: l, k, listed, a, w, hl, hB, h => by
    have h0 : i = k := by simpa using hl 0 (by simp)
    subst h0
    simp only [List.length_cons, Region.seqB, Bool.and_eq_true, decide_eq_true_eq] at hB
    refine ⟨fun h1 => (by rw [hB.1] at h1; cases h1), fun j hj => ?_⟩
    rw [hB.1] at hj
    have hik : j = i := by simpa using hj
    subst hik
    rw [wpOpsIn_cons] at h
    exact wpOpIn_mono (fun a' w' h' => any_of_seq l (j + 1) _ a' w' (fun q hq => by have := hl (q + 1) (by simp; omega); simp at this; rw [this]; congr 1; omega) hB.2 h') h

/-- All but the last operations by one walk over the class; then the last, one behind the other. -/
theorem region_tails {id : Nat} {Q : Exit → Act → World → Prop} {a : Act} {w : World} {l : List Oper} (m g : Nat) (hnd : l.toArray.all noDefer = true) (hm : P.follows .mixedOrders = true) (hB : Region.lexTailB .any l.toArray m = true) (hC : C w.drew) (hlen : l.length = m + g)
    (h : wpQuietIn F n P l.toArray C (fun a' => ∀ w', C w' → wpOpsIn F n P l.toArray Q (List.range' m g) a' w') (l.take m) a) : (Code.region id l.toArray true).wpIn F n P Q a w := by
  simp only [Region.lexTailB, Bool.and_eq_true, decide_eq_true_eq] at hB
  obtain ⟨⟨⟨⟨hsel, hn⟩, hs⟩, hc⟩, hlex⟩ := hB
  have htl : (l.take m).length = m := by simp; omega
  have hsz : l.toArray.size - m = g := by simp; omega
  rw [hsz] at hlex
  have inv0 : HeadInv .any l.toArray m (Array.replicate l.toArray.size false) :=
    ⟨by simp, fun j oj _ hl => (by rw [getD_replicate_false] at hl; cases hl), fun t _ ht => getD_in (by simpa using ht) (getD_replicate_false _ _)⟩
  have H := hd_lex (F := F) (n := n) (P := P) (C := C) (md := .any) (g := g) hsel hs hc hn (l.take m) 0 _ a (fun j hj => by
    have hj' : j < m := by rw [htl] at hj; exact hj
    simp [hj']) (by simpa using htl) inv0 (by rw [htl]; exact hlex) h
  refine wpIn_region_any hm ?_
  have := any_of_hd (F := F) (n := n) (P := P) (Q' := Q) (g := g) hnd (fun listed a' w' hw' hL => by
    have := any_of_seq (md := .any) (List.range' m g) m listed a' w' (fun j hj => by simp at hj; simp [hj]) (by simpa using hL.1) (hL.2 w' hw')
    simpa using this) _ _ _ _ hC H
  rw [htl, show m + g = l.toArray.size by simp; omega] at this
  exact this
theorem region_tail {id : Nat} {Q : Exit → Act → World → Prop} {a : Act} {w : World} {l : List Oper} (m : Nat) (hnd : l.toArray.all noDefer = true) (hm : P.follows .mixedOrders = true) (hB : Region.lexTailB .any l.toArray m = true) (hC : C w.drew) (hlen : l.length = m + 1)
    (h : wpQuietIn F n P l.toArray C (fun a' => ∀ w', C w' → wpOpsIn F n P l.toArray Q [m] a' w') (l.take m) a) : (Code.region id l.toArray true).wpIn F n P Q a w :=
  region_tails m 1 hnd hm hB hC hlen h
end Go.Proofs.YtjhmlcilabnlbaaDoor
