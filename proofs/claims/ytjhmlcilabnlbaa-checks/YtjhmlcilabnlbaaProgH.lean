/- The program: its nodes in memory. -/
import Derived.Test.YtjhmlcilabnlbaaProgF
namespace Go.Proofs.Ytjhmlcilabnlbaa
open Go.RowKit

/-- A node as the program has it: its kind, its set, its parts, none, again. -/
structure Nd where
  k : Int
  x0 : Int
  x1 : Int
  x2 : Int
  x3 : Int
  pa : Option Addr
  pn : Nat
  pc : Nat
  no : Bool
  ag : Bool

def Nd.cells (d : Nd) : List Value := [.int .i64 d.k, .int .u64 d.x0, .int .u64 d.x1, .int .u64 d.x2, .int .u64 d.x3, .slice d.pa d.pn d.pc, .bool d.no, .bool d.ag]
def ndCells (l : List (Nd × P.T)) : List Value := l.flatMap fun x => x.1.cells
def sumSz (l : List (Nd × P.T)) : Nat := (l.map fun x => x.2.sz).sum
def allEm (l : List (Nd × P.T)) : Bool := l.all fun x => x.2.em
def anyEm (l : List (Nd × P.T)) : Bool := l.any fun x => x.2.em

/-- Where all blocks outside S are as they were. -/
def OnlyS (S : Nat → Prop) (w w' : World) : Prop := ∀ k, k < w.heap.size → ¬ S k → w'.heap[k]? = w.heap[k]?
theorem Only.toS {b : Nat} {w w' : World} (h : Only b w w') : OnlyS (· = b) w w' := fun k hk hb => h.block k hk hb

/-- The parts of a node lie at the head of a block that is not one of S. -/
def Parts (w : World) (S : Nat → Prop) (g : Nat) (l : List (Nd × P.T)) : Prop := ¬ S g ∧ ∃ cur, w.heap[g]? = some (.cells cur 38 (0, 0)) ∧ cur.toList.take (l.length * 8) = ndCells l

inductive PN (w : World) (S : Nat → Prop) : Nd → P.T → Prop where
  | one (x0 x1 x2 x3 : Int) : PN w S ⟨0, x0, x1, x2, x3, none, 0, 0, false, false⟩ ⟨1, false⟩
  | rep {g c : Nat} {d : Nd} {t : P.T} {no ag : Bool} (hg : Parts w S g [(d, t)]) (h : PN w S d t) : PN w S ⟨3, 0, 0, 0, 0, some ⟨g, 0, none⟩, 1, c, no, ag⟩ ⟨t.sz + 1, no || t.em⟩
  | row {g c : Nat} {l : List (Nd × P.T)} (hg : Parts w S g l) (hn : l.length ≤ 1000) (h : ∀ x, x ∈ l → PN w S x.1 x.2) : PN w S ⟨1, 0, 0, 0, 0, some ⟨g, 0, none⟩, l.length, c, false, false⟩ ⟨sumSz l, allEm l⟩
  | alt {g c : Nat} {l : List (Nd × P.T)} (hg : Parts w S g l) (hl : l ≠ []) (hn : l.length ≤ 1000) (h : ∀ x, x ∈ l → PN w S x.1 x.2) : PN w S ⟨2, 0, 0, 0, 0, some ⟨g, 0, none⟩, l.length, c, false, false⟩ ⟨sumSz l + (l.length - 1), anyEm l⟩

theorem Parts.lt {w : World} {S : Nat → Prop} {g : Nat} {l : List (Nd × P.T)} (h : Parts w S g l) : g < w.heap.size := by
  obtain ⟨-, cur, hc, -⟩ := h
  by_cases hx : g < w.heap.size
  · exact hx
  · simp [hx] at hc
theorem Parts.only {w w' : World} {S : Nat → Prop} {g : Nat} {l : List (Nd × P.T)} (h : Parts w S g l) (k : OnlyS S w w') : Parts w' S g l := by
  have hlt := h.lt
  obtain ⟨hb, cur, hc, ht⟩ := h
  exact ⟨hb, cur, (k g hlt hb).trans hc, ht⟩
theorem PN.only {w w' : World} {S : Nat → Prop} {d : Nd} {t : P.T} (h : PN w S d t) (k : OnlyS S w w') : PN w' S d t := by
  induction h with
  | one x0 x1 x2 x3 => exact .one x0 x1 x2 x3
  | rep hg _ ih => exact .rep (hg.only k) ih
  | row hg hn _ ih => exact .row (hg.only k) hn ih
  | alt hg hl hn _ ih => exact .alt (hg.only k) hl hn ih
/-- What S bars may turn, as long as no block that was there is barred anew. -/
theorem Parts.bars {w : World} {S S' : Nat → Prop} {g : Nat} {l : List (Nd × P.T)} (h : Parts w S g l) (k : ∀ j, j < w.heap.size → S' j → S j) : Parts w S' g l :=
  ⟨fun e => h.1 (k g h.lt e), h.2⟩
theorem PN.bars {w : World} {S S' : Nat → Prop} {d : Nd} {t : P.T} (h : PN w S d t) (k : ∀ j, j < w.heap.size → S' j → S j) : PN w S' d t := by
  induction h with
  | one x0 x1 x2 x3 => exact .one x0 x1 x2 x3
  | rep hg _ ih => exact .rep (hg.bars k) ih
  | row hg hn _ ih => exact .row (hg.bars k) hn ih
  | alt hg hl hn _ ih => exact .alt (hg.bars k) hl hn ih

theorem ndCells_get (l : List (Nd × P.T)) (i : Nat) (x : Nd × P.T) (h : l[i]? = some x) (j : Nat) (hj : j < 8) : (ndCells l)[i * 8 + j]? = x.1.cells[j]? := by
  induction l generalizing i with
  | nil => simp at h
  | cons y ys ih =>
    have e : ndCells (y :: ys) = y.1.cells ++ ndCells ys := rfl
    rw [e]
    cases i with
    | zero =>
      simp at h; subst h
      rw [List.getElem?_append_left (by simp [Nd.cells]; omega)]
      simp
    | succ i =>
      rw [List.getElem?_append_right (by simp [Nd.cells]; omega)]
      rw [show (i + 1) * 8 + j - y.1.cells.length = i * 8 + j from by simp [Nd.cells]; omega]
      exact ih i (by simpa using h)
theorem Parts.cell {w : World} {S : Nat → Prop} {g : Nat} {l : List (Nd × P.T)} (h : Parts w S g l) {i : Nat} {x : Nd × P.T} (hx : l[i]? = some x) {j : Nat} (hj : j < 8) : w.cell? ⟨g, i * 8 + j, none⟩ = x.1.cells[j]? := by
  obtain ⟨hb, cur, hc, ht⟩ := h
  have hi : i < l.length := by
    by_cases hl : i < l.length
    · exact hl
    · rw [List.getElem?_eq_none (by omega)] at hx; cases hx
  rw [← ndCells_get l i x hx j hj, ← ht, List.getElem?_take, if_pos (by omega)]
  simp [World.cell?, hc]

end Go.Proofs.Ytjhmlcilabnlbaa
