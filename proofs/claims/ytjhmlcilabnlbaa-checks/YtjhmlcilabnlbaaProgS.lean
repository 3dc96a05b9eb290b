/- The program: its rules in memory; rule. -/
import Derived.Test.YtjhmlcilabnlbaaProgR
import Derived.Test.YtjhmlcilabnlbaaProgG
namespace Go.Proofs.Ytjhmlcilabnlbaa
open Go.RowKit

/-- A rule's value: its name, its place, its node. -/
def ruleVal (nm : ByteArray) (p : Int) (d : Nd) : Value := .agg #[.string nm, .int .i64 p, .int .i64 d.k, .int .u64 d.x0, .int .u64 d.x1, .int .u64 d.x2, .int .u64 d.x3, .slice d.pa d.pn d.pc, .bool d.no, .bool d.ag]
def ruleCells (nm : ByteArray) (p : Int) (d : Nd) : List Value := [.string nm, .int .i64 p, .int .i64 d.k, .int .u64 d.x0, .int .u64 d.x1, .int .u64 d.x2, .int .u64 d.x3, .slice d.pa d.pn d.pc, .bool d.no, .bool d.ag]
/-- A rule's block. -/
def KB (w : World) (g : Nat) (nm : ByteArray) (p : Int) (d : Nd) : Prop := w.heap[g]? = some (.cells #[.string nm, .int .i64 p, .int .i64 d.k, .int .u64 d.x0, .int .u64 d.x1, .int .u64 d.x2, .int .u64 d.x3, .slice d.pa d.pn d.pc, .bool d.no, .bool d.ag] 40 (0, 0))
abbrev ruleObj (nm : ByteArray) (p : Int) (d : Nd) : Obj := .cells #[.string nm, .int .i64 p, .int .i64 d.k, .int .u64 d.x0, .int .u64 d.x1, .int .u64 d.x2, .int .u64 d.x3, .slice d.pa d.pn d.pc, .bool d.no, .bool d.ag] 40

theorem KB.c0 {w : World} {g : Nat} {nm : ByteArray} {p : Int} {d : Nd} (h : KB w g nm p d) : w.cell? ⟨g, 0, none⟩ = some (.string nm) := by simp [World.cell?, show w.heap[g]? = _ from h]
theorem KB.c1 {w : World} {g : Nat} {nm : ByteArray} {p : Int} {d : Nd} (h : KB w g nm p d) : w.cell? ⟨g, 1, none⟩ = some (.int .i64 p) := by simp [World.cell?, show w.heap[g]? = _ from h]
theorem KB.c2 {w : World} {g : Nat} {nm : ByteArray} {p : Int} {d : Nd} (h : KB w g nm p d) : w.cell? ⟨g, 2, none⟩ = some (.int .i64 d.k) := by simp [World.cell?, show w.heap[g]? = _ from h]
theorem KB.c3 {w : World} {g : Nat} {nm : ByteArray} {p : Int} {d : Nd} (h : KB w g nm p d) : w.cell? ⟨g, 3, none⟩ = some (.int .u64 d.x0) := by simp [World.cell?, show w.heap[g]? = _ from h]
theorem KB.c4 {w : World} {g : Nat} {nm : ByteArray} {p : Int} {d : Nd} (h : KB w g nm p d) : w.cell? ⟨g, 4, none⟩ = some (.int .u64 d.x1) := by simp [World.cell?, show w.heap[g]? = _ from h]
theorem KB.c5 {w : World} {g : Nat} {nm : ByteArray} {p : Int} {d : Nd} (h : KB w g nm p d) : w.cell? ⟨g, 5, none⟩ = some (.int .u64 d.x2) := by simp [World.cell?, show w.heap[g]? = _ from h]
theorem KB.c6 {w : World} {g : Nat} {nm : ByteArray} {p : Int} {d : Nd} (h : KB w g nm p d) : w.cell? ⟨g, 6, none⟩ = some (.int .u64 d.x3) := by simp [World.cell?, show w.heap[g]? = _ from h]
theorem KB.c7 {w : World} {g : Nat} {nm : ByteArray} {p : Int} {d : Nd} (h : KB w g nm p d) : w.cell? ⟨g, 7, none⟩ = some (.slice d.pa d.pn d.pc) := by simp [World.cell?, show w.heap[g]? = _ from h]
theorem KB.c8 {w : World} {g : Nat} {nm : ByteArray} {p : Int} {d : Nd} (h : KB w g nm p d) : w.cell? ⟨g, 8, none⟩ = some (.bool d.no) := by simp [World.cell?, show w.heap[g]? = _ from h]
theorem KB.c9 {w : World} {g : Nat} {nm : ByteArray} {p : Int} {d : Nd} (h : KB w g nm p d) : w.cell? ⟨g, 9, none⟩ = some (.bool d.ag) := by simp [World.cell?, show w.heap[g]? = _ from h]
theorem KB.fz {w : World} {g : Nat} {nm : ByteArray} {p : Int} {d : Nd} (h : KB w g nm p d) (k : Nat) : w.frozen? ⟨g, k, none⟩ = false := by simp [World.frozen?, show w.heap[g]? = _ from h]
/-- A rule stored over a rule's block. -/
abbrev put10 (w : World) (g : Nat) (nm : ByteArray) (p : Int) (d : Nd) : World := ((((((((((w.setCell ⟨g, 0, none⟩ (.string nm)).setCell ⟨g, 1, none⟩ (.int .i64 p)).setCell ⟨g, 2, none⟩ (.int .i64 d.k)).setCell ⟨g, 3, none⟩ (.int .u64 d.x0)).setCell ⟨g, 4, none⟩ (.int .u64 d.x1)).setCell ⟨g, 5, none⟩ (.int .u64 d.x2)).setCell ⟨g, 6, none⟩ (.int .u64 d.x3)).setCell ⟨g, 7, none⟩ (.slice d.pa d.pn d.pc)).setCell ⟨g, 8, none⟩ (.bool d.no)).setCell ⟨g, 9, none⟩ (.bool d.ag))
theorem c10set0 {w : World} {g : Nat} {v0 v1 v2 v3 v4 v5 v6 v7 v8 v9 : Value} (h : w.heap[g]? = some (.cells #[v0, v1, v2, v3, v4, v5, v6, v7, v8, v9] 40 (0, 0))) (u : Value) : (w.setCell ⟨g, 0, none⟩ u).heap[g]? = some (.cells #[u, v1, v2, v3, v4, v5, v6, v7, v8, v9] 40 (0, 0)) := heap_setCell_same (a := ⟨g, 0, none⟩) h rfl u
theorem c10set1 {w : World} {g : Nat} {v0 v1 v2 v3 v4 v5 v6 v7 v8 v9 : Value} (h : w.heap[g]? = some (.cells #[v0, v1, v2, v3, v4, v5, v6, v7, v8, v9] 40 (0, 0))) (u : Value) : (w.setCell ⟨g, 1, none⟩ u).heap[g]? = some (.cells #[v0, u, v2, v3, v4, v5, v6, v7, v8, v9] 40 (0, 0)) := heap_setCell_same (a := ⟨g, 1, none⟩) h rfl u
theorem c10set2 {w : World} {g : Nat} {v0 v1 v2 v3 v4 v5 v6 v7 v8 v9 : Value} (h : w.heap[g]? = some (.cells #[v0, v1, v2, v3, v4, v5, v6, v7, v8, v9] 40 (0, 0))) (u : Value) : (w.setCell ⟨g, 2, none⟩ u).heap[g]? = some (.cells #[v0, v1, u, v3, v4, v5, v6, v7, v8, v9] 40 (0, 0)) := heap_setCell_same (a := ⟨g, 2, none⟩) h rfl u
theorem c10set3 {w : World} {g : Nat} {v0 v1 v2 v3 v4 v5 v6 v7 v8 v9 : Value} (h : w.heap[g]? = some (.cells #[v0, v1, v2, v3, v4, v5, v6, v7, v8, v9] 40 (0, 0))) (u : Value) : (w.setCell ⟨g, 3, none⟩ u).heap[g]? = some (.cells #[v0, v1, v2, u, v4, v5, v6, v7, v8, v9] 40 (0, 0)) := heap_setCell_same (a := ⟨g, 3, none⟩) h rfl u
theorem c10set4 {w : World} {g : Nat} {v0 v1 v2 v3 v4 v5 v6 v7 v8 v9 : Value} (h : w.heap[g]? = some (.cells #[v0, v1, v2, v3, v4, v5, v6, v7, v8, v9] 40 (0, 0))) (u : Value) : (w.setCell ⟨g, 4, none⟩ u).heap[g]? = some (.cells #[v0, v1, v2, v3, u, v5, v6, v7, v8, v9] 40 (0, 0)) := heap_setCell_same (a := ⟨g, 4, none⟩) h rfl u
theorem c10set5 {w : World} {g : Nat} {v0 v1 v2 v3 v4 v5 v6 v7 v8 v9 : Value} (h : w.heap[g]? = some (.cells #[v0, v1, v2, v3, v4, v5, v6, v7, v8, v9] 40 (0, 0))) (u : Value) : (w.setCell ⟨g, 5, none⟩ u).heap[g]? = some (.cells #[v0, v1, v2, v3, v4, u, v6, v7, v8, v9] 40 (0, 0)) := heap_setCell_same (a := ⟨g, 5, none⟩) h rfl u
theorem c10set6 {w : World} {g : Nat} {v0 v1 v2 v3 v4 v5 v6 v7 v8 v9 : Value} (h : w.heap[g]? = some (.cells #[v0, v1, v2, v3, v4, v5, v6, v7, v8, v9] 40 (0, 0))) (u : Value) : (w.setCell ⟨g, 6, none⟩ u).heap[g]? = some (.cells #[v0, v1, v2, v3, v4, v5, u, v7, v8, v9] 40 (0, 0)) := heap_setCell_same (a := ⟨g, 6, none⟩) h rfl u
theorem c10set7 {w : World} {g : Nat} {v0 v1 v2 v3 v4 v5 v6 v7 v8 v9 : Value} (h : w.heap[g]? = some (.cells #[v0, v1, v2, v3, v4, v5, v6, v7, v8, v9] 40 (0, 0))) (u : Value) : (w.setCell ⟨g, 7, none⟩ u).heap[g]? = some (.cells #[v0, v1, v2, v3, v4, v5, v6, u, v8, v9] 40 (0, 0)) := heap_setCell_same (a := ⟨g, 7, none⟩) h rfl u
theorem c10set8 {w : World} {g : Nat} {v0 v1 v2 v3 v4 v5 v6 v7 v8 v9 : Value} (h : w.heap[g]? = some (.cells #[v0, v1, v2, v3, v4, v5, v6, v7, v8, v9] 40 (0, 0))) (u : Value) : (w.setCell ⟨g, 8, none⟩ u).heap[g]? = some (.cells #[v0, v1, v2, v3, v4, v5, v6, v7, u, v9] 40 (0, 0)) := heap_setCell_same (a := ⟨g, 8, none⟩) h rfl u
theorem c10set9 {w : World} {g : Nat} {v0 v1 v2 v3 v4 v5 v6 v7 v8 v9 : Value} (h : w.heap[g]? = some (.cells #[v0, v1, v2, v3, v4, v5, v6, v7, v8, v9] 40 (0, 0))) (u : Value) : (w.setCell ⟨g, 9, none⟩ u).heap[g]? = some (.cells #[v0, v1, v2, v3, v4, v5, v6, v7, v8, u] 40 (0, 0)) := heap_setCell_same (a := ⟨g, 9, none⟩) h rfl u
theorem KB.put10 {w : World} {g : Nat} {nm0 nm : ByteArray} {p0 p : Int} {d0 d : Nd} (h : KB w g nm0 p0 d0) : KB (put10 w g nm p d) g nm p d :=
  (c10set9 (c10set8 (c10set7 (c10set6 (c10set5 (c10set4 (c10set3 (c10set2 (c10set1 (c10set0 h _) _) _) _) _) _) _) _) _) _)
theorem heap_put10 {w : World} {g k : Nat} {nm : ByteArray} {p : Int} {d : Nd} (hk : k ≠ g) : (put10 w g nm p d).heap[k]? = w.heap[k]? :=
  ((Below.heap_setCell _ _ _ _ hk).trans ((Below.heap_setCell _ _ _ _ hk).trans ((Below.heap_setCell _ _ _ _ hk).trans ((Below.heap_setCell _ _ _ _ hk).trans ((Below.heap_setCell _ _ _ _ hk).trans ((Below.heap_setCell _ _ _ _ hk).trans ((Below.heap_setCell _ _ _ _ hk).trans ((Below.heap_setCell _ _ _ _ hk).trans ((Below.heap_setCell _ _ _ _ hk).trans (Below.heap_setCell _ _ _ _ hk))))))))))
theorem Only.put10 {x w : World} {b g : Nat} {nm : ByteArray} {p : Int} {d : Nd} (h : Only b x w) (hg : x.heap.size ≤ g) : Only b x (put10 w g nm p d) :=
  ((((((((((h.new (p := ⟨g, 0, none⟩) hg _).new (p := ⟨g, 1, none⟩) hg _).new (p := ⟨g, 2, none⟩) hg _).new (p := ⟨g, 3, none⟩) hg _).new (p := ⟨g, 4, none⟩) hg _).new (p := ⟨g, 5, none⟩) hg _).new (p := ⟨g, 6, none⟩) hg _).new (p := ⟨g, 7, none⟩) hg _).new (p := ⟨g, 8, none⟩) hg _).new (p := ⟨g, 9, none⟩) hg _)
theorem OnlyS.put10 {S : Nat → Prop} {x w : World} {g : Nat} {nm : ByteArray} {p : Int} {d : Nd} (h : OnlyS S x w) (hg : S g) : OnlyS S x (put10 w g nm p d) := fun j hj hs => (heap_put10 (fun e => hs (by rw [e]; exact hg))).trans (h j hj hs)

/-- What rule comes to. -/
def RuleF (r : P.PR P.Rl) (w' : World) (n : Nat) (nm : ByteArray) (p : Int) (d : Nd) (i : Nat) (k : Bool) : Prop :=
  match r with
  | .ok y j => k = true ∧ i = j ∧ nm = y.name ∧ p = (y.pos : Int) ∧ PN w' (· < n) d y.t
  | .bad q => k = false ∧ i = q
  | .out => False
def OutR (s : ByteArray) (b : Nat) (r : P.PR P.Rl) (w : World) (e : Ending) (w' : World) : Prop :=
  ∃ (nm : ByteArray) (p : Int) (d : Nd) (i' o' : Nat) (k : Bool), e = .returned (.tuple #[ruleVal nm p d, .bool k]) ∧ QB w' b s i' o' ∧ (k = true → o' = 0) ∧ Only b w w' ∧ i' ≤ s.size ∧ RuleF r w' w.heap.size nm p d i' k

theorem pnameTo_ge (s : ByteArray) (n i : Nat) : i ≤ P.nameTo s n i := by
  induction n generalizing i with
  | zero => exact Nat.le_refl _
  | succ n ih => rw [pnameTo_succ]; split; have := ih (i + 1); omega; exact Nat.le_refl _
theorem pnameTo_le (s : ByteArray) (n i : Nat) (hi : i ≤ s.size) : P.nameTo s n i ≤ s.size := by
  induction n generalizing i with
  | zero => exact hi
  | succ n ih =>
    rw [pnameTo_succ]; split
    · rename_i h; exact ih (i + 1) (lt_of_bt (by omega))
    · exact hi

/-- A fault: the zero rule, handed back. -/
theorem OutR.zero {s : ByteArray} {b i2 o2 : Nat} {w w2 : World} {R : P.PR P.Rl} (hlt : b < w.heap.size) (hO : Only b w w2) (hQ : QB w2 b s i2 o2) (hi2 : i2 ≤ s.size) (hR : R = .bad i2) :
    OutR s b R w (.returned (.tuple #[.agg #[.string ⟨#[]⟩, .int .i64 0, .int .i64 0, .int .u64 0, .int .u64 0, .int .u64 0, .int .u64 0, .slice none 0 0, .bool false, .bool false], .bool false])) (put10 w2 w.heap.size ⟨#[]⟩ 0 ⟨0, 0, 0, 0, 0, none, 0, 0, false, false⟩) := by
  have hq : QB (put10 w2 w.heap.size ⟨#[]⟩ 0 ⟨0, 0, 0, 0, 0, none, 0, 0, false, false⟩) b s i2 o2 := (heap_put10 (by omega)).trans hQ
  have hO' : Only b w (put10 w2 w.heap.size ⟨#[]⟩ 0 ⟨0, 0, 0, 0, 0, none, 0, 0, false, false⟩) := hO.put10 (Nat.le_refl _)
  generalize put10 w2 w.heap.size ⟨#[]⟩ 0 ⟨0, 0, 0, 0, 0, none, 0, 0, false, false⟩ = X at *
  subst hR
  exact ⟨⟨#[]⟩, 0, ⟨0, 0, 0, 0, 0, none, 0, 0, false, false⟩, i2, o2, false, rfl, hq, (by intro e; cases e), hO', hi2, rfl, rfl⟩

end Go.Proofs.Ytjhmlcilabnlbaa
