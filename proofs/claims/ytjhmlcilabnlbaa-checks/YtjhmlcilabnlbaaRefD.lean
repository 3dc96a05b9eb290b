/- Contracts of the document's answer: leaf; nodes in memory. -/
import Derived.Test.YtjhmlcilabnlbaaRefC
namespace Go.Proofs.Ytjhmlcilabnlbaa
open Go.RowKit

/-- The cells of a list of 256 bools. -/
def hasCells (acc : Nat → Bool) : Array Value := Array.ofFn fun k : Fin 256 => .bool (acc k)
theorem hasCells_size (acc : Nat → Bool) : (hasCells acc).size = 256 := by simp [hasCells]
theorem hasCells_get (acc : Nat → Bool) {k : Nat} (h : k < 256) : (hasCells acc)[k]? = some (.bool (acc k)) := by simp [hasCells, h]
theorem hasCells_set (acc : Nat → Bool) {k : Nat} (h : k < 256) (v : Bool) : (hasCells acc).setIfInBounds k (.bool v) = hasCells (fun x => if x = k then v else acc x) := by
  apply Array.ext_getElem?
  intro j
  rw [Array.getElem?_setIfInBounds, hasCells_size]
  by_cases hj : k = j
  · subst hj; simp [h, hasCells]
  · rw [if_neg hj]
    by_cases hl : j < 256
    · rw [hasCells_get _ hl, hasCells_get _ hl, if_neg (by omega)]
    · simp [hasCells, hl]
theorem made_one (z : Value) (n : Nat) : madeCells #[z] n = Array.ofFn fun _ : Fin n => z := by
  apply Array.ext'
  rw [toList_madeCells_one]
  apply List.ext_getElem?
  intro j
  by_cases hl : j < n
  · simp [hl]
  · simp [hl]
theorem made256 : madeCells (Value.bool false).cells (256 * 1) = hasCells (fun _ => false) := made_one (.bool false) 256

theorem Try.info4 : (Try.prog.info? 4).map (fun i => (i.zero, i.size, i.bytes)) = some (some (.bool false), 1, 1) := by kernel_rfl
theorem run_make256 (w : World) : (Instr.makeSlice 62 (.int .i64 256) (.int .i64 256)).run Try.prog w = .ok (.slice (some ⟨w.heap.size, 0, none⟩) 256 256) (w.alloc (.cells (hasCells (fun _ => false)) 4)) := by
  obtain ⟨i0, hi, hz0, hz1, hz2⟩ := info_parts Try.info4
  have := run_make (P := Try.prog) w 62 4 i0 (.bool false) Try.underlying62 hi hz0 .i64 .i64 256 256 (by omega) (by omega) (by rw [hz2]; omega) (by omega)
  rw [this, hz1]
  rw [show (256 : Int).toNat * 1 = 256 * 1 from rfl, made256]
  rfl

/-- A list of 256 bools in memory. -/
def HasB (w : World) (g : Nat) (acc : Nat → Bool) : Prop := w.heap[g]? = some (.cells (hasCells acc) 4 (0, 0))
/-- A node of the document's answer in memory. -/
def NB (w : World) (n : Nat) (op : Int) (has A B : Value) : Prop := w.heap[n]? = some (.cells #[.int .u8 op, has, A, B] 64 (0, 0))

theorem HasB.drewN {w : World} {g : Nat} {acc : Nat → Bool} (h : HasB w g acc) (n : Nat) : HasB (w.drewN n) g acc := h
theorem HasB.cell {w : World} {g : Nat} {acc : Nat → Bool} (h : HasB w g acc) {k : Nat} (hk : k < 256) : w.cell? ⟨g, k, none⟩ = some (.bool (acc k)) := by
  simp [World.cell?, show w.heap[g]? = _ from h, hasCells_get _ hk]
theorem HasB.fz {w : World} {g : Nat} {acc : Nat → Bool} (h : HasB w g acc) (k : Nat) : w.frozen? ⟨g, k, none⟩ = false := by
  simp [World.frozen?, show w.heap[g]? = _ from h]
theorem HasB.set {w : World} {g : Nat} {acc : Nat → Bool} (h : HasB w g acc) {k : Nat} (hk : k < 256) (v : Bool) : HasB (w.setCell ⟨g, k, none⟩ (.bool v)) g (fun x => if x = k then v else acc x) := by
  have := heap_setCell_same (a := ⟨g, k, none⟩) h rfl (.bool v)
  rw [hasCells_set _ hk] at this
  exact this
theorem HasB.other {w : World} {g : Nat} {acc : Nat → Bool} (h : HasB w g acc) {p : Addr} (hp : g ≠ p.block) (u : Value) : HasB (w.setCell p u) g acc :=
  (Below.heap_setCell _ _ _ _ hp).trans h
theorem HasB.lt {w : World} {g : Nat} {acc : Nat → Bool} (h : HasB w g acc) : g < w.heap.size := by
  unfold HasB at h
  by_cases hb : g < w.heap.size
  · exact hb
  · simp [hb] at h
theorem HasB.only {w w' : World} {g b : Nat} {acc : Nat → Bool} (h : HasB w g acc) (k : Only b w w') (hn : g ≠ b) : HasB w' g acc := (k.block g h.lt hn).trans h
theorem NB.drewN {w : World} {n : Nat} {op : Int} {has A B : Value} (h : NB w n op has A B) (k : Nat) : NB (w.drewN k) n op has A B := h
theorem NB.lt {w : World} {n : Nat} {op : Int} {has A B : Value} (h : NB w n op has A B) : n < w.heap.size := by
  unfold NB at h
  by_cases hb : n < w.heap.size
  · exact hb
  · simp [hb] at h
theorem NB.only {w w' : World} {n b : Nat} {op : Int} {has A B : Value} (h : NB w n op has A B) (k : Only b w w') (hn : n ≠ b) : NB w' n op has A B := (k.block n h.lt hn).trans h
theorem NB.other {w : World} {n : Nat} {op : Int} {has A B : Value} (h : NB w n op has A B) {p : Addr} (hp : n ≠ p.block) (u : Value) : NB (w.setCell p u) n op has A B :=
  (Below.heap_setCell _ _ _ _ hp).trans h
theorem NB.c0 {w : World} {n : Nat} {op : Int} {has A B : Value} (h : NB w n op has A B) : w.cell? ⟨n, 0, none⟩ = some (.int .u8 op) := by simp [World.cell?, show w.heap[n]? = _ from h]
theorem NB.c1 {w : World} {n : Nat} {op : Int} {has A B : Value} (h : NB w n op has A B) : w.cell? ⟨n, 1, none⟩ = some has := by simp [World.cell?, show w.heap[n]? = _ from h]
theorem NB.c2 {w : World} {n : Nat} {op : Int} {has A B : Value} (h : NB w n op has A B) : w.cell? ⟨n, 2, none⟩ = some A := by simp [World.cell?, show w.heap[n]? = _ from h]
theorem NB.c3 {w : World} {n : Nat} {op : Int} {has A B : Value} (h : NB w n op has A B) : w.cell? ⟨n, 3, none⟩ = some B := by simp [World.cell?, show w.heap[n]? = _ from h]
theorem heap_alloc_at (w : World) (o : Obj) : (w.alloc o).heap[w.heap.size]? = some o := by
  show (w.heap.push o)[w.heap.size]? = _
  simp
theorem NB.alloc {w : World} {op : Int} {has A B : Value} : NB (w.alloc (.cells #[.int .u8 op, has, A, B] 64)) w.heap.size op has A B := heap_alloc_at _ _
theorem Only.new {b : Nat} {x y : World} (h : Only b x y) {p : Addr} (hp : x.heap.size ≤ p.block) (u : Value) : Only b x (y.setCell p u) :=
  ⟨h.os, h.tape, h.output, by have := h.size; simpa [World.setCell] using this, fun k hk hb => (Below.heap_setCell _ _ _ _ (by omega)).trans (h.block k hk hb)⟩
theorem Only.ofBelow {b : Nat} {x y : World} (h : Below x.heap.size x y) : Only b x y := ⟨h.os, h.tape, h.output, h.size, fun k hk _ => h.block k hk⟩

theorem heap_alloc_old {w : World} {o : Obj} {k : Nat} {x : Option Obj} (h : w.heap[k]? = x) (hk : k < w.heap.size) : (w.alloc o).heap[k]? = x := (Below.heap_alloc w o k hk).trans h

def rng (lo hi : Int) : Nat → Bool := fun x => decide (lo ≤ (x : Int)) && decide ((x : Int) ≤ hi)

theorem rng_none (lo : Int) : rng lo (lo - 1) = fun _ => false := by
  funext x; unfold rng
  by_cases h : lo ≤ (x : Int)
  · have : ¬ (x : Int) ≤ lo - 1 := by omega
    simp [this]
  · simp [h]
theorem rng_step {lo k : Int} (h0 : 0 ≤ lo) (h : lo ≤ k) : (fun x => if x = k.toNat then true else rng lo (k - 1) x) = rng lo (k + 1 - 1) := by
  funext x; unfold rng
  by_cases hx : x = k.toNat
  · subst hx; simp; omega
  · rw [if_neg hx]
    congr 1
    rw [decide_eq_decide]; omega
theorem rng_past {lo hi k : Int} (h : ¬ k ≤ hi) (hk : k = lo ∨ k ≤ hi + 1) : rng lo (k - 1) = rng lo hi := by
  funext x; unfold rng
  rw [Bool.eq_iff_iff]; simp; omega

set_option maxHeartbeats 400000 in
theorem leaf_any (lo hi : Int) (w : World) (h0 : 0 ≤ lo) (h1 : lo ≤ 256) (h2 : 0 ≤ hi) (h3 : hi ≤ 255) :
    Calls Try.prog 33 #[.int .i64 lo, .int .i64 hi] w fun e w' => e = .returned (.pointer (some ⟨w.heap.size + 1, 0, none⟩)) ∧ Below w.heap.size w w' ∧ HasB w' w.heap.size (rng lo hi) ∧ NB w' (w.heap.size + 1) 99 (.slice (some ⟨w.heap.size, 0, none⟩) 256 256) (.pointer none) (.pointer none) ∧ w'.heap.size = w.heap.size + 2 := by
  have hm := run_make256
  go_enter Try.func33, Try.ntmps33
  go_wp2
  clear hm
  go_loopw [6] (fun i wr => ∃ k : Int, i = .int .i64 k ∧ lo ≤ k ∧ (k = lo ∨ k ≤ hi + 1) ∧ HasB wr w.heap.size (rng lo (k - 1)) ∧ NB wr (w.heap.size + 1) 99 (.slice (some ⟨w.heap.size, 0, none⟩) 256 256) (.pointer none) (.pointer none) ∧ Below w.heap.size w wr ∧ wr.heap.size = w.heap.size + 2) (fun i _ => (hi + 1 - intOf i).toNat)
  case atStart =>
    refine ⟨lo, rfl, by omega, Or.inl rfl, ?_, ?_, ?_, ?_⟩
    · rw [rng_none]; exact heap_alloc_old (heap_alloc_at _ _) (by simp)
    · have := heap_alloc_at (w.alloc (.cells (hasCells (fun _ => false)) 4)) (.cells #[.int .u8 99, .slice (some ⟨w.heap.size, 0, none⟩) 256 256, .pointer none, .pointer none] 64)
      rw [show (w.alloc (.cells (hasCells (fun _ => false)) 4)).heap.size = w.heap.size + 1 from by simp] at this
      exact this
    · exact ((Below.refl _ _).alloc (Nat.le_refl _) _).alloc (by simp) _
    · simp
  case round =>
    obtain ⟨k, rfl, hk1, hk2, hH, hN, hW, hz⟩ := hrel
    have n1 := hN.c1
    by_cases hlt : k ≤ hi
    · have c1 := hH.cell (k := k.toNat) (by omega)
      have f1 := hH.fz k.toNat
      go_wp2
      go_roundw
      case rel => exact ⟨k + 1, rfl, by omega, by omega, by rw [← rng_step h0 hk1]; exact hH.set (by omega) true, hN.other (by simp) _, hW.setCell (by simp) _, by simpa [World.setCell] using hz⟩
      case measure => simp [intOf]; omega
    · go_wp2
      go_ret
      exact ⟨rfl, hW, by rw [← rng_past (by omega) hk2]; exact hH, hN, hz⟩

theorem leaf_at (N : Nat) (lo hi : Int) (w : World) (hN : w.heap.size = N) (h0 : 0 ≤ lo) (h1 : lo ≤ 256) (h2 : 0 ≤ hi) (h3 : hi ≤ 255) :
    Calls Try.prog 33 #[.int .i64 lo, .int .i64 hi] w fun e w' => e = .returned (.pointer (some ⟨N + 1, 0, none⟩)) ∧ Below N w w' ∧ HasB w' N (rng lo hi) ∧ NB w' (N + 1) 99 (.slice (some ⟨N, 0, none⟩) 256 256) (.pointer none) (.pointer none) ∧ w'.heap.size = N + 2 := by
  subst hN; exact leaf_any lo hi w h0 h1 h2 h3
end Go.Proofs.Ytjhmlcilabnlbaa
