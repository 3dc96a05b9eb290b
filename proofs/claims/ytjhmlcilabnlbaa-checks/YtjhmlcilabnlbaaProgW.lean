/- The program: judge. -/
import Derived.Test.YtjhmlcilabnlbaaProgV
namespace Go.Proofs.Ytjhmlcilabnlbaa
open Go.RowKit

set_option maxHeartbeats 1000000 in
theorem same_any (nm nm0 : ByteArray) (p : Int) (d : Nd) (bx : Nat) (w : World) (hb : w.cell? ⟨bx, 0, none⟩ = some (.string nm0)) (hbl : bx < w.heap.size) :
    Calls Try.prog 13 #[.agg #[.string nm, .int .i64 p, .int .i64 d.k, .int .u64 d.x0, .int .u64 d.x1, .int .u64 d.x2, .int .u64 d.x3, .slice d.pa d.pn d.pc, .bool d.no, .bool d.ag], .pointer (some ⟨bx, 0, none⟩)] w fun e w' => e = .returned (.bool (nm.toList == nm0.toList)) ∧ Below w.heap.size w w' := by
  go_enter Try.func13, Try.ntmps13
  go_wp2_with fail
  go_ret
  exact ⟨rfl, (Below.refl _ _).alloc (Nat.le_refl _) _⟩

/-- Rules that lie one behind the other. -/
def RlIn (w : World) (g : Nat) (xs : List (P.Rl × Nd)) : Prop := ∃ cur fz, w.heap[g]? = some (.cells cur 40 fz) ∧ cur.toList.take (xs.length * 10) = rlCells xs
theorem RlIn.lt {w : World} {g : Nat} {xs : List (P.Rl × Nd)} (h : RlIn w g xs) : g < w.heap.size := by
  obtain ⟨cur, fz, hc, -⟩ := h
  exact (Array.getElem?_eq_some_iff.1 hc).1
theorem RlIn.below {B : Nat} {w w' : World} {g : Nat} {xs : List (P.Rl × Nd)} (h : RlIn w g xs) (k : Below B w w') (hg : g < B) : RlIn w' g xs := by
  obtain ⟨cur, fz, hc, ht⟩ := h
  exact ⟨cur, fz, (k.block g hg).trans hc, ht⟩
theorem rlCells_get (l : List (P.Rl × Nd)) (i : Nat) (x : P.Rl × Nd) (h : l[i]? = some x) (j : Nat) (hj : j < 10) : (rlCells l)[i * 10 + j]? = (ruleCells x.1.name (x.1.pos : Int) x.2)[j]? := by
  induction l generalizing i with
  | nil => simp at h
  | cons y ys ih =>
    have e : rlCells (y :: ys) = ruleCells y.1.name (y.1.pos : Int) y.2 ++ rlCells ys := rfl
    rw [e]
    cases i with
    | zero =>
      simp at h; subst h
      rw [List.getElem?_append_left (by simp [ruleCells]; omega)]
      simp
    | succ i =>
      rw [List.getElem?_append_right (by simp [ruleCells]; omega)]
      rw [show (i + 1) * 10 + j - (ruleCells y.1.name (y.1.pos : Int) y.2).length = i * 10 + j from by simp [ruleCells]; omega]
      exact ih i (by simpa using h)
theorem RlIn.cell {w : World} {g : Nat} {l : List (P.Rl × Nd)} (h : RlIn w g l) {i : Nat} {x : P.Rl × Nd} (hx : l[i]? = some x) {j : Nat} (hj : j < 10) : w.cell? ⟨g, i * 10 + j, none⟩ = (ruleCells x.1.name (x.1.pos : Int) x.2)[j]? := by
  obtain ⟨cur, fz, hc, ht⟩ := h
  have hi : i < l.length := by
    by_cases hl : i < l.length
    · exact hl
    · rw [List.getElem?_eq_none (by omega)] at hx; cases hx
  rw [← rlCells_get l i x hx j hj, ← ht, List.getElem?_take, if_pos (by omega)]
  simp [World.cell?, hc]

/-- Has one of these rules the name? -/
def named (xs : List (P.Rl × Nd)) (nm : ByteArray) : Bool := xs.any fun x => x.1.name.toList == nm.toList
theorem named_succ {xs : List (P.Rl × Nd)} {m : Nat} {x : P.Rl × Nd} (nm : ByteArray) (h : xs[m]? = some x) : named (xs.take (m + 1)) nm = (named (xs.take m) nm || (x.1.name.toList == nm.toList)) := by
  unfold named
  rw [List.take_add_one, h]; simp

set_option maxHeartbeats 1000000 in
theorem indexf_any (xs : List (P.Rl × Nd)) (k g cap bx : Nat) (nm0 : ByteArray) (w : World) (hk : k ≤ xs.length) (hl : xs.length ≤ 400) (hcap : k ≤ cap) (hr : RlIn w g xs) (hb : w.cell? ⟨bx, 0, none⟩ = some (.string nm0)) (hbl : bx < w.heap.size) :
    Calls Try.prog 22 #[.slice (some ⟨g, 0, none⟩) k cap, .func (.func 13) #[] #[.pointer (some ⟨bx, 0, none⟩)]] w fun e w' => (∃ r : Int, e = .returned (.int .i64 r) ∧ decide (0 ≤ r) = named (xs.take k) nm0) ∧ Below w.heap.size w w' := by
  have hgl := hr.lt
  go_enter Try.func22, Try.ntmps22
  go_wp2_with fail
  go_loopg [8] k (fun gk ix wr => ∃ m : Nat, m + gk = k ∧ ix = .int .i64 (m : Int) ∧ Below w.heap.size w wr ∧ Hid (named (xs.take m) nm0 = false))
  case atStart => exact ⟨0, by omega, rfl, Below.refl _ _, rfl⟩
  case round =>
    obtain ⟨m, hm, rfl, hBr, hno⟩ := hrel
    by_cases hlt : m < k
    · obtain ⟨x, hx⟩ : ∃ x, xs[m]? = some x := ⟨xs[m], List.getElem?_eq_getElem (by omega)⟩
      have hlt' : (m : Int) < (k : Int) := by omega
      have hrr := hr.below hBr hgl
      have e0 : wr.cell? ⟨g, m * 10, none⟩ = some (.string x.1.name) := hrr.cell hx (j := 0) (by omega)
      have e1 : wr.cell? ⟨g, m * 10 + 1, none⟩ = some (.int .i64 (x.1.pos : Int)) := hrr.cell hx (j := 1) (by omega)
      have e2 : wr.cell? ⟨g, m * 10 + 2, none⟩ = some (.int .i64 x.2.k) := hrr.cell hx (j := 2) (by omega)
      have e3 : wr.cell? ⟨g, m * 10 + 3, none⟩ = some (.int .u64 x.2.x0) := hrr.cell hx (j := 3) (by omega)
      have e4 : wr.cell? ⟨g, m * 10 + 4, none⟩ = some (.int .u64 x.2.x1) := hrr.cell hx (j := 4) (by omega)
      have e5 : wr.cell? ⟨g, m * 10 + 5, none⟩ = some (.int .u64 x.2.x2) := hrr.cell hx (j := 5) (by omega)
      have e6 : wr.cell? ⟨g, m * 10 + 6, none⟩ = some (.int .u64 x.2.x3) := hrr.cell hx (j := 6) (by omega)
      have e7 : wr.cell? ⟨g, m * 10 + 7, none⟩ = some (.slice x.2.pa x.2.pn x.2.pc) := hrr.cell hx (j := 7) (by omega)
      have e8 : wr.cell? ⟨g, m * 10 + 8, none⟩ = some (.bool x.2.no) := hrr.cell hx (j := 8) (by omega)
      have e9 : wr.cell? ⟨g, m * 10 + 9, none⟩ = some (.bool x.2.ag) := hrr.cell hx (j := 9) (by omega)
      have HN := hid (named_succ nm0 hx)
      have HM : Hid (x ∈ xs.take k) := List.mem_of_getElem? (i := m) (by rw [List.getElem?_take, if_pos hlt]; exact hx)
      have hb2 : wr.cell? ⟨bx, 0, none⟩ = some (.string nm0) := (World.cell?_of_block (a := ⟨bx, 0, none⟩) (hBr.block bx hbl)).trans hb
      have hws := hBr.size
      clear hrr hx
      go_wp2_with fail
      refine (same_any x.1.name nm0 _ x.2 bx wr hb2 (by omega)).mono ?_
      rintro e w3 ⟨rfl, hB3⟩
      have hB4 : Below w.heap.size w w3 := hBr.trans (hB3.mono hws)
      clear e0 e1 e2 e3 e4 e5 e6 e7 e8 e9
      cases heq : (x.1.name.toList == nm0.toList) with
      | true =>
        have HY : Hid (named (xs.take k) nm0 = true) := List.any_eq_true.2 ⟨x, HM.out, heq⟩
        go_wp2_with fail
        go_ret
        exact ⟨⟨(m : Int), rfl, by rw [HY.out]; simp⟩, hB4⟩
      | false =>
        have HN2 : Hid (named (xs.take (m + 1)) nm0 = false) := by unfold Hid; rw [HN.out, hno.out, heq]; rfl
        go_wp2_with fail
        go_roundg (gk - 1)
        case measure => omega
        case rel => exact ⟨m + 1, by omega, by go_num, hB4, HN2⟩
    · have hme : m = k := by omega
      subst hme
      go_wp2_with fail
      go_ret
      exact ⟨⟨-1, rfl, by rw [hno.out]; rfl⟩, hBr⟩

set_option maxHeartbeats 1000000 in
theorem contains_any (xs : List (P.Rl × Nd)) (k g cap bx : Nat) (nm0 : ByteArray) (w : World) (hk : k ≤ xs.length) (hl : xs.length ≤ 400) (hcap : k ≤ cap) (hr : RlIn w g xs) (hb : w.cell? ⟨bx, 0, none⟩ = some (.string nm0)) (hbl : bx < w.heap.size) :
    Calls Try.prog 14 #[.slice (some ⟨g, 0, none⟩) k cap, .func (.func 13) #[] #[.pointer (some ⟨bx, 0, none⟩)]] w fun e w' => e = .returned (.bool (named (xs.take k) nm0)) ∧ Below w.heap.size w w' := by
  go_enter Try.func14, Try.ntmps14
  go_wp2_with fail
  refine (indexf_any xs k g cap bx nm0 w hk hl hcap hr hb hbl).mono ?_
  rintro e w3 ⟨⟨r, rfl, hr0⟩, hB3⟩
  have HR := hid hr0
  clear hr0
  go_wp2_with fail
  go_ret
  exact ⟨ret_bool HR.out, hB3⟩

/-- What judge says of a rule. -/
def verd (k nodes : Nat) (nmd em : Bool) : Int := if 8 ≤ k ∨ 60 < nodes then 2 else if nmd then 3 else if em then 4 else 0
end Go.Proofs.Ytjhmlcilabnlbaa
