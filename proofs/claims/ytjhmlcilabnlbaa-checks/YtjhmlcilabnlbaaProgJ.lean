/- The program: emptyParts, Empty. -/
import Derived.Test.YtjhmlcilabnlbaaProgI
import Derived.Deep.RegionWith
namespace Go.Proofs.Ytjhmlcilabnlbaa
open Go.RowKit

def cntEm (l : List (Nd × P.T)) : Nat := (l.filter fun x => x.2.em).length
def cntTo (l : List (Nd × P.T)) (m : Nat) : Nat := cntEm (l.take m)
theorem cntTo_succ {l : List (Nd × P.T)} {m : Nat} {x : Nd × P.T} (h : l[m]? = some x) : cntTo l (m + 1) = cntTo l m + (if x.2.em then 1 else 0) := by
  unfold cntTo cntEm
  rw [List.take_add_one, h, List.filter_append]
  cases hx : x.2.em <;> simp [hx]
theorem cntTo_all (l : List (Nd × P.T)) : cntTo l l.length = cntEm l := by unfold cntTo; rw [List.take_length]
theorem cntTo_le (l : List (Nd × P.T)) (m : Nat) : cntTo l m ≤ m := by
  unfold cntTo cntEm
  have h1 := List.length_filter_le (fun x : Nd × P.T => x.2.em) (l.take m)
  have h2 := List.length_take_le m l
  omega
theorem cnt_all (l : List (Nd × P.T)) : decide (cntEm l = l.length) = allEm l := by
  unfold cntEm allEm
  rw [Bool.eq_iff_iff, decide_eq_true_eq, List.length_filter_eq_length_iff, List.all_eq_true]
theorem cnt_any (l : List (Nd × P.T)) : decide (0 < cntEm l) = anyEm l := by
  unfold cntEm anyEm
  rw [Bool.eq_iff_iff, decide_eq_true_eq, List.length_filter_pos_iff, List.any_eq_true]

def PartsE (w0 : World) (b : Nat) (l : List (Nd × P.T)) : Prop := ∀ x, x ∈ l → ∀ w, Only b w0 w → Calls Try.prog 15 #[x.1.val] w fun e w' => e = .returned (.bool x.2.em) ∧ Below w.heap.size w w'

set_option maxHeartbeats 4000000 in
theorem emptyParts_any (w0 : World) (b g c : Nat) (l : List (Nd × P.T)) (k : Int) (no ag : Bool) (hg : Parts w0 (· = b) g l) (hC : PartsE w0 b l) (hl : l.length ≤ 1000) (w : World) (hw : Only b w0 w) :
    Calls Try.prog 23 #[.agg #[.int .i64 k, .int .u64 0, .int .u64 0, .int .u64 0, .int .u64 0, .slice (some ⟨g, 0, none⟩) l.length c, .bool no, .bool ag]] w fun e w' => e = .returned (.int .i64 (cntEm l : Int)) ∧ Below w.heap.size w w' := by
  go_enter Try.func23, Try.ntmps23
  go_wp2_with fail
  go_loopg [3, 9] l.length (fun gk cnt ix wr => ∃ m : Nat, m + gk = l.length ∧ ix = .int .i64 (m : Int) ∧ cnt = .int .i64 (cntTo l m : Int) ∧ Below w.heap.size w wr)
  case atStart => exact ⟨0, by omega, rfl, by simp [cntTo, cntEm], (Below.refl _ _).alloc (Nat.le_refl _) _⟩
  case round =>
    obtain ⟨m, hm, rfl, rfl, hBr⟩ := hrel
    have hO : Only b w0 wr := hw.trans (Only.ofBelow hBr)
    have hsm := cntTo_le l m
    by_cases hlt : m < l.length
    · obtain ⟨x, hx⟩ : ∃ x, l[m]? = some x := ⟨l[m], List.getElem?_eq_getElem hlt⟩
      have hlt' : (m : Int) < (l.length : Int) := by omega
      have hP := hg.only hO.toS
      have e0 : wr.cell? ⟨g, m * 8, none⟩ = some (.int .i64 x.1.k) := hP.cell hx (j := 0) (by omega)
      have e1 : wr.cell? ⟨g, m * 8 + 1, none⟩ = some (.int .u64 x.1.x0) := hP.cell hx (j := 1) (by omega)
      have e2 : wr.cell? ⟨g, m * 8 + 2, none⟩ = some (.int .u64 x.1.x1) := hP.cell hx (j := 2) (by omega)
      have e3 : wr.cell? ⟨g, m * 8 + 3, none⟩ = some (.int .u64 x.1.x2) := hP.cell hx (j := 3) (by omega)
      have e4 : wr.cell? ⟨g, m * 8 + 4, none⟩ = some (.int .u64 x.1.x3) := hP.cell hx (j := 4) (by omega)
      have e5 : wr.cell? ⟨g, m * 8 + 5, none⟩ = some (.slice x.1.pa x.1.pn x.1.pc) := hP.cell hx (j := 5) (by omega)
      have e6 : wr.cell? ⟨g, m * 8 + 6, none⟩ = some (.bool x.1.no) := hP.cell hx (j := 6) (by omega)
      have e7 : wr.cell? ⟨g, m * 8 + 7, none⟩ = some (.bool x.1.ag) := hP.cell hx (j := 7) (by omega)
      have HSU := hid (cntTo_succ hx)
      have HCx := hid (hC x (List.mem_of_getElem? hx))
      clear hx hP hC
      have hszr := hBr.size
      go_wp2_with fail
      refine (HCx.out _ (hO.alloc _)).mono ?_
      rintro e w2 ⟨rfl, hB2⟩
      have hBx : Below w.heap.size w w2 := (hBr.alloc (by omega) _).trans (hB2.mono (by simp; omega))
      cases hem : x.2.em with
      | true =>
        rw [hem] at HSU
        go_wp2_with fail
        go_roundg (gk - 1)
        case measure => omega
        case rel => exact ⟨m + 1, by omega, by go_num, by have := HSU.out; rw [this]; go_num, hBx⟩
      | false =>
        rw [hem] at HSU
        go_wp2_with fail
        go_roundg (gk - 1)
        case measure => omega
        case rel => exact ⟨m + 1, by omega, by go_num, by have := HSU.out; rw [this]; rfl, hBx⟩
    · have hme : m = l.length := by omega
      subst hme
      rw [cntTo_all]
      go_wp2_with fail
      go_ret
      exact ⟨rfl, hBr⟩

set_option maxHeartbeats 1000000 in
theorem empty_one (x0 x1 x2 x3 : Int) (w : World) :
    Calls Try.prog 15 #[.agg #[.int .i64 0, .int .u64 x0, .int .u64 x1, .int .u64 x2, .int .u64 x3, .slice none 0 0, .bool false, .bool false]] w fun e w' => e = .returned (.bool false) ∧ Below w.heap.size w w' := by
  go_enter Try.func15, Try.ntmps15
  go_wp2_with fail
  go_ret
  exact ⟨rfl, (Below.refl _ _).alloc (Nat.le_refl _) _⟩

set_option maxHeartbeats 4000000 in
theorem empty_row (w0 : World) (b g c : Nat) (l : List (Nd × P.T)) (hg : Parts w0 (· = b) g l) (hC : PartsE w0 b l) (hl : l.length ≤ 1000) (w : World) (hw : Only b w0 w) :
    Calls Try.prog 15 #[.agg #[.int .i64 1, .int .u64 0, .int .u64 0, .int .u64 0, .int .u64 0, .slice (some ⟨g, 0, none⟩) l.length c, .bool false, .bool false]] w fun e w' => e = .returned (.bool (allEm l)) ∧ Below w.heap.size w w' := by
  have HC := hid (fun (w : World) (hw : Only b w0 w) => emptyParts_any w0 b g c l 1 false false hg hC hl w hw)
  have HA := hid (cnt_all l)
  clear hC hg
  go_enter Try.func15, Try.ntmps15
  go_wp2_with fail
  go_region_with (go_at_call 23; refine (HC.out _ (by first | exact (hw.alloc _).drew | exact hw.alloc _)).mono ?_; rintro e w2 ⟨rfl, hB2⟩; have q5 : w2.cell? ⟨w.heap.size, 5, none⟩ = some (.slice (some ⟨g, 0, none⟩) l.length c) := (hB2.cell (p := ⟨w.heap.size, 5, none⟩) (by simp)).trans (by simp))
  all_goals
    go_wp2_with fail
    go_ret
    refine ⟨ret_bool (by rw [← HA.out, Bool.eq_iff_iff]; simp; omega), ?_⟩
    first
      | exact (((Below.refl _ _).alloc (Nat.le_refl _) _).drew).trans (hB2.mono (by simp))
      | exact ((Below.refl _ _).alloc (Nat.le_refl _) _).trans (hB2.mono (by simp))
      | exact (((Below.refl _ _).alloc (Nat.le_refl _) _).trans (hB2.mono (by simp))).drew

set_option maxHeartbeats 4000000 in
theorem empty_alt (w0 : World) (b g c : Nat) (l : List (Nd × P.T)) (hg : Parts w0 (· = b) g l) (hC : PartsE w0 b l) (hl : l.length ≤ 1000) (w : World) (hw : Only b w0 w) :
    Calls Try.prog 15 #[.agg #[.int .i64 2, .int .u64 0, .int .u64 0, .int .u64 0, .int .u64 0, .slice (some ⟨g, 0, none⟩) l.length c, .bool false, .bool false]] w fun e w' => e = .returned (.bool (anyEm l)) ∧ Below w.heap.size w w' := by
  have HC := hid (fun (w : World) (hw : Only b w0 w) => emptyParts_any w0 b g c l 2 false false hg hC hl w hw)
  have HA := hid (cnt_any l)
  clear hC hg
  go_enter Try.func15, Try.ntmps15
  go_wp2_with fail
  refine (HC.out _ (hw.alloc _)).mono ?_
  rintro e w2 ⟨rfl, hB2⟩
  go_wp2_with fail
  go_ret
  exact ⟨ret_bool (by rw [← HA.out, decide_eq_decide]), ((Below.refl _ _).alloc (Nat.le_refl _) _).trans (hB2.mono (by simp))⟩

set_option maxHeartbeats 4000000 in
theorem empty_rep (w0 : World) (b g c : Nat) (d : Nd) (t : P.T) (no ag : Bool) (hg : Parts w0 (· = b) g [(d, t)]) (hC : PartsE w0 b [(d, t)]) (w : World) (hw : Only b w0 w) :
    Calls Try.prog 15 #[.agg #[.int .i64 3, .int .u64 0, .int .u64 0, .int .u64 0, .int .u64 0, .slice (some ⟨g, 0, none⟩) 1 c, .bool no, .bool ag]] w fun e w' => e = .returned (.bool (no || t.em)) ∧ Below w.heap.size w w' := by
  have HC := hid (fun (w : World) (hw : Only b w0 w) => emptyParts_any w0 b g c [(d, t)] 3 no ag hg hC (by simp) w hw)
  have HA := hid (cnt_any [(d, t)])
  clear hC hg
  cases no with
  | true =>
    go_enter Try.func15, Try.ntmps15
    go_wp2_with fail
    go_ret
    exact ⟨rfl, (Below.refl _ _).alloc (Nat.le_refl _) _⟩
  | false =>
    go_enter Try.func15, Try.ntmps15
    go_wp2_with fail
    refine (HC.out _ (hw.alloc _)).mono ?_
    rintro e w2 ⟨rfl, hB2⟩
    go_wp2_with fail
    go_ret
    have e1 : anyEm [(d, t)] = t.em := by simp [anyEm]
    exact ⟨ret_bool (by rw [Bool.false_or, ← e1, ← HA.out, decide_eq_decide]), ((Below.refl _ _).alloc (Nat.le_refl _) _).trans (hB2.mono (by simp))⟩

/-- Empty of a node in memory: whether it matches the empty text. -/
theorem pempty_any (w0 : World) (b : Nat) {d : Nd} {t : P.T} (h : PN w0 (· = b) d t) : ∀ w, Only b w0 w → Calls Try.prog 15 #[d.val] w fun e w' => e = .returned (.bool t.em) ∧ Below w.heap.size w w' := by
  induction h with
  | one x0 x1 x2 x3 => intro w _; exact empty_one x0 x1 x2 x3 w
  | @rep g c d t no ag hg h ih =>
    intro w hw
    refine empty_rep w0 b g c d t no ag hg ?_ w hw
    intro x hx w hw
    rw [List.mem_singleton] at hx; subst hx
    exact ih w hw
  | @row g c l hg hn h ih => intro w hw; exact empty_row w0 b g c l hg (fun x hx w hw => ih x hx w hw) hn w hw
  | @alt g c l hg hl hn h ih => intro w hw; exact empty_alt w0 b g c l hg (fun x hx w hw => ih x hx w hw) hn w hw

end Go.Proofs.Ytjhmlcilabnlbaa
