/- The program: own, Count. -/
import Derived.Test.YtjhmlcilabnlbaaProgH
namespace Go.Proofs.Ytjhmlcilabnlbaa
open Go.RowKit

def ownN (k : Int) (n : Nat) : Int := if k = 1 then 0 else if k = 2 then (n : Int) - 1 else 1

set_option maxHeartbeats 1000000 in
theorem own_any (k x0 x1 x2 x3 : Int) (ad : Option Addr) (n c : Nat) (p q : Bool) (w : World) (hn : n ≤ 100000) :
    Calls Try.prog 12 #[.agg #[.int .i64 k, .int .u64 x0, .int .u64 x1, .int .u64 x2, .int .u64 x3, .slice ad n c, .bool p, .bool q]] w fun e w' => e = .returned (.int .i64 (ownN k n)) ∧ Below w.heap.size w w' := by
  by_cases h1 : k = 1
  · subst h1
    go_enter Try.func12, Try.ntmps12
    go_wp2
    go_ret
    exact ⟨rfl, (Below.refl _ _).alloc (Nat.le_refl _) _⟩
  · by_cases h2 : k = 2
    · subst h2
      go_enter Try.func12, Try.ntmps12
      go_wp2
      go_ret
      exact ⟨rfl, (Below.refl _ _).alloc (Nat.le_refl _) _⟩
    · have b1 : (k == 1) = false := beq_false_of_ne h1
      have b2 : (k == 2) = false := beq_false_of_ne h2
      have HO : Hid (ownN k n = 1) := by unfold Hid ownN; rw [if_neg h1, if_neg h2]
      clear h1 h2
      go_enter Try.func12, Try.ntmps12
      go_wp2
      go_ret
      exact ⟨ret_int HO.out.symm, (Below.refl _ _).alloc (Nat.le_refl _) _⟩

/-- The value of a node. -/
def Nd.val (d : Nd) : Value := .agg #[.int .i64 d.k, .int .u64 d.x0, .int .u64 d.x1, .int .u64 d.x2, .int .u64 d.x3, .slice d.pa d.pn d.pc, .bool d.no, .bool d.ag]

def sumTo (l : List (Nd × P.T)) (m : Nat) : Nat := sumSz (l.take m)
theorem sumTo_succ {l : List (Nd × P.T)} {m : Nat} {x : Nd × P.T} (h : l[m]? = some x) : sumTo l (m + 1) = sumTo l m + x.2.sz := by
  unfold sumTo sumSz
  rw [List.take_add_one, h]; simp
theorem sumTo_all (l : List (Nd × P.T)) : sumTo l l.length = sumSz l := by unfold sumTo; rw [List.take_length]
theorem sumTo_le (l : List (Nd × P.T)) (m : Nat) : sumTo l m ≤ sumSz l := by
  unfold sumTo sumSz
  induction l generalizing m with
  | nil => simp
  | cons x xs ih =>
    cases m with
    | zero => simp
    | succ m => simp; have := ih m; simp at this; omega

/-- Count over the parts, whatever the kind: what the calls on the parts come to is given. -/
def PartsC (w0 : World) (b : Nat) (l : List (Nd × P.T)) : Prop := ∀ x, x ∈ l → ∀ w, Only b w0 w → Calls Try.prog 7 #[x.1.val] w fun e w' => e = .returned (.int .i64 (x.2.sz : Int)) ∧ Below w.heap.size w w'

set_option maxHeartbeats 4000000 in
theorem count_parts (w0 : World) (b g c : Nat) (l : List (Nd × P.T)) (k : Int) (no ag : Bool) (hg : Parts w0 (· = b) g l) (hC : PartsC w0 b l) (hl : l.length ≤ 1000) (hsz : sumSz l ≤ 100000) (ho : -1 ≤ ownN k l.length) (ho2 : ownN k l.length ≤ 100000) (w : World) (hw : Only b w0 w) :
    Calls Try.prog 7 #[.agg #[.int .i64 k, .int .u64 0, .int .u64 0, .int .u64 0, .int .u64 0, .slice (some ⟨g, 0, none⟩) l.length c, .bool no, .bool ag]] w fun e w' => e = .returned (.int .i64 (ownN k l.length + (sumSz l : Int))) ∧ Below w.heap.size w w' := by
  go_enter Try.func7, Try.ntmps7
  go_wp2_with fail
  refine (own_any _ _ _ _ _ _ _ _ _ _ _ (by omega)).mono ?_
  rintro e w1 ⟨rfl, hB1⟩
  have hb0 : w1.heap[w.heap.size]? = some (.cells #[.int .i64 k, .int .u64 0, .int .u64 0, .int .u64 0, .int .u64 0, .slice (some ⟨g, 0, none⟩) l.length c, .bool no, .bool ag] 38 (0, 0)) := (hB1.block _ (by simp)).trans (heap_alloc_at _ _)
  have c5 : w1.cell? ⟨w.heap.size, 5, none⟩ = some (.slice (some ⟨g, 0, none⟩) l.length c) := by simp [World.cell?, hb0]
  have hB : Below w.heap.size w w1 := ((Below.refl _ _).alloc (Nat.le_refl _) _).trans (hB1.mono (by simp))
  clear hB1
  have hcap := hg
  go_wp2_with fail
  go_loopg [3, 11] l.length (fun gk cnt ix wr => ∃ m : Nat, m + gk = l.length ∧ ix = .int .i64 (m : Int) ∧ cnt = .int .i64 (ownN k l.length + (sumTo l m : Int)) ∧ Below w.heap.size w wr)
  case atStart => exact ⟨0, by omega, rfl, by simp [sumTo, sumSz], hB⟩
  case round =>
    obtain ⟨m, hm, rfl, rfl, hBr⟩ := hrel
    have hO : Only b w0 wr := hw.trans (Only.ofBelow hBr)
    have hsm := sumTo_le l m
    by_cases hlt : m < l.length
    · obtain ⟨x, hx⟩ : ∃ x, l[m]? = some x := ⟨l[m], List.getElem?_eq_getElem hlt⟩
      have hlt' : (m : Int) < (l.length : Int) := by omega
      have hP := hg.only hO.toS
      have e0 : wr.cell? ⟨g, m * 8, none⟩ = some (.int .i64 x.1.k) := hP.cell hx (j := 0) (by omega)
      have e1 : wr.cell? ⟨g, m * 8 + 1, none⟩ = some (.int .u64 x.1.x0) := hP.cell hx (j := 1) (by omega)
      have e2 : wr.cell? ⟨g, m * 8 + 2, none⟩ = some (.int .u64 x.1.x1) := hP.cell hx (j := 2) (by omega)
      have e3 : wr.cell? ⟨g, m * 8 + 3, none⟩ = some (.int .u64 x.1.x2) := hP.cell hx (j := 3) (by omega)
      have e4 : wr.cell? ⟨g, m * 8 + 4, none⟩ = some (.int .u64 x.1.x3) := hP.cell hx (j := 4) (by omega)
      have e5 : wr.cell? ⟨g, m * 8 + 5, none⟩ = some (.slice x.1.pa x.1.pn x.1.pc) := hP.cell hx (j := 5) (by omega)
      have e6 : wr.cell? ⟨g, m * 8 + 6, none⟩ = some (.bool x.1.no) := hP.cell hx (j := 6) (by omega)
      have e7 : wr.cell? ⟨g, m * 8 + 7, none⟩ = some (.bool x.1.ag) := hP.cell hx (j := 7) (by omega)
      have HSU := hid (sumTo_succ hx)
      have hsm2 := sumTo_le l (m + 1)
      have HCx := hid (hC x (List.mem_of_getElem? hx))
      have HX := hid hx
      clear hx hP hC
      have hszr := hBr.size
      go_wp2_with fail
      refine (HCx.out _ (hO.alloc _)).mono ?_
      rintro e w2 ⟨rfl, hB2⟩
      have hBx : Below w.heap.size w w2 := (hBr.alloc (by omega) _).trans (hB2.mono (by simp; omega))
      have hs1 : (sumTo l m : Int) + (x.2.sz : Int) ≤ 100000 := by have := HSU.out; omega
      go_wp2_with fail
      go_roundg (gk - 1)
      case measure => omega
      case rel => exact ⟨m + 1, by omega, by go_num, by have := HSU.out; rw [this]; go_num, hBx⟩
    · have hme : m = l.length := by omega
      subst hme
      rw [sumTo_all]
      go_wp2_with fail
      go_ret
      exact ⟨rfl, hBr⟩

set_option maxHeartbeats 4000000 in
theorem count_one (x0 x1 x2 x3 : Int) (w : World) :
    Calls Try.prog 7 #[.agg #[.int .i64 0, .int .u64 x0, .int .u64 x1, .int .u64 x2, .int .u64 x3, .slice none 0 0, .bool false, .bool false]] w fun e w' => e = .returned (.int .i64 1) ∧ Below w.heap.size w w' := by
  go_enter Try.func7, Try.ntmps7
  go_wp2_with fail
  refine (own_any _ _ _ _ _ _ _ _ _ _ _ (by omega)).mono ?_
  rintro e w1 ⟨rfl, hB1⟩
  have hb0 : w1.heap[w.heap.size]? = some (.cells #[.int .i64 0, .int .u64 x0, .int .u64 x1, .int .u64 x2, .int .u64 x3, .slice none 0 0, .bool false, .bool false] 38 (0, 0)) := (hB1.block _ (by simp)).trans (heap_alloc_at _ _)
  have c5 : w1.cell? ⟨w.heap.size, 5, none⟩ = some (.slice none 0 0) := by simp [World.cell?, hb0]
  have hB : Below w.heap.size w w1 := ((Below.refl _ _).alloc (Nat.le_refl _) _).trans (hB1.mono (by simp))
  clear hB1
  go_wp2_with fail
  go_loopg [3, 11] 1 (fun gk cnt ix wr => gk = 1 ∧ ix = .int .i64 0 ∧ cnt = .int .i64 1 ∧ wr = w1)
  case atStart => exact ⟨rfl, rfl, rfl, rfl⟩
  case round =>
    obtain ⟨rfl, rfl, rfl, rfl⟩ := hrel
    go_wp2_with fail
    go_ret
    exact ⟨rfl, hB⟩

theorem sum_mem {l : List (Nd × P.T)} {x : Nd × P.T} (h : x ∈ l) : x.2.sz ≤ sumSz l := by
  unfold sumSz
  induction l with
  | nil => cases h
  | cons y ys ih =>
    rcases List.mem_cons.1 h with rfl | h
    · simp
    · have := ih h; simp; omega

/-- Count of a node in memory: the nodes that the document counts. -/
theorem count_any (w0 : World) (b : Nat) {d : Nd} {t : P.T} (h : PN w0 (· = b) d t) : t.sz ≤ 1000 → ∀ w, Only b w0 w → Calls Try.prog 7 #[d.val] w fun e w' => e = .returned (.int .i64 (t.sz : Int)) ∧ Below w.heap.size w w' := by
  induction h with
  | one x0 x1 x2 x3 => intro _ w _; exact count_one x0 x1 x2 x3 w
  | @rep g c d t no ag hg h ih =>
    intro hs w hw
    have hs' : t.sz + 1 ≤ 1000 := hs
    have hC : PartsC w0 b [(d, t)] := by
      intro x hx w hw
      rw [List.mem_singleton] at hx; subst hx
      exact ih (by omega) w hw
    refine (count_parts w0 b g c [(d, t)] 3 no ag hg hC (by simp) (by simp [sumSz]; omega) (by simp [ownN]) (by simp [ownN]) w hw).mono ?_
    rintro e w' ⟨rfl, hB⟩
    exact ⟨ret_int (by simp [ownN, sumSz]; omega), hB⟩
  | @row g c l hg hn h ih =>
    intro hs w hw
    have hs' : sumSz l ≤ 1000 := hs
    have hC : PartsC w0 b l := fun x hx w hw => ih x hx (Nat.le_trans (sum_mem hx) hs') w hw
    refine (count_parts w0 b g c l 1 false false hg hC hn (by omega) (by simp [ownN]) (by simp [ownN]) w hw).mono ?_
    rintro e w' ⟨rfl, hB⟩
    exact ⟨ret_int (by simp [ownN]), hB⟩
  | @alt g c l hg hl hn h ih =>
    intro hs w hw
    have hs' : sumSz l + (l.length - 1) ≤ 1000 := hs
    have hpos : 0 < l.length := List.length_pos_iff.2 hl
    have hC : PartsC w0 b l := fun x hx w hw => ih x hx (by have := sum_mem hx; omega) w hw
    refine (count_parts w0 b g c l 2 false false hg hC hn (by omega) (by unfold ownN; rw [if_neg (by decide), if_pos rfl]; omega) (by unfold ownN; rw [if_neg (by decide), if_pos rfl]; omega) w hw).mono ?_
    rintro e w' ⟨rfl, hB⟩
    exact ⟨ret_int (by unfold ownN; rw [if_neg (by decide), if_pos rfl]; show _ = ((sumSz l + (l.length - 1) : Nat) : Int); omega), hB⟩
end Go.Proofs.Ytjhmlcilabnlbaa
