/- The program: atoms of one set of bytes. -/
import Derived.Test.YtjhmlcilabnlbaaProgJ
namespace Go.Proofs.Ytjhmlcilabnlbaa
open Go.RowKit

/-- What a call that hands back a node comes to: all of its parts are new. -/
def NodeF (r : P.PR P.T) (w' : World) (n : Nat) (d : Nd) (i : Nat) (k : Bool) : Prop :=
  match r with
  | .ok t j => k = true ∧ i = j ∧ PN w' (· < n) d t
  | .bad p => k = false ∧ i = p
  | .out => False
def OutD (s : ByteArray) (b o : Nat) (r : P.PR P.T) (w : World) (e : Ending) (w' : World) : Prop :=
  ∃ (d : Nd) (i' o' : Nat) (k : Bool), e = .returned (.tuple #[d.val, .bool k]) ∧ QB w' b s i' o' ∧ (k = true → o' = o) ∧ Only b w w' ∧ i' ≤ s.size ∧ NodeF r w' w.heap.size d i' k

/-- A node's block. -/
def DB (w : World) (g : Nat) (d : Nd) : Prop := w.heap[g]? = some (.cells #[.int .i64 d.k, .int .u64 d.x0, .int .u64 d.x1, .int .u64 d.x2, .int .u64 d.x3, .slice d.pa d.pn d.pc, .bool d.no, .bool d.ag] 38 (0, 0))
theorem DB.c0 {w : World} {g : Nat} {d : Nd} (h : DB w g d) : w.cell? ⟨g, 0, none⟩ = some (.int .i64 d.k) := by simp [World.cell?, show w.heap[g]? = _ from h]
theorem DB.c1 {w : World} {g : Nat} {d : Nd} (h : DB w g d) : w.cell? ⟨g, 1, none⟩ = some (.int .u64 d.x0) := by simp [World.cell?, show w.heap[g]? = _ from h]
theorem DB.c2 {w : World} {g : Nat} {d : Nd} (h : DB w g d) : w.cell? ⟨g, 2, none⟩ = some (.int .u64 d.x1) := by simp [World.cell?, show w.heap[g]? = _ from h]
theorem DB.c3 {w : World} {g : Nat} {d : Nd} (h : DB w g d) : w.cell? ⟨g, 3, none⟩ = some (.int .u64 d.x2) := by simp [World.cell?, show w.heap[g]? = _ from h]
theorem DB.c4 {w : World} {g : Nat} {d : Nd} (h : DB w g d) : w.cell? ⟨g, 4, none⟩ = some (.int .u64 d.x3) := by simp [World.cell?, show w.heap[g]? = _ from h]
theorem DB.c5 {w : World} {g : Nat} {d : Nd} (h : DB w g d) : w.cell? ⟨g, 5, none⟩ = some (.slice d.pa d.pn d.pc) := by simp [World.cell?, show w.heap[g]? = _ from h]
theorem DB.c6 {w : World} {g : Nat} {d : Nd} (h : DB w g d) : w.cell? ⟨g, 6, none⟩ = some (.bool d.no) := by simp [World.cell?, show w.heap[g]? = _ from h]
theorem DB.c7 {w : World} {g : Nat} {d : Nd} (h : DB w g d) : w.cell? ⟨g, 7, none⟩ = some (.bool d.ag) := by simp [World.cell?, show w.heap[g]? = _ from h]
theorem DB.fz {w : World} {g : Nat} {d : Nd} (h : DB w g d) (k : Nat) : w.frozen? ⟨g, k, none⟩ = false := by simp [World.frozen?, show w.heap[g]? = _ from h]
theorem DB.put4 {w : World} {g g' : Nat} {d : Nd} (h : DB w g d) (hg : g ≠ g') (x0 x1 x2 x3 : Value) : DB ((((w.setCell ⟨g', 0, none⟩ x0).setCell ⟨g', 1, none⟩ x1).setCell ⟨g', 2, none⟩ x2).setCell ⟨g', 3, none⟩ x3) g d :=
  (Below.heap_setCell _ _ _ _ hg).trans ((Below.heap_setCell _ _ _ _ hg).trans ((Below.heap_setCell _ _ _ _ hg).trans ((Below.heap_setCell _ _ _ _ hg).trans h)))
def nd0 : Nd := ⟨0, 0, 0, 0, 0, none, 0, 0, false, false⟩

/-- A node stored over a node's block. -/
abbrev put8 (w : World) (g : Nat) (d : Nd) : World := ((((((((w.setCell ⟨g, 0, none⟩ (.int .i64 d.k)).setCell ⟨g, 1, none⟩ (.int .u64 d.x0)).setCell ⟨g, 2, none⟩ (.int .u64 d.x1)).setCell ⟨g, 3, none⟩ (.int .u64 d.x2)).setCell ⟨g, 4, none⟩ (.int .u64 d.x3)).setCell ⟨g, 5, none⟩ (.slice d.pa d.pn d.pc)).setCell ⟨g, 6, none⟩ (.bool d.no)).setCell ⟨g, 7, none⟩ (.bool d.ag))
theorem c8set0 {w : World} {g : Nat} {v0 v1 v2 v3 v4 v5 v6 v7 : Value} (h : w.heap[g]? = some (.cells #[v0, v1, v2, v3, v4, v5, v6, v7] 38 (0, 0))) (u : Value) : (w.setCell ⟨g, 0, none⟩ u).heap[g]? = some (.cells #[u, v1, v2, v3, v4, v5, v6, v7] 38 (0, 0)) := heap_setCell_same (a := ⟨g, 0, none⟩) h rfl u
theorem c8set1 {w : World} {g : Nat} {v0 v1 v2 v3 v4 v5 v6 v7 : Value} (h : w.heap[g]? = some (.cells #[v0, v1, v2, v3, v4, v5, v6, v7] 38 (0, 0))) (u : Value) : (w.setCell ⟨g, 1, none⟩ u).heap[g]? = some (.cells #[v0, u, v2, v3, v4, v5, v6, v7] 38 (0, 0)) := heap_setCell_same (a := ⟨g, 1, none⟩) h rfl u
theorem c8set2 {w : World} {g : Nat} {v0 v1 v2 v3 v4 v5 v6 v7 : Value} (h : w.heap[g]? = some (.cells #[v0, v1, v2, v3, v4, v5, v6, v7] 38 (0, 0))) (u : Value) : (w.setCell ⟨g, 2, none⟩ u).heap[g]? = some (.cells #[v0, v1, u, v3, v4, v5, v6, v7] 38 (0, 0)) := heap_setCell_same (a := ⟨g, 2, none⟩) h rfl u
theorem c8set3 {w : World} {g : Nat} {v0 v1 v2 v3 v4 v5 v6 v7 : Value} (h : w.heap[g]? = some (.cells #[v0, v1, v2, v3, v4, v5, v6, v7] 38 (0, 0))) (u : Value) : (w.setCell ⟨g, 3, none⟩ u).heap[g]? = some (.cells #[v0, v1, v2, u, v4, v5, v6, v7] 38 (0, 0)) := heap_setCell_same (a := ⟨g, 3, none⟩) h rfl u
theorem c8set4 {w : World} {g : Nat} {v0 v1 v2 v3 v4 v5 v6 v7 : Value} (h : w.heap[g]? = some (.cells #[v0, v1, v2, v3, v4, v5, v6, v7] 38 (0, 0))) (u : Value) : (w.setCell ⟨g, 4, none⟩ u).heap[g]? = some (.cells #[v0, v1, v2, v3, u, v5, v6, v7] 38 (0, 0)) := heap_setCell_same (a := ⟨g, 4, none⟩) h rfl u
theorem c8set5 {w : World} {g : Nat} {v0 v1 v2 v3 v4 v5 v6 v7 : Value} (h : w.heap[g]? = some (.cells #[v0, v1, v2, v3, v4, v5, v6, v7] 38 (0, 0))) (u : Value) : (w.setCell ⟨g, 5, none⟩ u).heap[g]? = some (.cells #[v0, v1, v2, v3, v4, u, v6, v7] 38 (0, 0)) := heap_setCell_same (a := ⟨g, 5, none⟩) h rfl u
theorem c8set6 {w : World} {g : Nat} {v0 v1 v2 v3 v4 v5 v6 v7 : Value} (h : w.heap[g]? = some (.cells #[v0, v1, v2, v3, v4, v5, v6, v7] 38 (0, 0))) (u : Value) : (w.setCell ⟨g, 6, none⟩ u).heap[g]? = some (.cells #[v0, v1, v2, v3, v4, v5, u, v7] 38 (0, 0)) := heap_setCell_same (a := ⟨g, 6, none⟩) h rfl u
theorem c8set7 {w : World} {g : Nat} {v0 v1 v2 v3 v4 v5 v6 v7 : Value} (h : w.heap[g]? = some (.cells #[v0, v1, v2, v3, v4, v5, v6, v7] 38 (0, 0))) (u : Value) : (w.setCell ⟨g, 7, none⟩ u).heap[g]? = some (.cells #[v0, v1, v2, v3, v4, v5, v6, u] 38 (0, 0)) := heap_setCell_same (a := ⟨g, 7, none⟩) h rfl u
theorem DB.put8 {w : World} {g : Nat} {c : Nd} (h : DB w g c) (d : Nd) : DB (put8 w g d) g d :=
  (c8set7 (c8set6 (c8set5 (c8set4 (c8set3 (c8set2 (c8set1 (c8set0 h _) _) _) _) _) _) _) _)
theorem heap_put8 {w : World} {g k : Nat} (d : Nd) (hk : k ≠ g) : (put8 w g d).heap[k]? = w.heap[k]? :=
  ((Below.heap_setCell _ _ _ _ hk).trans ((Below.heap_setCell _ _ _ _ hk).trans ((Below.heap_setCell _ _ _ _ hk).trans ((Below.heap_setCell _ _ _ _ hk).trans ((Below.heap_setCell _ _ _ _ hk).trans ((Below.heap_setCell _ _ _ _ hk).trans ((Below.heap_setCell _ _ _ _ hk).trans (Below.heap_setCell _ _ _ _ hk))))))))
theorem Only.put8 {x w : World} {b g : Nat} (h : Only b x w) (hg : x.heap.size ≤ g) (d : Nd) : Only b x (put8 w g d) :=
  ((((((((h.new (p := ⟨g, 0, none⟩) hg _).new (p := ⟨g, 1, none⟩) hg _).new (p := ⟨g, 2, none⟩) hg _).new (p := ⟨g, 3, none⟩) hg _).new (p := ⟨g, 4, none⟩) hg _).new (p := ⟨g, 5, none⟩) hg _).new (p := ⟨g, 6, none⟩) hg _).new (p := ⟨g, 7, none⟩) hg _)

set_option maxHeartbeats 4000000 in
theorem patom_cls (F b : Nat) (s : ByteArray) (i o : Nat) (w : World) (hs : s.size ≤ 400) (hR : QB w b s i o) (hc : P.bt s i = 91) (hP : P.cls s F (i + 1) ≠ .out) :
    Calls Try.prog 38 #[.pointer (some ⟨b, 0, none⟩)] w fun e w' => OutD s b o (P.atom s (F + 1) o i) w e w' := by
  have hlt := hR.lt
  have hl := lt_of_bt (s := s) (i := i) (by omega)
  have HA : Hid (P.atom s (F + 1) o i = (P.cls s F (i + 1)).bind fun _ j => .ok ⟨1, false⟩ j) := by
    unfold Hid P.atom P.leafAt; simp only [hc]; rfl
  have b1 : (pk s i == 40) = false := by rw [pk_eq (by omega), hc]; rfl
  have b2 : (pk s i == 91) = true := by rw [pk_eq (by omega), hc]; rfl
  have HP := hid hP
  clear hc hP
  have hQ0 : QB ((w.alloc (.cells #[.int .i64 0, .int .u64 0, .int .u64 0, .int .u64 0, .int .u64 0, .slice none 0 0, .bool false, .bool false] 38)).alloc (.cells #[.int .u64 0, .int .u64 0, .int .u64 0, .int .u64 0] 35)) b s i o := heap_alloc_old (heap_alloc_old hR hlt) (by simp; omega)
  go_enter Try.func38, Try.ntmps38
  go_wp2_with fail
  refine (peek_any _ _ _ _ _ hQ0).mono ?_
  rintro e w1 ⟨rfl, n1, rfl⟩
  go_wp2_with fail
  refine (brackets_any F _ _ _ _ _ hs (hQ0.drewN _) hl HP.out).mono ?_
  rintro e w2 ⟨a0, a1, a2, a3, i2, k2, rfl, hR2, hO2, hi2, hf2⟩
  have hw2 := hO2.size
  have hS2 : SB w2 (w.heap.size + 1) 0 0 0 0 := by
    refine (hO2.block _ (by simp) (by omega)).trans ?_
    have := heap_alloc_at (w.alloc (.cells #[.int .i64 0, .int .u64 0, .int .u64 0, .int .u64 0, .int .u64 0, .slice none 0 0, .bool false, .bool false] 38)) (.cells #[.int .u64 0, .int .u64 0, .int .u64 0, .int .u64 0] 35)
    rw [show (w.alloc (.cells #[.int .i64 0, .int .u64 0, .int .u64 0, .int .u64 0, .int .u64 0, .slice none 0 0, .bool false, .bool false] 38)).heap.size = w.heap.size + 1 from by simp] at this
    exact this
  have hD2 : DB w2 w.heap.size nd0 := (hO2.block _ (by simp; omega) (by omega)).trans (heap_alloc_old (heap_alloc_at _ _) (by simp))
  have s0 := hS2.c0
  have s1 := hS2.c1
  have s2 := hS2.c2
  have s3 := hS2.c3
  have sf := hS2.fz
  have hD3 := hD2.put4 (g' := w.heap.size + 1) (by omega) (.int .u64 a0) (.int .u64 a1) (.int .u64 a2) (.int .u64 a3)
  have d0 := hD3.c0
  have d1 := hD3.c1
  have d2 := hD3.c2
  have d3 := hD3.c3
  have d4 := hD3.c4
  have d5 := hD3.c5
  have d6 := hD3.c6
  have d7 := hD3.c7
  have df := hD3.fz
  have HF := hid hf2
  clear hf2
  have hD4 := hD3.put8 ⟨0, a0, a1, a2, a3, none, 0, 0, false, false⟩
  have r0 := hD4.c0
  have r1 := hD4.c1
  have r2 := hD4.c2
  have r3 := hD4.c3
  have r4 := hD4.c4
  have r5 := hD4.c5
  have r6 := hD4.c6
  have r7 := hD4.c7
  have hR4 := (heap_put8 ⟨0, a0, a1, a2, a3, none, 0, 0, false, false⟩ (show b ≠ w.heap.size by omega)).trans (hR2.put4 (g := w.heap.size + 1) (by omega) (.int .u64 a0) (.int .u64 a1) (.int .u64 a2) (.int .u64 a3))
  have hO3 : Only b w w2 := ((((Only.refl _ _).alloc _).alloc _).drewN _).trans hO2
  have hO4 := (hO3.put4 (g := w.heap.size + 1) (by omega) (.int .u64 a0) (.int .u64 a1) (.int .u64 a2) (.int .u64 a3)).put8 (g := w.heap.size) (Nat.le_refl _) ⟨0, a0, a1, a2, a3, none, 0, 0, false, false⟩
  clear hD4
  have HR4 := hid hR4
  have HO4 := hid hO4
  clear hR4 hO4
  go_wp2_with fail
  refine bodyPost_ret (v := .tuple #[.agg #[.int .i64 0, .int .u64 a0, .int .u64 a1, .int .u64 a2, .int .u64 a3, .slice none 0 0, .bool false, .bool false], .bool k2]) (by simp [results, Try.results38, go_sem, r0, r1, r2, r3, r4, r5, r6, r7]) rfl ⟨⟨0, a0, a1, a2, a3, none, 0, 0, false, false⟩, i2, o, k2, rfl, HR4.out, fun _ => rfl, HO4.out, hi2, ?_⟩
  rw [HA.out]
  have h := HF.out
  cases hx : P.cls s F (i + 1) with
  | out => rw [hx] at h; exact h.elim
  | bad p => rw [hx] at h; exact h
  | ok u j => rw [hx] at h; exact ⟨h.1, h.2, .one _ _ _ _⟩

set_option maxHeartbeats 4000000 in
theorem patom_single (F b : Nat) (s : ByteArray) (i o : Nat) (w : World) (hs : s.size ≤ 400) (hR : QB w b s i o) (hi : i ≤ s.size) (h40 : P.bt s i ≠ 40) (h91 : P.bt s i ≠ 91) (h46 : P.bt s i ≠ 46) :
    Calls Try.prog 38 #[.pointer (some ⟨b, 0, none⟩)] w fun e w' => OutD s b o (P.atom s (F + 1) o i) w e w' := by
  have hlt := hR.lt
  have HA : Hid (P.atom s (F + 1) o i = (singleP ⟨#[92, 46, 91, 93, 40, 41, 42, 43, 63, 124]⟩ s i).bind fun _ j => .ok ⟨1, false⟩ j) := by
    have hp := pk_range s i
    unfold Hid P.atom P.leafAt singleP
    simp only [if_neg h40, if_neg h91, if_neg h46]
    by_cases h92 : P.bt s i = 92
    · simp only [if_pos h92]; cases P.esc s (i + 1) <;> rfl
    · simp only [if_neg h92, plain_row hp.1 hp.2]
      by_cases hn : P.bt s i < 0
      · have e : pk s i = 0 := by unfold pk; rw [if_pos hn]
        have e2 : P.bt s i = -1 := by have := bt_range s i; omega
        rw [e, e2]; rfl
      · have e : pk s i = P.bt s i := by unfold pk; rw [if_neg hn]
        rw [e]; cases P.plain (P.bt s i) <;> rfl
  have b1 : (pk s i == 40) = false := by rw [pk_eq (by omega)]; exact beq_false_of_ne h40
  have b2 : (pk s i == 91) = false := by rw [pk_eq (by omega)]; exact beq_false_of_ne h91
  have b3 : (pk s i == 46) = false := by rw [pk_eq (by omega)]; exact beq_false_of_ne h46
  clear h40 h91 h46
  have hQ0 : QB ((w.alloc (.cells #[.int .i64 0, .int .u64 0, .int .u64 0, .int .u64 0, .int .u64 0, .slice none 0 0, .bool false, .bool false] 38)).alloc (.cells #[.int .u64 0, .int .u64 0, .int .u64 0, .int .u64 0] 35)) b s i o := heap_alloc_old (heap_alloc_old hR hlt) (by simp; omega)
  go_enter Try.func38, Try.ntmps38
  go_wp2_with fail
  refine (peek_any _ _ _ _ _ hQ0).mono ?_
  rintro e w1 ⟨rfl, n1, rfl⟩
  go_wp2_with fail
  refine (single_any _ _ _ _ _ _ hs (hQ0.drewN _) hi).mono ?_
  rintro e w1 ⟨v, i2, k2, rfl, hR1, hO1, hv0, hv1, hi2, hf2⟩
  go_wp2_with fail
  refine (span_any v v _ hv0 (by omega) hv1).mono ?_
  rintro e w2 ⟨a0, a1, a2, a3, rfl, hW2, hB2⟩
  have hO2 : Only b (((w.alloc (.cells #[.int .i64 0, .int .u64 0, .int .u64 0, .int .u64 0, .int .u64 0, .slice none 0 0, .bool false, .bool false] 38)).alloc (.cells #[.int .u64 0, .int .u64 0, .int .u64 0, .int .u64 0] 35)).drewN n1) w2 := hO1.trans (Only.ofBelow hB2)
  have hR2 : QB w2 b s i2 o := (hB2.block b hR1.lt).trans hR1
  have hw2 := hO2.size
  clear hW2
  have hS2 : SB w2 (w.heap.size + 1) 0 0 0 0 := by
    refine (hO2.block _ (by simp) (by omega)).trans ?_
    have := heap_alloc_at (w.alloc (.cells #[.int .i64 0, .int .u64 0, .int .u64 0, .int .u64 0, .int .u64 0, .slice none 0 0, .bool false, .bool false] 38)) (.cells #[.int .u64 0, .int .u64 0, .int .u64 0, .int .u64 0] 35)
    rw [show (w.alloc (.cells #[.int .i64 0, .int .u64 0, .int .u64 0, .int .u64 0, .int .u64 0, .slice none 0 0, .bool false, .bool false] 38)).heap.size = w.heap.size + 1 from by simp] at this
    exact this
  have hD2 : DB w2 w.heap.size nd0 := (hO2.block _ (by simp; omega) (by omega)).trans (heap_alloc_old (heap_alloc_at _ _) (by simp))
  have s0 := hS2.c0
  have s1 := hS2.c1
  have s2 := hS2.c2
  have s3 := hS2.c3
  have sf := hS2.fz
  have hD3 := hD2.put4 (g' := w.heap.size + 1) (by omega) (.int .u64 a0) (.int .u64 a1) (.int .u64 a2) (.int .u64 a3)
  have d0 := hD3.c0
  have d1 := hD3.c1
  have d2 := hD3.c2
  have d3 := hD3.c3
  have d4 := hD3.c4
  have d5 := hD3.c5
  have d6 := hD3.c6
  have d7 := hD3.c7
  have df := hD3.fz
  have HF := hid hf2
  clear hf2
  have hD4 := hD3.put8 ⟨0, a0, a1, a2, a3, none, 0, 0, false, false⟩
  have r0 := hD4.c0
  have r1 := hD4.c1
  have r2 := hD4.c2
  have r3 := hD4.c3
  have r4 := hD4.c4
  have r5 := hD4.c5
  have r6 := hD4.c6
  have r7 := hD4.c7
  have hR4 := (heap_put8 ⟨0, a0, a1, a2, a3, none, 0, 0, false, false⟩ (show b ≠ w.heap.size by omega)).trans (hR2.put4 (g := w.heap.size + 1) (by omega) (.int .u64 a0) (.int .u64 a1) (.int .u64 a2) (.int .u64 a3))
  have hO3 : Only b w w2 := ((((Only.refl _ _).alloc _).alloc _).drewN _).trans hO2
  have hO4 := (hO3.put4 (g := w.heap.size + 1) (by omega) (.int .u64 a0) (.int .u64 a1) (.int .u64 a2) (.int .u64 a3)).put8 (g := w.heap.size) (Nat.le_refl _) ⟨0, a0, a1, a2, a3, none, 0, 0, false, false⟩
  clear hD4
  have HR4 := hid hR4
  have HO4 := hid hO4
  clear hR4 hO4
  go_wp2_with fail
  refine bodyPost_ret (v := .tuple #[.agg #[.int .i64 0, .int .u64 a0, .int .u64 a1, .int .u64 a2, .int .u64 a3, .slice none 0 0, .bool false, .bool false], .bool k2]) (by simp [results, Try.results38, go_sem, r0, r1, r2, r3, r4, r5, r6, r7]) rfl ⟨⟨0, a0, a1, a2, a3, none, 0, 0, false, false⟩, i2, o, k2, rfl, HR4.out, fun _ => rfl, HO4.out, hi2, ?_⟩
  rw [HA.out]
  have h := HF.out
  cases hx : singleP ⟨#[92, 46, 91, 93, 40, 41, 42, 43, 63, 124]⟩ s i with
  | out => rw [hx] at h; exact h.elim
  | bad p => rw [hx] at h; exact h
  | ok u j => rw [hx] at h; exact ⟨h.1, h.2.2, .one _ _ _ _⟩
end Go.Proofs.Ytjhmlcilabnlbaa
