import Derived.Laws.MakeOwn
import Derived.Test.YtjhmlcilabnlbaaDoorPart4
import Derived.Test.YtjhmlcilabnlbaaDoorPart2
/- States: Step. -/
namespace Go.Proofs.YtjhmlcilabnlbaaDoor
open Go.RowKit Go.Shelf

attribute [local go_sem] Oper.semAt_some

/-- A row: of each byte nothing, or where it leads. -/
def RowIn (w : World) (r : Nat) (D : PlD) (a : S2) : Prop :=
  ∃ cs : Array Value, w.heap[r]? = some (.cells cs 130 (0, 0)) ∧ cs.size = 512 ∧ ∀ b, b < 256 → ∃ z : S2, cs[b * 2]? = some (.int .u64 (z.1 : Int)) ∧ cs[b * 2 + 1]? = some (.int .u64 (z.2 : Int)) ∧ (z = (0, 0) ∨ z = stepN D a.1 b)
theorem RowIn.lt {w : World} {r : Nat} {D : PlD} {a : S2} (h : RowIn w r D a) : r < w.heap.size := by
  obtain ⟨cs, hc, -⟩ := h
  exact (Array.getElem?_eq_some_iff.1 hc).1
theorem RowIn.keep {w w' : World} {r : Nat} {D : PlD} {a : S2} (h : RowIn w r D a) (k : w'.heap[r]? = w.heap[r]?) : RowIn w' r D a := by
  obtain ⟨cs, hc, h2⟩ := h
  exact ⟨cs, k.trans hc, h2⟩
theorem zero130 : Tryd.zeroCells130.toList = List.replicate 512 (.int .u64 0) := by kernel_rfl
theorem RowZ.row {w : World} {r : Nat} (h : RowZ w r) (D : PlD) (a : S2) : RowIn w r D a := by
  have g : ∀ j : Nat, j < 512 → Tryd.zeroCells130[j]? = some (.int .u64 0) := fun j hj => by rw [← Array.getElem?_toList, zero130, List.getElem?_replicate, if_pos hj]
  refine ⟨Tryd.zeroCells130, h, by rw [← Array.length_toList, zero130, List.length_replicate], fun b hb => ⟨(0, 0), g _ (by omega), g _ (by omega), Or.inl rfl⟩⟩
theorem RowIn.cells {w : World} {r : Nat} {D : PlD} {a : S2} (h : RowIn w r D a) {b : Nat} (hb : b < 256) : ∃ z : S2, w.cell? ⟨r, b * 2, none⟩ = some (.int .u64 (z.1 : Int)) ∧ w.cell? ⟨r, b * 2 + 1, none⟩ = some (.int .u64 (z.2 : Int)) ∧ (z = (0, 0) ∨ z = stepN D a.1 b) := by
  obtain ⟨cs, hc, -, h3⟩ := h
  obtain ⟨z, z0, z1, hz⟩ := h3 b hb
  exact ⟨z, by simp [World.cell?, hc, z0], by simp [World.cell?, hc, z1], hz⟩
theorem RowIn.fz {w : World} {r : Nat} {D : PlD} {a : S2} (h : RowIn w r D a) (k : Nat) : w.frozen? ⟨r, k, none⟩ = false := by
  obtain ⟨cs, hc, -⟩ := h
  simp [World.frozen?, hc]
theorem RowIn.put {w : World} {r : Nat} {D : PlD} {a : S2} (h : RowIn w r D a) {b : Nat} (hb : b < 256) : RowIn ((w.setCell ⟨r, b * 2, none⟩ (.int .u64 ((stepN D a.1 b).1 : Int))).setCell ⟨r, b * 2 + 1, none⟩ (.int .u64 ((stepN D a.1 b).2 : Int))) r D a := by
  obtain ⟨cs, hc, h2, h3⟩ := h
  refine ⟨(cs.setIfInBounds (b * 2) (.int .u64 ((stepN D a.1 b).1 : Int))).setIfInBounds (b * 2 + 1) (.int .u64 ((stepN D a.1 b).2 : Int)), hset (hset hc _) _, by simpa using h2, fun c hc' => ?_⟩
  by_cases e : c = b
  · subst e
    refine ⟨stepN D a.1 c, ?_, ?_, Or.inr rfl⟩
    · rw [Array.getElem?_setIfInBounds_ne (by omega), Array.getElem?_setIfInBounds_self_of_lt (by omega)]
    · rw [Array.getElem?_setIfInBounds_self_of_lt (by simp; omega)]
  · obtain ⟨z, z0, z1, hz⟩ := h3 c hc'
    refine ⟨z, ?_, ?_, hz⟩
    · rw [Array.getElem?_setIfInBounds_ne (by omega), Array.getElem?_setIfInBounds_ne (by omega)]; exact z0
    · rw [Array.getElem?_setIfInBounds_ne (by omega), Array.getElem?_setIfInBounds_ne (by omega)]; exact z1
theorem PlanAt.up {B B' : Nat} {w : World} {p : Nat} {D : PlD} (h : PlanAt B w p D) (hB : B ≤ B') : PlanAt B' w p D := by
  obtain ⟨a1, a2, a3, a4, a5⟩ := h
  obtain ⟨g1, c1, e1, l1, m1, s1⟩ := a2
  obtain ⟨g2, c2, e2, l2, m2, s2⟩ := a3
  exact ⟨by omega, ⟨g1, c1, e1, by omega, m1, s1⟩, ⟨g2, c2, e2, by omega, m2, s2⟩, a4, a5⟩

/-- The table's blocks. -/
def tbS (t mb : Nat) (l : List (S2 × Nat)) : Nat → Prop := fun k => k = t ∨ k = mb ∨ ∃ x, x ∈ l ∧ x.2 = k
/-- A table in memory; what it lies above. -/
structure TblI (B : Nat) (w : World) (t p room : Nat) (D : PlD) (dn s1 : Int) (f : S2) (s2 : Int) (mb : Nat) (l : List (S2 × Nat)) : Prop where
  tb : TB w t p room dn s1 f s2 mb
  mp : MapAt w mb l
  rw' : ∀ x, x ∈ l → RowIn w x.2 D x.1
  gt : B ≤ t
  gm : B ≤ mb
  gr : ∀ x, x ∈ l → B ≤ x.2
  tm : t ≠ mb
  rt : ∀ x, x ∈ l → x.2 ≠ t ∧ x.2 ≠ mb
  nd : l.Pairwise (fun x y => x.2 ≠ y.2)
  cap : l.length ≤ room
  pl : PlanAt B w p D
theorem TblI.keep {B : Nat} {w w' : World} {t p room : Nat} {D : PlD} {dn s1 : Int} {f : S2} {s2 : Int} {mb : Nat} {l : List (S2 × Nat)} (h : TblI B w t p room D dn s1 f s2 mb l) (k : ∀ j, tbS t mb l j → w'.heap[j]? = w.heap[j]?) (hB : Below B w w') : TblI B w' t p room D dn s1 f s2 mb l :=
  ⟨(k t (Or.inl rfl)).trans h.tb, h.mp.keep (k mb (Or.inr (Or.inl rfl))), fun x hx => (h.rw' x hx).keep (k x.2 (Or.inr (Or.inr ⟨x, hx, rfl⟩))), h.gt, h.gm, h.gr, h.tm, h.rt, h.nd, h.cap, h.pl.below hB⟩
theorem TblI.ltS {B : Nat} {w : World} {t p room : Nat} {D : PlD} {dn s1 : Int} {f : S2} {s2 : Int} {mb : Nat} {l : List (S2 × Nat)} (h : TblI B w t p room D dn s1 f s2 mb l) {j : Nat} (hj : tbS t mb l j) : B ≤ j ∧ j < w.heap.size := by
  rcases hj with rfl | rfl | ⟨x, hx, rfl⟩
  · exact ⟨h.gt, h.tb.lt⟩
  · exact ⟨h.gm, h.mp.lt⟩
  · exact ⟨h.gr x hx, (h.rw' x hx).lt⟩
theorem TblI.below {B : Nat} {w w' : World} {t p room : Nat} {D : PlD} {dn s1 : Int} {f : S2} {s2 : Int} {mb : Nat} {l : List (S2 × Nat)} (h : TblI B w t p room D dn s1 f s2 mb l) (k : Below w.heap.size w w') : TblI B w' t p room D dn s1 f s2 mb l :=
  h.keep (fun _ hj => k.block _ (h.ltS hj).2) (k.mono (Nat.le_trans h.gt (Nat.le_of_lt h.tb.lt)))
/-- A word of the table's own block stored. -/
theorem TblI.word {B : Nat} {w : World} {t p room : Nat} {D : PlD} {dn s1 : Int} {f : S2} {s2 : Int} {mb : Nat} {l : List (S2 × Nat)} (h : TblI B w t p room D dn s1 f s2 mb l) (j : Nat) (v : Value) {dn' s1' : Int} {f' : S2} {s2' : Int} (hb : TB (w.setCell ⟨t, j, none⟩ v) t p room dn' s1' f' s2' mb) : TblI B (w.setCell ⟨t, j, none⟩ v) t p room D dn' s1' f' s2' mb l := by
  have o : ∀ k, k ≠ t → (w.setCell ⟨t, j, none⟩ v).heap[k]? = w.heap[k]? := fun k hk => Below.heap_setCell _ _ _ _ hk
  exact ⟨hb, h.mp.keep (o _ (fun e => h.tm e.symm)), fun x hx => (h.rw' x hx).keep (o _ (h.rt x hx).1), h.gt, h.gm, h.gr, h.tm, h.rt, h.nd, h.cap, h.pl.below ((Below.refl B w).setCell (p := ⟨t, j, none⟩) h.gt v)⟩
theorem TB.lock {w : World} {t p room : Nat} {dn s1 : Int} {f : S2} {s2 : Int} {mb : Nat} (h : TB w t p room dn s1 f s2 mb) (x : Int) : TB (w.setCell ⟨t, 7, none⟩ (.int .i32 x)) t p room dn s1 f x mb := hset h _
theorem TB.lockO {w : World} {t p room : Nat} {dn s1 : Int} {f : S2} {s2 : Int} {mb : Nat} (h : TB w t p room dn s1 f s2 mb) (x : Int) : TB (w.setCell ⟨t, 3, none⟩ (.int .i32 x)) t p room dn x f s2 mb := hset h _
theorem TB.done {w : World} {t p room : Nat} {dn s1 : Int} {f : S2} {s2 : Int} {mb : Nat} (h : TB w t p room dn s1 f s2 mb) (x : Int) : TB (w.setCell ⟨t, 2, none⟩ (.int .u32 x)) t p room x s1 f s2 mb := hset h _

theorem lookM_some {l : List (S2 × Nat)} {a : S2} {r : Nat} (h : lookM l a = some r) : ∃ x, x ∈ l ∧ x.1 = a ∧ x.2 = r := by
  unfold lookM at h
  cases hf : l.find? (fun x => decide (a = x.1)) with
  | none => rw [hf] at h; cases h
  | some x =>
    rw [hf] at h
    have h1 := List.find?_some hf
    exact ⟨x, List.mem_of_find?_eq_some hf, (of_decide_eq_true h1).symm, by simpa using h⟩
theorem apart_eq {l : List (S2 × Nat)} (h : l.Pairwise (fun x y => x.2 ≠ y.2)) {x y : S2 × Nat} (hx : x ∈ l) (hy : y ∈ l) (e : x.2 = y.2) : x = y := by
  induction l with
  | nil => cases hx
  | cons z zs ih =>
    obtain ⟨h1, h2⟩ := List.pairwise_cons.1 h
    rcases List.mem_cons.1 hx with hx1 | hx1
    · rcases List.mem_cons.1 hy with hy1 | hy1
      · rw [hx1, hy1]
      · rw [hx1] at e; exact absurd e (h1 y hy1)
    · rcases List.mem_cons.1 hy with hy1 | hy1
      · rw [hy1] at e; exact absurd e.symm (h1 x hx1)
      · exact ih h2 hx1 hy1
theorem TblI.row {B : Nat} {w : World} {t p room : Nat} {D : PlD} {dn s1 : Int} {f : S2} {s2 : Int} {mb : Nat} {l : List (S2 × Nat)} (h : TblI B w t p room D dn s1 f s2 mb l) {x : S2 × Nat} (hx : x ∈ l) {b : Nat} (hb : b < 256) :
    TblI B ((w.setCell ⟨x.2, b * 2, none⟩ (.int .u64 ((stepN D x.1.1 b).1 : Int))).setCell ⟨x.2, b * 2 + 1, none⟩ (.int .u64 ((stepN D x.1.1 b).2 : Int))) t p room D dn s1 f s2 mb l := by
  have o : ∀ k, k ≠ x.2 → ((w.setCell ⟨x.2, b * 2, none⟩ (.int .u64 ((stepN D x.1.1 b).1 : Int))).setCell ⟨x.2, b * 2 + 1, none⟩ (.int .u64 ((stepN D x.1.1 b).2 : Int))).heap[k]? = w.heap[k]? := fun k hk => (Below.heap_setCell _ _ _ _ hk).trans (Below.heap_setCell _ _ _ _ hk)
  refine ⟨(o t (fun e => (h.rt x hx).1 e.symm)).trans h.tb, h.mp.keep (o mb (fun e => (h.rt x hx).2 e.symm)), fun y hy => ?_, h.gt, h.gm, h.gr, h.tm, h.rt, h.nd, h.cap, h.pl.below (((Below.refl B w).setCell (p := ⟨x.2, b * 2, none⟩) (h.gr x hx) _).setCell (p := ⟨x.2, b * 2 + 1, none⟩) (h.gr x hx) _)⟩
  by_cases e : y.2 = x.2
  · have := apart_eq h.nd hy hx e
    subst this
    exact (h.rw' y hy).put hb
  · exact (h.rw' y hy).keep (o _ e)
theorem TblI.held {B : Nat} {w w' : World} {t p room : Nat} {D : PlD} {dn s1 : Int} {f : S2} {s2 : Int} {mb : Nat} {l : List (S2 × Nat)} (h : TblI B w t p room D dn s1 f s2 mb l) {a : S2} (ho : HoldO l a room mb w w') :
    ∃ l', TblI B w' t p room D dn s1 f s2 mb l' ∧ Turn (fun k => k = mb) w w' ∧ ∀ x, x ∈ l' → x ∈ l ∨ w.heap.size ≤ x.2 := by
  rcases ho with ⟨-, hm, hb⟩ | ⟨-, -, hlt, r, hr, hm, hz, ht⟩
  · exact ⟨l, h.below hb, Turn.ofBelow hb, fun x hx => Or.inl hx⟩
  · have o : ∀ k, k < w.heap.size → k ≠ mb → w'.heap[k]? = w.heap[k]? := fun k hk hne => ht.block k hk hne
    have hB : B ≤ w.heap.size := Nat.le_trans h.gt (Nat.le_of_lt h.tb.lt)
    refine ⟨l ++ [(a, r)], ⟨(o t h.tb.lt h.tm).trans h.tb, hm, ?_, h.gt, h.gm, ?_, h.tm, ?_, ?_, by simp; omega, h.pl.below (ht.toBelow hB (fun j hj e => by have := h.gm; omega))⟩, ht, ?_⟩
    · intro x hx
      rcases List.mem_append.1 hx with hx | hx
      · exact (h.rw' x hx).keep (o _ (h.rw' x hx).lt (h.rt x hx).2)
      · rw [List.mem_singleton] at hx; subst hx; exact hz.row D a
    · intro x hx
      rcases List.mem_append.1 hx with hx | hx
      · exact h.gr x hx
      · rw [List.mem_singleton] at hx; subst hx; show B ≤ r; omega
    · intro x hx
      rcases List.mem_append.1 hx with hx | hx
      · exact h.rt x hx
      · rw [List.mem_singleton] at hx; subst hx
        have h1 := h.tb.lt
        have h2 := h.mp.lt
        exact ⟨by show r ≠ t; omega, by show r ≠ mb; omega⟩
    · rw [List.pairwise_append]
      refine ⟨h.nd, List.pairwise_singleton _ _, fun x hx y hy => ?_⟩
      rw [List.mem_singleton] at hy; subst hy
      have := (h.rw' x hx).lt
      show x.2 ≠ r
      omega
    · intro x hx
      rcases List.mem_append.1 hx with hx | hx
      · exact Or.inl hx
      · rw [List.mem_singleton] at hx; subst hx; exact Or.inr hr

/-- What was put down since w lies in new blocks. -/
def Fresh (l l' : List (S2 × Nat)) (w : World) : Prop := ∀ x, x ∈ l' → x ∈ l ∨ w.heap.size ≤ x.2
/-- A box of a set is none of the table's blocks. -/
theorem TblI.sep {B : Nat} {w : World} {t p room : Nat} {D : PlD} {dn s1 : Int} {f : S2} {s2 : Int} {mb : Nat} {l : List (S2 × Nat)} (h : TblI B w t p room D dn s1 f s2 mb l) {r : Nat} {z : S2} (hr : ZB w r z) : ¬ tbS t mb l r := by
  have hr' : w.heap[r]? = _ := hr
  rintro (e | e | ⟨x, hx, e⟩)
  · have ht : w.heap[t]? = _ := h.tb
    rw [e, ht] at hr'
    simp at hr'
  · obtain ⟨es, clock, hm, -⟩ := h.mp
    rw [e, hm] at hr'
    simp at hr'
  · obtain ⟨cs, hc, -⟩ := h.rw' x hx
    rw [← e, hc] at hr'
    simp at hr'
theorem step_end {B : Nat} {w w6 : World} {t p room : Nat} {D : PlD} {dn s1 : Int} {f : S2} {mb : Nat} {l l' : List (S2 × Nat)} (hI : TblI B w6 t p room D dn s1 f 1 mb l') (hT : Turn (tbS t mb l) w w6) {r : Nat} {z : S2} (hr : ZB w6 r z) (hw : w.heap.size ≤ r) (hB : B ≤ r) (st : S2) :
    ((w6.setCell ⟨r, 0, none⟩ (.int .u64 (st.1 : Int))).setCell ⟨r, 1, none⟩ (.int .u64 (st.2 : Int))).cell? ⟨t, 7, none⟩ = some (.int .i32 1) ∧
    ((w6.setCell ⟨r, 0, none⟩ (.int .u64 (st.1 : Int))).setCell ⟨r, 1, none⟩ (.int .u64 (st.2 : Int))).frozen? ⟨t, 7, none⟩ = false ∧
    TblI B (((w6.setCell ⟨r, 0, none⟩ (.int .u64 (st.1 : Int))).setCell ⟨r, 1, none⟩ (.int .u64 (st.2 : Int))).setCell ⟨t, 7, none⟩ (.int .i32 0)) t p room D dn s1 f 0 mb l' ∧
    Turn (tbS t mb l) w (((w6.setCell ⟨r, 0, none⟩ (.int .u64 (st.1 : Int))).setCell ⟨r, 1, none⟩ (.int .u64 (st.2 : Int))).setCell ⟨t, 7, none⟩ (.int .i32 0)) ∧
    ZB (((w6.setCell ⟨r, 0, none⟩ (.int .u64 (st.1 : Int))).setCell ⟨r, 1, none⟩ (.int .u64 (st.2 : Int))).setCell ⟨t, 7, none⟩ (.int .i32 0)) r st := by
  have hs := hI.sep hr
  have hrt : r ≠ t := fun e => hs (Or.inl e)
  have o : ∀ k, k ≠ r → ((w6.setCell ⟨r, 0, none⟩ (.int .u64 (st.1 : Int))).setCell ⟨r, 1, none⟩ (.int .u64 (st.2 : Int))).heap[k]? = w6.heap[k]? := fun k hk => (Below.heap_setCell _ _ _ _ hk).trans (Below.heap_setCell _ _ _ _ hk)
  have hIE : TblI B ((w6.setCell ⟨r, 0, none⟩ (.int .u64 (st.1 : Int))).setCell ⟨r, 1, none⟩ (.int .u64 (st.2 : Int))) t p room D dn s1 f 1 mb l' := hI.keep (fun j hj => o j (fun e => hs (e ▸ hj))) (((Below.refl B w6).setCell (p := ⟨r, 0, none⟩) hB _).setCell (p := ⟨r, 1, none⟩) hB _)
  have hTE : Turn (tbS t mb l) w ((w6.setCell ⟨r, 0, none⟩ (.int .u64 (st.1 : Int))).setCell ⟨r, 1, none⟩ (.int .u64 (st.2 : Int))) := (hT.setCell ⟨r, 0, none⟩ (fun e => by have : r < w.heap.size := e; omega) _).setCell ⟨r, 1, none⟩ (fun e => by have : r < w.heap.size := e; omega) _
  have c7 := hIE.tb.cell 7
  simp only [List.getElem?_toArray, List.getElem?_cons_succ, List.getElem?_cons_zero] at c7
  exact ⟨c7, hIE.tb.fz 7, hIE.word 7 (.int .i32 0) (hIE.tb.lock 0), hTE.setCell ⟨t, 7, none⟩ (fun _ => Or.inl rfl) _, (Below.heap_setCell _ _ _ _ hrt).trans (hr.put st)⟩

set_option maxRecDepth 100000 in
set_option maxHeartbeats 4000000 in
theorem tstep_any (B : Nat) (hB1 : 1 ≤ B) (D : PlD) (hD : D.ok) (t p room : Nat) (dn s1 : Int) (f : S2) (mb : Nat) (l : List (S2 × Nat)) (a : S2) (ha : a.ok) (b : Nat) (hb : b < 256) (w : World) (hI : TblI B w t p room D dn s1 f 0 mb l) (hT : TabIn w) :
    Calls Tryd.prog 38 #[.pointer (some ⟨t, 0, none⟩), .agg #[.int .u64 (a.1 : Int), .int .u64 (a.2 : Int)], .int .u8 (b : Int)] w fun e w' => ∃ l', e = .returned (.agg #[.int .u64 ((stepN D a.1 b).1 : Int), .int .u64 ((stepN D a.1 b).2 : Int)]) ∧ TblI B w' t p room D dn s1 f 0 mb l' ∧ Turn (tbS t mb l) w w' ∧ Fresh l l' w := by
  have hV : Below w.heap.size w ((w.alloc (.cells #[.int .u64 (a.1 : Int), .int .u64 (a.2 : Int)] 58)).alloc (.cells #[.int .u64 0, .int .u64 0] 58)) := ((Below.refl _ _).alloc (Nat.le_refl _) _).alloc (by simp) _
  have hIV := hI.below hV
  have c7 := hIV.tb.cell 7
  have cf := hIV.tb.fz
  simp only [List.getElem?_toArray, List.getElem?_cons_succ, List.getElem?_cons_zero] at c7
  go_enter_defers Tryd.func38, Tryd.ntmps38
  go_wp2_with fail
  have zV0 : ZB ((w.alloc (.cells #[.int .u64 (a.1 : Int), .int .u64 (a.2 : Int)] 58)).alloc (.cells #[.int .u64 0, .int .u64 0] 58)) w.heap.size a := heap_alloc_old (heap_alloc_at _ _) (by simp)
  have zV1 : ZB ((w.alloc (.cells #[.int .u64 (a.1 : Int), .int .u64 (a.2 : Int)] 58)).alloc (.cells #[.int .u64 0, .int .u64 0] 58)) (w.heap.size + 1) (0, 0) := by
    have h := heap_alloc_at (w.alloc (.cells #[.int .u64 (a.1 : Int), .int .u64 (a.2 : Int)] 58)) (.cells #[.int .u64 0, .int .u64 0] 58)
    rw [World.size_alloc] at h
    exact h
  have hVs : ((w.alloc (.cells #[.int .u64 (a.1 : Int), .int .u64 (a.2 : Int)] 58)).alloc (.cells #[.int .u64 0, .int .u64 0] 58)).heap.size = w.heap.size + 1 + 1 := by simp
  generalize ((w.alloc (.cells #[.int .u64 (a.1 : Int), .int .u64 (a.2 : Int)] 58)).alloc (.cells #[.int .u64 0, .int .u64 0] 58)) = V at *
  refine (lock_any ⟨t, 7, none⟩ V c7 (cf 7)).mono ?_
  rintro e w' ⟨rfl, rfl⟩
  have htl := hI.tb.lt
  have hI1 := hIV.word 7 (.int .i32 1) (hIV.tb.lock 1)
  have z1a : ZB (V.setCell ⟨t, 7, none⟩ (.int .i32 1)) w.heap.size a := (Below.heap_setCell _ _ _ _ (by show w.heap.size ≠ t; omega)).trans zV0
  have z1r : ZB (V.setCell ⟨t, 7, none⟩ (.int .i32 1)) (w.heap.size + 1) (0, 0) := (Below.heap_setCell _ _ _ _ (by show w.heap.size + 1 ≠ t; omega)).trans zV1
  have hT1 : Turn (fun k => k = t) w (V.setCell ⟨t, 7, none⟩ (.int .i32 1)) := (Turn.ofBelow (S := fun k => k = t) hV).setCell ⟨t, 7, none⟩ (fun _ => rfl) _
  have hs1 : (V.setCell ⟨t, 7, none⟩ (.int .i32 1)).heap.size = w.heap.size + 1 + 1 := by rw [← hVs]; simp [World.setCell]
  clear c7 cf zV0 zV1 hIV hVs hV
  generalize V.setCell ⟨t, 7, none⟩ (.int .i32 1) = W1 at *
  have c9 := hI1.tb.cell 9
  simp only [List.getElem?_toArray, List.getElem?_cons_succ, List.getElem?_cons_zero] at c9
  have a0 := z1a.c0
  have a1 := z1a.c1
  have hlook : ∀ n, (Instr.lookup 88 (.map (some mb)) (.agg #[.int .u64 (a.1 : Int), .int .u64 (a.2 : Int)]) false).run Tryd.prog (W1.drewN n) = .ok (.pointer ((lookM l a).map fun n => ⟨n, 0, none⟩)) (W1.drewN n) := fun n => look_run (w := W1.drewN n) (hI1.mp.keep rfl) a
  go_wp2_with fail
  cases hlk : lookM l a with
  | none =>
    rw [hlk] at hlook
    simp only [Option.map_none] at hlook
    clear hlk
    go_quiet (fail)
    go_wp2_with fail
    have hI2 : TblI B (W1.drewN nq) t p room D dn s1 f 1 mb l := hI1.keep (fun _ _ => rfl) ⟨rfl, rfl, rfl, Nat.le_refl _, fun _ _ => rfl⟩
    have z2a : ZB (W1.drewN nq) w.heap.size a := z1a
    have z2r : ZB (W1.drewN nq) (w.heap.size + 1) (0, 0) := z1r
    have hT2 : Turn (fun k => k = t) w (W1.drewN nq) := hT1.below (B := W1.heap.size) ⟨rfl, rfl, rfl, Nat.le_refl _, fun _ _ => rfl⟩ (by omega)
    have hs2 : (W1.drewN nq).heap.size = w.heap.size + 1 + 1 := hs1
    clear hlook a0 a1 c9 hI1 z1a z1r hT1 hs1
    generalize W1.drewN nq = W2 at *
    have HTS := hid (fun (W : World) (h : Below W2.heap.size W2 W) => (hI2.below h).pl.up (show B ≤ W.heap.size by have := hI2.gt; have := hI2.tb.lt; have := h.size; omega))
    have HTB := hid (fun (W : World) (h : Below W2.heap.size W2 W) => (show TabIn W from (hT.blocks (hT2.block 0 (by have := hI.gt; omega) (fun e => by have := hI.gt; omega))).below h (by omega)))
    have e0 := hI2.tb.cell 0
    simp only [List.getElem?_toArray, List.getElem?_cons_zero] at e0
    have e1 := z2a.c0
    have e2 := z2a.c1
    go_cut [8] from 8 to 44 (fun s wx => ∃ S, s = .pointer (some ⟨S, 0, none⟩) ∧ w.heap.size + 1 < S ∧ ZB wx S (stepN D a.1 b) ∧ Below W2.heap.size W2 wx)
    case first =>
      have key : ∀ W, Below W2.heap.size W2 W → W.cell? ⟨t, 0, none⟩ = some (.pointer (some ⟨p, 0, none⟩)) ∧ W.cell? ⟨w.heap.size, 0, none⟩ = some (.int .u64 (a.1 : Int)) ∧ W.cell? ⟨w.heap.size, 1, none⟩ = some (.int .u64 (a.2 : Int)) := fun W h =>
        ⟨(h.cell (cell_lt e0)).trans e0, (h.cell (cell_lt e1)).trans e1, (h.cell (cell_lt e2)).trans e2⟩
      have keyA : ∀ w5, Below (W2.alloc (.cells #[.int .u64 0, .int .u64 0] 58)).drew.heap.size (W2.alloc (.cells #[.int .u64 0, .int .u64 0] 58)).drew w5 → ZB w5 W2.heap.size (0, 0) := fun w5 h => (h.block W2.heap.size (by show W2.heap.size < (W2.alloc (.cells #[.int .u64 0, .int .u64 0] 58)).heap.size; simp)).trans (heap_alloc_at W2 (.cells #[.int .u64 0, .int .u64 0] 58))
      have hdr : Below W2.heap.size W2 W2.drew := (Below.refl _ _).drew
      have hda : Below W2.heap.size W2 (W2.alloc (.cells #[.int .u64 0, .int .u64 0] 58)).drew := ((Below.refl _ _).alloc (Nat.le_refl _) _).drew
      have keyB : ∀ w5, Below (W2.alloc (.cells #[.int .u64 0, .int .u64 0] 58)).drew.heap.size (W2.alloc (.cells #[.int .u64 0, .int .u64 0] 58)).drew w5 → Below W2.heap.size W2 w5 := fun w5 h => hda.trans (h.mono (by show W2.heap.size ≤ (W2.alloc (.cells #[.int .u64 0, .int .u64 0] 58)).heap.size; simp))
      have keyC : ∀ w5, Below W2.drew.heap.size W2.drew w5 → Below W2.heap.size W2 w5 := fun w5 h => hdr.trans h
      have HS2 := hid hs2
      clear hs2
      go_region_held3 (fun w' => w'.cell? ⟨t, 0, none⟩ = some (.pointer (some ⟨p, 0, none⟩)) ∧ w'.cell? ⟨w.heap.size, 0, none⟩ = some (.int .u64 (a.1 : Int)) ∧ w'.cell? ⟨w.heap.size, 1, none⟩ = some (.int .u64 (a.2 : Int)))
        ((refine key _ ?_; first | assumption | (apply hBW)))
        (first | (go_at_call 54; refine (step_any D hD p a ha b hb _ (HTS.out _ (by first | exact hdr | exact hda)) (HTB.out _ (by first | exact hdr | exact hda))).mono ?_; rintro e w5 ⟨rfl, hB5⟩; first | (have hz := keyA _ hB5; have y0 := hz.c0; have y1 := hz.c1; have yf := hz.fz; have hBV := keyB _ hB5; have hBS := (hBV.setCell (p := ⟨W2.heap.size, 0, none⟩) (Nat.le_refl _) (.int .u64 ((stepN D a.1 b).1 : Int))).setCell (p := ⟨W2.heap.size, 1, none⟩) (Nat.le_refl _) (.int .u64 ((stepN D a.1 b).2 : Int))) | (have hBV := keyC _ hB5; have hBW := fun o => hBV.alloc hBV.size o)))
      all_goals
        go_wp2_with fail
        go_meet
      · exact ⟨w5.heap.size, rfl, by have := HS2.out; have := hBV.size; omega, heap_alloc_at _ _, hBW _⟩
      · exact ⟨W2.heap.size, rfl, by have := HS2.out; omega, hz.put _, hBS⟩
    case rest =>
      obtain ⟨S, rfl, hSl, hZ, hB⟩ := hcut
      have hIc := hI2.below hB
      have s0 := hZ.c0
      have s1' := hZ.c1
      go_wp2_with fail
      clear s0 s1' e0 e1 e2
      refine (hold_any t p room dn s1 f 1 mb l (stepN D a.1 b) wc hIc.tb hIc.mp).mono ?_
      rintro e w6 ⟨rfl, hH⟩
      obtain ⟨l', hI6, hT6, hnew⟩ := hIc.held hH
      have hml := hI.mp.lt
      have htl := hI.tb.lt
      have z6 : ZB w6 S (stepN D a.1 b) := (hT6.block S hZ.lt (by omega)).trans hZ
      have r6 : ZB w6 (w.heap.size + 1) (0, 0) := (hT6.block _ (by have := z2r.lt; have := hB.size; omega) (by omega)).trans ((hB.block _ z2r.lt).trans z2r)
      have hT6' : Turn (tbS t mb l) w w6 := ((hT2.mono (fun j _ e => Or.inl e)).below hB (by omega)).trans (hT6.mono (fun j _ e => Or.inr (Or.inl e)))
      have hnew' : Fresh l l' w := fun x hx => by
        rcases hnew x hx with h | h
        · exact Or.inl h
        · exact Or.inr (by have := hB.size; omega)
      clear hH hT6 hnew hIc hI2 hT2 z2a z2r hZ hB HTS HTB
      have s0 := z6.c0
      have s1' := z6.c1
      have q0 := r6.c0
      have q1 := r6.c1
      have qf := r6.fz
      have hBr : B ≤ w.heap.size + 1 := by have := hI.gt; omega
      generalize hst : stepN D a.1 b = st at *
      have HST := hid hst
      clear hst
      go_wp2_with fail
      clear s0 s1' q0 q1 qf
      obtain ⟨d7, df, hIe, hTe, hze⟩ := step_end hI6 hT6' r6 (Nat.le_succ _) hBr st
      refine leaves_cons (f := 51) (args := #[.pointer (some ⟨t, 7, none⟩)]) (by simp) (by simp [go_sem]) ?_
      refine (unlock_any ⟨t, 7, none⟩ .returning _ d7 df).mono ?_
      rintro e u' w'' ⟨rfl, rfl, rfl⟩
      have y0 := hze.c0
      have y1 := hze.c1
      refine ⟨.agg #[.int .u64 (st.1 : Int), .int .u64 (st.2 : Int)], by simp [results, Tryd.results38, go_sem, y0, y1], ?_⟩
      first | exact ⟨l', by rw [HST.out], hIe, hTe, hnew'⟩ | exact ⟨by rw [HST.out], l', hIe, hTe, hnew'⟩
  | some r =>
    rw [hlk] at hlook
    simp only [Option.map_some] at hlook
    obtain ⟨x, hx, hxa, hxr⟩ := lookM_some hlk
    clear hlk
    obtain ⟨z, r0, r1, hz⟩ := (hI1.rw' x hx).cells hb
    rw [hxr] at r0 r1
    rw [hxa] at hz
    have hbI : (b : Int) < 256 := by omega
    have hne0 := fun w => run_zero2 w z
    by_cases hz0 : z = (0, 0)
    · have hne : ∀ w, (Op.equalIn 10000 58 (.agg #[.int .u64 (z.1 : Int), .int .u64 (z.2 : Int)]) (.agg #[.int .u64 0, .int .u64 0])).run Tryd.prog w = .ok true w := fun w => by rw [hne0, decide_eq_true hz0]
      clear hne0 hz hz0
      go_quiet (fail)
      go_wp2_with fail
      have hI2 : TblI B (W1.drewN nq) t p room D dn s1 f 1 mb l := hI1.keep (fun _ _ => rfl) ⟨rfl, rfl, rfl, Nat.le_refl _, fun _ _ => rfl⟩
      have z2a : ZB (W1.drewN nq) w.heap.size a := z1a
      have z2r : ZB (W1.drewN nq) (w.heap.size + 1) (0, 0) := z1r
      have hT2 : Turn (fun k => k = t) w (W1.drewN nq) := hT1.below (B := W1.heap.size) ⟨rfl, rfl, rfl, Nat.le_refl _, fun _ _ => rfl⟩ (by omega)
      have hs2 : (W1.drewN nq).heap.size = w.heap.size + 1 + 1 := hs1
      clear hlook a0 a1 c9 hI1 z1a z1r hT1 hs1 r0 r1 hne
      generalize W1.drewN nq = W2 at *
      have HTS := hid (fun (W : World) (h : Below W2.heap.size W2 W) => (hI2.below h).pl.up (show B ≤ W.heap.size by have := hI2.gt; have := hI2.tb.lt; have := h.size; omega))
      have HTB := hid (fun (W : World) (h : Below W2.heap.size W2 W) => (show TabIn W from (hT.blocks (hT2.block 0 (by have := hI.gt; omega) (fun e => by have := hI.gt; omega))).below h (by omega)))
      have e0 := hI2.tb.cell 0
      simp only [List.getElem?_toArray, List.getElem?_cons_zero] at e0
      have e1 := z2a.c0
      have e2 := z2a.c1
      go_cut [8] from 8 to 44 (fun s wx => ∃ S, s = .pointer (some ⟨S, 0, none⟩) ∧ w.heap.size + 1 < S ∧ ZB wx S (stepN D a.1 b) ∧ Below W2.heap.size W2 wx)
      case first =>
        have key : ∀ W, Below W2.heap.size W2 W → W.cell? ⟨t, 0, none⟩ = some (.pointer (some ⟨p, 0, none⟩)) ∧ W.cell? ⟨w.heap.size, 0, none⟩ = some (.int .u64 (a.1 : Int)) ∧ W.cell? ⟨w.heap.size, 1, none⟩ = some (.int .u64 (a.2 : Int)) := fun W h =>
          ⟨(h.cell (cell_lt e0)).trans e0, (h.cell (cell_lt e1)).trans e1, (h.cell (cell_lt e2)).trans e2⟩
        have keyA : ∀ w5, Below (W2.alloc (.cells #[.int .u64 0, .int .u64 0] 58)).drew.heap.size (W2.alloc (.cells #[.int .u64 0, .int .u64 0] 58)).drew w5 → ZB w5 W2.heap.size (0, 0) := fun w5 h => (h.block W2.heap.size (by show W2.heap.size < (W2.alloc (.cells #[.int .u64 0, .int .u64 0] 58)).heap.size; simp)).trans (heap_alloc_at W2 (.cells #[.int .u64 0, .int .u64 0] 58))
        have hdr : Below W2.heap.size W2 W2.drew := (Below.refl _ _).drew
        have hda : Below W2.heap.size W2 (W2.alloc (.cells #[.int .u64 0, .int .u64 0] 58)).drew := ((Below.refl _ _).alloc (Nat.le_refl _) _).drew
        have keyB : ∀ w5, Below (W2.alloc (.cells #[.int .u64 0, .int .u64 0] 58)).drew.heap.size (W2.alloc (.cells #[.int .u64 0, .int .u64 0] 58)).drew w5 → Below W2.heap.size W2 w5 := fun w5 h => hda.trans (h.mono (by show W2.heap.size ≤ (W2.alloc (.cells #[.int .u64 0, .int .u64 0] 58)).heap.size; simp))
        have keyC : ∀ w5, Below W2.drew.heap.size W2.drew w5 → Below W2.heap.size W2 w5 := fun w5 h => hdr.trans h
        have HS2 := hid hs2
        clear hs2
        go_region_held3 (fun w' => w'.cell? ⟨t, 0, none⟩ = some (.pointer (some ⟨p, 0, none⟩)) ∧ w'.cell? ⟨w.heap.size, 0, none⟩ = some (.int .u64 (a.1 : Int)) ∧ w'.cell? ⟨w.heap.size, 1, none⟩ = some (.int .u64 (a.2 : Int)))
          ((refine key _ ?_; first | assumption | (apply hBW)))
          (first | (go_at_call 54; refine (step_any D hD p a ha b hb _ (HTS.out _ (by first | exact hdr | exact hda)) (HTB.out _ (by first | exact hdr | exact hda))).mono ?_; rintro e w5 ⟨rfl, hB5⟩; first | (have hz := keyA _ hB5; have y0 := hz.c0; have y1 := hz.c1; have yf := hz.fz; have hBV := keyB _ hB5; have hBS := (hBV.setCell (p := ⟨W2.heap.size, 0, none⟩) (Nat.le_refl _) (.int .u64 ((stepN D a.1 b).1 : Int))).setCell (p := ⟨W2.heap.size, 1, none⟩) (Nat.le_refl _) (.int .u64 ((stepN D a.1 b).2 : Int))) | (have hBV := keyC _ hB5; have hBW := fun o => hBV.alloc hBV.size o)))
        all_goals
          go_wp2_with fail
          go_meet
        · exact ⟨w5.heap.size, rfl, by have := HS2.out; have := hBV.size; omega, heap_alloc_at _ _, hBW _⟩
        · exact ⟨W2.heap.size, rfl, by have := HS2.out; omega, hz.put _, hBS⟩
      case rest =>
        obtain ⟨S, rfl, hSl, hZ, hB⟩ := hcut
        have hIx := hI2.below hB
        have s0 := hZ.c0
        have s1' := hZ.c1
        obtain ⟨z', k0, k1, -⟩ := (hIx.rw' x hx).cells hb
        have kf := (hIx.rw' x hx).fz
        have hsS := hIx.sep hZ
        have hsR := hIx.sep ((hB.block _ z2r.lt).trans z2r)
        have hIc := hIx.row hx hb
        have hZ2 : ZB ((wc.setCell ⟨x.2, b * 2, none⟩ (.int .u64 ((stepN D x.1.1 b).1 : Int))).setCell ⟨x.2, b * 2 + 1, none⟩ (.int .u64 ((stepN D x.1.1 b).2 : Int))) S (stepN D a.1 b) := ((Below.heap_setCell _ _ _ _ (fun e => hsS (Or.inr (Or.inr ⟨x, hx, e.symm⟩)))).trans (Below.heap_setCell _ _ _ _ (fun e => hsS (Or.inr (Or.inr ⟨x, hx, e.symm⟩))))).trans hZ
        have hR2 : ZB ((wc.setCell ⟨x.2, b * 2, none⟩ (.int .u64 ((stepN D x.1.1 b).1 : Int))).setCell ⟨x.2, b * 2 + 1, none⟩ (.int .u64 ((stepN D x.1.1 b).2 : Int))) (w.heap.size + 1) (0, 0) := ((Below.heap_setCell _ _ _ _ (fun e => hsR (Or.inr (Or.inr ⟨x, hx, e.symm⟩)))).trans (Below.heap_setCell _ _ _ _ (fun e => hsR (Or.inr (Or.inr ⟨x, hx, e.symm⟩))))).trans ((hB.block _ z2r.lt).trans z2r)
        have hT3 : Turn (tbS t mb l) w ((wc.setCell ⟨x.2, b * 2, none⟩ (.int .u64 ((stepN D x.1.1 b).1 : Int))).setCell ⟨x.2, b * 2 + 1, none⟩ (.int .u64 ((stepN D x.1.1 b).2 : Int))) := (((hT2.mono (S' := tbS t mb l) (fun j _ e => Or.inl e)).below hB (by omega)).setCell ⟨x.2, b * 2, none⟩ (fun _ => Or.inr (Or.inr ⟨x, hx, rfl⟩)) _).setCell ⟨x.2, b * 2 + 1, none⟩ (fun _ => Or.inr (Or.inr ⟨x, hx, rfl⟩)) _
        have hsz3 : W2.heap.size ≤ ((wc.setCell ⟨x.2, b * 2, none⟩ (.int .u64 ((stepN D x.1.1 b).1 : Int))).setCell ⟨x.2, b * 2 + 1, none⟩ (.int .u64 ((stepN D x.1.1 b).2 : Int))).heap.size := by have := hB.size; simpa [World.setCell] using this
        rw [hxa] at hIc hZ2 hR2 hT3 hsz3
        rw [hxr] at hIc hZ2 hR2 hT3 hsz3 k0 k1 kf
        have c0 := hZ2.c0
        have c1 := hZ2.c1
        have s0d : ∀ n, (wc.drewN n).cell? ⟨S, 0, none⟩ = some (.int .u64 ((stepN D a.1 b).1 : Int)) := fun _ => s0
        go_wp2_with fail
        go_region
        clear s0 s1' e0 e1 e2 k0 k1 kf c0 c1 s0d
        generalize ((wc.setCell ⟨r, b * 2, none⟩ (.int .u64 ((stepN D a.1 b).1 : Int))).setCell ⟨r, b * 2 + 1, none⟩ (.int .u64 ((stepN D a.1 b).2 : Int))) = W3' at *
        replace hIc : TblI B W3'.drew t p room D dn s1 f 1 mb l := hIc.keep (fun _ _ => rfl) ⟨rfl, rfl, rfl, Nat.le_refl _, fun _ _ => rfl⟩
        replace hZ2 : ZB W3'.drew S (stepN D a.1 b) := hZ2
        replace hR2 : ZB W3'.drew (w.heap.size + 1) (0, 0) := hR2
        replace hT3 : Turn (tbS t mb l) w W3'.drew := hT3.drew
        replace hsz3 : W2.heap.size ≤ W3'.drew.heap.size := hsz3
        generalize W3'.drew = W3 at *
        have c0 := hZ2.c0
        have c1 := hZ2.c1
        go_wp2_with fail
        clear c0 c1
        refine (hold_any t p room dn s1 f 1 mb l (stepN D a.1 b) W3 hIc.tb hIc.mp).mono ?_
        rintro e w6 ⟨rfl, hH⟩
        obtain ⟨l', hI6, hT6, hnew⟩ := hIc.held hH
        have hml := hI.mp.lt
        have htl := hI.tb.lt
        have z6 : ZB w6 S (stepN D a.1 b) := (hT6.block S hZ2.lt (by omega)).trans hZ2
        have r6 : ZB w6 (w.heap.size + 1) (0, 0) := (hT6.block _ hR2.lt (by omega)).trans hR2
        have hT6' : Turn (tbS t mb l) w w6 := hT3.trans (hT6.mono (fun j _ e => Or.inr (Or.inl e)))
        have hnew' : Fresh l l' w := fun x hx => by
          rcases hnew x hx with h | h
          · exact Or.inl h
          · exact Or.inr (by omega)
        clear hH hT6 hnew hIc hI2 hT2 z2a z2r hZ hB HTS HTB hIx hsS hsR hZ2 hR2 hT3
        have s0 := z6.c0
        have s1' := z6.c1
        have q0 := r6.c0
        have q1 := r6.c1
        have qf := r6.fz
        have hBr : B ≤ w.heap.size + 1 := by have := hI.gt; omega
        generalize hst : stepN D a.1 b = st at *
        have HST := hid hst
        clear hst
        go_wp2_with fail
        clear s0 s1' q0 q1 qf
        obtain ⟨d7, df, hIe, hTe, hze⟩ := step_end hI6 hT6' r6 (Nat.le_succ _) hBr st
        refine leaves_cons (f := 51) (args := #[.pointer (some ⟨t, 7, none⟩)]) (by simp) (by simp [go_sem]) ?_
        refine (unlock_any ⟨t, 7, none⟩ .returning _ d7 df).mono ?_
        rintro e u' w'' ⟨rfl, rfl, rfl⟩
        have y0 := hze.c0
        have y1 := hze.c1
        refine ⟨.agg #[.int .u64 (st.1 : Int), .int .u64 (st.2 : Int)], by simp [results, Tryd.results38, go_sem, y0, y1], ?_⟩
        first | exact ⟨l', by rw [HST.out], hIe, hTe, hnew'⟩ | exact ⟨by rw [HST.out], l', hIe, hTe, hnew'⟩
    · have hne : ∀ w, (Op.equalIn 10000 58 (.agg #[.int .u64 (z.1 : Int), .int .u64 (z.2 : Int)]) (.agg #[.int .u64 0, .int .u64 0])).run Tryd.prog w = .ok false w := fun w => by rw [hne0, decide_eq_false hz0]
      have hzst : z = stepN D a.1 b := hz.resolve_left hz0
      have HST := hid hzst
      clear hne0 hz hz0 hzst
      have r0' : ∀ n, (W1.drewN n).cell? ⟨r, b * 2, none⟩ = some (.int .u64 (z.1 : Int)) := fun _ => r0
      have q0 := z1r.c0
      have q1 := z1r.c1
      have qf := z1r.fz
      go_quiet (fail)
      go_wp2_with fail
      have hI2 : TblI B (W1.drewN nq) t p room D dn s1 f 1 mb l := hI1.keep (fun _ _ => rfl) ⟨rfl, rfl, rfl, Nat.le_refl _, fun _ _ => rfl⟩
      have z2r : ZB (W1.drewN nq) (w.heap.size + 1) (0, 0) := z1r
      have hT2 : Turn (tbS t mb l) w (W1.drewN nq) := (hT1.mono (fun j _ e => Or.inl e)).below (B := W1.heap.size) ⟨rfl, rfl, rfl, Nat.le_refl _, fun _ _ => rfl⟩ (by omega)
      have hBr : B ≤ w.heap.size + 1 := by have := hI.gt; omega
      obtain ⟨d7, df, hIe, hTe, hze⟩ := step_end hI2 hT2 z2r (Nat.le_succ _) hBr z
      refine leaves_cons (f := 51) (args := #[.pointer (some ⟨t, 7, none⟩)]) (by simp) (by simp [go_sem]) ?_
      refine (unlock_any ⟨t, 7, none⟩ .returning _ d7 df).mono ?_
      rintro e u' w'' ⟨rfl, rfl, rfl⟩
      have y0 := hze.c0
      have y1 := hze.c1
      refine ⟨.agg #[.int .u64 (z.1 : Int), .int .u64 (z.2 : Int)], by simp [results, Tryd.results38, go_sem, y0, y1], ?_⟩
      first | exact ⟨l, by rw [← HST.out], hIe, hTe, fun x hx => Or.inl hx⟩ | exact ⟨by rw [← HST.out], l, hIe, hTe, fun x hx => Or.inl hx⟩
end Go.Proofs.YtjhmlcilabnlbaaDoor
/- States: First. -/
namespace Go.Proofs.YtjhmlcilabnlbaaDoor
open Go.RowKit Go.Shelf

attribute [local go_sem] Oper.semAt_some

theorem TB.fst {w : World} {t p room : Nat} {dn s1 : Int} {f : S2} {s2 : Int} {mb : Nat} (h : TB w t p room dn s1 f s2 mb) (x : S2) : TB ((w.setCell ⟨t, 5, none⟩ (.int .u64 (x.1 : Int))).setCell ⟨t, 6, none⟩ (.int .u64 (x.2 : Int))) t p room dn s1 x s2 mb := hset (hset h _) _

set_option maxRecDepth 100000 in
set_option maxHeartbeats 4000000 in
theorem clos_any (B : Nat) (D : PlD) (hD : D.ok) (t p room : Nat) (dn s1 : Int) (f : S2) (mb : Nat) (l : List (S2 × Nat)) (pl : Nat) (w : World) (hI : TblI B w t p room D dn s1 f 0 mb l) (hp : w.heap[pl]? = some (.cells #[.pointer (some ⟨t, 0, none⟩)] 64 (0, 0))) :
    Calls Tryd.prog 49 #[.pointer (some ⟨pl, 0, none⟩)] w fun e w' => ∃ l', e = .returned (.tuple #[]) ∧ TblI B w' t p room D dn s1 (firstN D) 0 mb l' ∧ Turn (tbS t mb l) w w' ∧ Fresh l l' w := by
  have c7 := hI.tb.cell 7
  have cf := hI.tb.fz
  simp only [List.getElem?_toArray, List.getElem?_cons_succ, List.getElem?_cons_zero] at c7
  have p0 : w.cell? ⟨pl, 0, none⟩ = some (.pointer (some ⟨t, 0, none⟩)) := by simp [World.cell?, hp]
  go_enter_defers Tryd.func49, Tryd.ntmps49
  go_wp2_with fail
  refine (lock_any ⟨t, 7, none⟩ w c7 (cf 7)).mono ?_
  rintro e w' ⟨rfl, rfl⟩
  have htl := hI.tb.lt
  have hplt : pl < w.heap.size := (Array.getElem?_eq_some_iff.1 hp).1
  have hpt : pl ≠ t := fun e => by
    have ht : w.heap[t]? = _ := hI.tb
    rw [e, ht] at hp
    simp at hp
  have hI1 := hI.word 7 (.int .i32 1) (hI.tb.lock 1)
  have hp1 : (w.setCell ⟨t, 7, none⟩ (.int .i32 1)).heap[pl]? = some (.cells #[.pointer (some ⟨t, 0, none⟩)] 64 (0, 0)) := (Below.heap_setCell _ _ _ _ hpt).trans hp
  have hT1 : Turn (fun k => k = t) w (w.setCell ⟨t, 7, none⟩ (.int .i32 1)) := (Turn.refl (fun k => k = t) w).setCell ⟨t, 7, none⟩ (fun _ => rfl) _
  have hs1 : (w.setCell ⟨t, 7, none⟩ (.int .i32 1)).heap.size = w.heap.size := by simp [World.setCell]
  clear c7 cf p0
  generalize w.setCell ⟨t, 7, none⟩ (.int .i32 1) = W1 at *
  have p0 : W1.cell? ⟨pl, 0, none⟩ = some (.pointer (some ⟨t, 0, none⟩)) := by simp [World.cell?, hp1]
  have e0 := hI1.tb.cell 0
  simp only [List.getElem?_toArray, List.getElem?_cons_zero] at e0
  go_wp2_with fail
  have HS1 := hid hs1
  clear hs1
  have mixed : Tryd.prog.follows .mixedOrders = true := by kernel_rfl
  have hB : B ≤ W1.heap.size := by have := hI.gt; have := HS1.out; omega
  have k0 : ∀ W', Below W1.heap.size W1 W' → W'.cell? ⟨pl, 0, none⟩ = some (.pointer (some ⟨t, 0, none⟩)) := fun W' h => (h.cell (cell_lt p0)).trans p0
  have k1 : ∀ W', Below W1.heap.size W1 W' → W'.cell? ⟨t, 0, none⟩ = some (.pointer (some ⟨p, 0, none⟩)) := fun W' h => (h.cell (cell_lt e0)).trans e0
  have k2 : ∀ W', Below W1.heap.size W1 W' → PlanAt W'.heap.size W' p D := fun W' h => (hI1.below h).pl.up (by have := h.size; omega)
  refine (wpIn_wide (n := 5)).1 (region_tail (C := fun W' => Below W1.heap.size W1 W') 8 (by kernel_rfl) mixed (by kernel_rfl) ((Below.refl _ _).drew) rfl ?_)
  dsimp only [List.take]
  refine wpQuietIn_step (fun _ _ _ _ => trivial) (fun K hK => ?_)
  go_simp
  refine ⟨.pointer (some ⟨t, 0, none⟩), fun w' hC => by simp [k0 w' hC], hK _ ?_⟩
  clear hK K
  refine wpQuietIn_step (fun _ _ _ _ => trivial) (fun K hK => ?_)
  go_simp
  refine ⟨.pointer (some ⟨t, 0, none⟩), fun w' hC => by simp [k0 w' hC], hK _ ?_⟩
  clear hK K
  refine wpQuietIn_step (fun _ _ _ _ => trivial) (fun K hK => ?_)
  go_simp
  refine ⟨_, fun _ _ => rfl, hK _ ?_⟩
  clear hK K
  refine wpQuietIn_step (fun _ _ _ _ => trivial) (fun K hK => ?_)
  go_simp
  refine ⟨_, fun _ _ => rfl, hK _ ?_⟩
  clear hK K
  refine wpQuietIn_step (fun _ _ _ _ => trivial) (fun K hK => ?_)
  go_simp
  refine ⟨.pointer (some ⟨p, 0, none⟩), fun w' hC => by simp [k1 w' hC], hK _ ?_⟩
  clear hK K
  refine wpQuietIn_step (fun _ _ _ _ => trivial) (fun K hK => ?_)
  go_simp
  refine ⟨_, fun w' hC => (callsIn_wide.2 (first_any D hD p w' (k2 w' hC))).mono (fun e w'' hx => ⟨hx.1, hC.trans (hx.2.mono hC.size)⟩), hK _ ?_⟩
  clear hK K
  refine wpQuietIn_step (fun _ _ _ _ => trivial) (fun K hK => ?_)
  go_simp
  refine ⟨_, fun _ _ => rfl, hK _ ?_⟩
  clear hK K
  refine wpQuietIn_step (fun _ _ _ _ => trivial) (fun K hK => ?_)
  go_simp
  refine ⟨_, fun _ _ => rfl, hK _ ?_⟩
  clear hK K
  refine wpQuietIn_nil ?_
  intro w9 hB9
  have hI9 := hI1.below hB9
  have d5 := hI9.tb.cell 5
  have d6 := hI9.tb.cell 6
  have df := hI9.tb.fz
  simp only [List.getElem?_toArray, List.getElem?_cons_succ, List.getElem?_cons_zero] at d5 d6
  clear k0 k1 k2
  rw [wpOpsIn_cons]
  refine wpOpIn_step rfl (fun K hK => ?_)
  go_simp
  refine hK _ _ ?_
  clear hK K
  simp only [wpOpsIn]
  have hIa := (hI9.word 5 (.int .u64 ((firstN D).1 : Int)) (f' := ((firstN D).1, f.2)) (hset hI9.tb _)).word 6 (.int .u64 ((firstN D).2 : Int)) (f' := firstN D) (hI9.tb.fst (firstN D))
  have hTa : Turn (tbS t mb l) w ((w9.setCell ⟨t, 5, none⟩ (.int .u64 ((firstN D).1 : Int))).setCell ⟨t, 6, none⟩ (.int .u64 ((firstN D).2 : Int))) := (((hT1.mono (S' := tbS t mb l) (fun j _ e => Or.inl e)).below hB9 (by have := HS1.out; omega)).setCell ⟨t, 5, none⟩ (fun _ => Or.inl rfl) _).setCell ⟨t, 6, none⟩ (fun _ => Or.inl rfl) _
  have hpa : ((w9.setCell ⟨t, 5, none⟩ (.int .u64 ((firstN D).1 : Int))).setCell ⟨t, 6, none⟩ (.int .u64 ((firstN D).2 : Int))).heap[pl]? = some (.cells #[.pointer (some ⟨t, 0, none⟩)] 64 (0, 0)) := ((Below.heap_setCell _ _ _ _ hpt).trans (Below.heap_setCell _ _ _ _ hpt)).trans ((hB9.block _ (Array.getElem?_eq_some_iff.1 hp1).1).trans hp1)
  have hsa : w.heap.size ≤ ((w9.setCell ⟨t, 5, none⟩ (.int .u64 ((firstN D).1 : Int))).setCell ⟨t, 6, none⟩ (.int .u64 ((firstN D).2 : Int))).heap.size := hTa.size
  clear d5 d6 df hI9 hB9 p0 e0 hI1 hT1 hp1
  generalize ((w9.setCell ⟨t, 5, none⟩ (.int .u64 ((firstN D).1 : Int))).setCell ⟨t, 6, none⟩ (.int .u64 ((firstN D).2 : Int))) = W3 at *
  have p0 : W3.cell? ⟨pl, 0, none⟩ = some (.pointer (some ⟨t, 0, none⟩)) := by simp [World.cell?, hpa]
  have e5 := hIa.tb.cell 5
  have e6 := hIa.tb.cell 6
  simp only [List.getElem?_toArray, List.getElem?_cons_succ, List.getElem?_cons_zero] at e5 e6
  go_wp2_with fail
  have k0 : ∀ W', Below W3.heap.size W3 W' → W'.cell? ⟨pl, 0, none⟩ = some (.pointer (some ⟨t, 0, none⟩)) := fun W' h => (h.cell (cell_lt p0)).trans p0
  have k1 : ∀ W', Below W3.heap.size W3 W' → W'.cell? ⟨t, 5, none⟩ = some (.int .u64 ((firstN D).1 : Int)) := fun W' h => (h.cell (cell_lt e5)).trans e5
  have k2 : ∀ W', Below W3.heap.size W3 W' → W'.cell? ⟨t, 6, none⟩ = some (.int .u64 ((firstN D).2 : Int)) := fun W' h => (h.cell (cell_lt e6)).trans e6
  refine (wpIn_wide (n := 5)).1 (region_tail (C := fun W' => Below W3.heap.size W3 W') 5 (by kernel_rfl) mixed (by kernel_rfl) ((Below.refl _ _).drew) rfl ?_)
  dsimp only [List.take]
  refine wpQuietIn_step (fun _ _ _ _ => trivial) (fun K hK => ?_)
  go_simp
  refine ⟨.pointer (some ⟨t, 0, none⟩), fun w' hC => by simp [k0 w' hC], hK _ ?_⟩
  clear hK K
  refine wpQuietIn_step (fun _ _ _ _ => trivial) (fun K hK => ?_)
  go_simp
  refine ⟨.pointer (some ⟨t, 0, none⟩), fun w' hC => by simp [k0 w' hC], hK _ ?_⟩
  clear hK K
  refine wpQuietIn_step (fun _ _ _ _ => trivial) (fun K hK => ?_)
  go_simp
  refine ⟨_, fun _ _ => rfl, hK _ ?_⟩
  clear hK K
  refine wpQuietIn_step (fun _ _ _ _ => trivial) (fun K hK => ?_)
  go_simp
  refine ⟨_, fun _ _ => rfl, hK _ ?_⟩
  clear hK K
  refine wpQuietIn_step (fun _ _ _ _ => trivial) (fun K hK => ?_)
  go_simp
  refine ⟨.agg #[.int .u64 ((firstN D).1 : Int), .int .u64 ((firstN D).2 : Int)], fun w' hC => by simp [k1 w' hC, k2 w' hC], hK _ ?_⟩
  clear hK K
  refine wpQuietIn_nil ?_
  intro W4 hB4
  have hId := hIa.below hB4
  have hTd : Turn (tbS t mb l) w W4 := hTa.below hB4 hsa
  have hsd : w.heap.size ≤ W4.heap.size := hTd.size
  clear k0 k1 k2 p0 e5 e6
  rw [wpOpsIn_cons]
  refine wpOpIn_step rfl (fun K hK => ?_)
  go_simp
  refine ⟨trivial, (callsIn_wide.2 (hold_any t p room dn s1 (firstN D) 1 mb l (firstN D) W4 hId.tb hId.mp)).mono ?_⟩
  rintro e w6 ⟨rfl, hH⟩
  obtain ⟨l', hI6, hT6, hnew⟩ := hId.held hH
  have hT6' : Turn (tbS t mb l) w w6 := hTd.trans (hT6.mono (fun j _ e => Or.inr (Or.inl e)))
  have hn6 : Fresh l l' w := fun x hx => by
    rcases hnew x hx with h | h
    · exact Or.inl h
    · exact Or.inr (Nat.le_trans hsd h)
  refine hK _ _ ?_
  clear hK K
  simp only [wpOpsIn]
  have c7 := hI6.tb.cell 7
  have cf := hI6.tb.fz
  simp only [List.getElem?_toArray, List.getElem?_cons_succ, List.getElem?_cons_zero] at c7
  go_wp2_with fail
  refine leaves_cons (f := 51) (args := #[.pointer (some ⟨t, 7, none⟩)]) (by simp) (by simp [go_sem]) ?_
  refine (unlock_any ⟨t, 7, none⟩ .returning _ c7 (cf 7)).mono ?_
  rintro e u' w'' ⟨rfl, rfl, rfl⟩
  refine ⟨_, results_none rfl _ _ _, ?_⟩
  have hIe := hI6.word 7 (.int .i32 0) (hI6.tb.lock 0)
  have hTe := hT6'.setCell ⟨t, 7, none⟩ (fun _ => Or.inl rfl) (.int .i32 0)
  first | exact ⟨l', rfl, hIe, hTe, hn6⟩ | exact ⟨rfl, l', hIe, hTe, hn6⟩

set_option maxRecDepth 100000 in
set_option maxHeartbeats 4000000 in
theorem slow_any (B : Nat) (D : PlD) (hD : D.ok) (t p room : Nat) (f : S2) (mb : Nat) (l : List (S2 × Nat)) (pl : Nat) (w : World) (hI : TblI B w t p room D 0 0 f 0 mb l) (hp : w.heap[pl]? = some (.cells #[.pointer (some ⟨t, 0, none⟩)] 64 (0, 0))) :
    Calls Tryd.prog 62 #[.pointer (some ⟨t, 2, none⟩), .func (.func 49) #[] #[.pointer (some ⟨pl, 0, none⟩)]] w fun e w' => ∃ l', e = .returned (.tuple #[]) ∧ TblI B w' t p room D 1 0 (firstN D) 0 mb l' ∧ Turn (tbS t mb l) w w' ∧ Fresh l l' w := by
  have c3 := hI.tb.cell 3
  have cf := hI.tb.fz
  simp only [List.getElem?_toArray, List.getElem?_cons_succ, List.getElem?_cons_zero] at c3
  have hnot : ∀ (x : Bool) (w : World), (Op.unary .not (.bool x)).run Tryd.prog w = .ok (.bool (!x)) w := fun _ _ => rfl
  have hpt : pl ≠ t := fun e => by
    have ht : w.heap[t]? = _ := hI.tb
    rw [e, ht] at hp
    simp at hp
  go_enter_defers Tryd.func62, Tryd.ntmps62
  go_wp2_with fail
  refine (lock_any ⟨t, 3, none⟩ w c3 (cf 3)).mono ?_
  rintro e w' ⟨rfl, rfl⟩
  have hI1 := hI.word 3 (.int .i32 1) (hI.tb.lockO 1)
  have hp1 : (w.setCell ⟨t, 3, none⟩ (.int .i32 1)).heap[pl]? = some (.cells #[.pointer (some ⟨t, 0, none⟩)] 64 (0, 0)) := (Below.heap_setCell _ _ _ _ hpt).trans hp
  have hT1 : Turn (tbS t mb l) w (w.setCell ⟨t, 3, none⟩ (.int .i32 1)) := (Turn.refl (tbS t mb l) w).setCell ⟨t, 3, none⟩ (fun _ => Or.inl rfl) _
  have hs1 : w.heap.size ≤ (w.setCell ⟨t, 3, none⟩ (.int .i32 1)).heap.size := hT1.size
  clear c3 cf
  generalize w.setCell ⟨t, 3, none⟩ (.int .i32 1) = W1 at *
  have c2 := hI1.tb.cell 2
  simp only [List.getElem?_toArray, List.getElem?_cons_succ, List.getElem?_cons_zero] at c2
  have hl := run_call_load (P := Tryd.prog) Tryd.func68 (by kernel_rfl) (by kernel_rfl) (by kernel_rfl) .u32 (by kernel_rfl) c2
  go_wp2_with (first
    | (go_at_call 49; refine (clos_any B D hD t p room 0 1 f mb l pl W1 hI1 hp1).mono ?_; rintro e w5 ⟨l', rfl, hI5, hT5, hn5⟩)
    | (go_at_call 61; go_in))
  -- the door: two deferred calls, the last laid first
  have hT5' : Turn (tbS t mb l) w w5 := hT1.trans hT5
  have hn5' : Fresh l l' w := fun x hx => by
    rcases hn5 x hx with h | h
    · exact Or.inl h
    · exact Or.inr (Nat.le_trans hs1 h)
  have d2 := hI5.tb.cell 2
  have df := hI5.tb.fz
  simp only [List.getElem?_toArray, List.getElem?_cons_succ, List.getElem?_cons_zero] at d2
  refine leaves_cons (f := 69) (args := #[.pointer (some ⟨t, 2, none⟩), .bool true]) (by simp) (by simp [go_sem]) ?_
  refine (store_any ⟨t, 2, none⟩ (.int .u32 0) .returning _ d2 (df 2)).mono ?_
  rintro e u' w'' ⟨rfl, rfl, rfl⟩
  have hId : TblI B w5.drew t p room D 0 1 (firstN D) 0 mb l' := hI5.keep (fun _ _ => rfl) ⟨rfl, rfl, rfl, Nat.le_refl _, fun _ _ => rfl⟩
  have hI6 := hId.word 2 (.int .u32 1) (hId.tb.done 1)
  have hT6 := hT5'.drew.setCell ⟨t, 2, none⟩ (fun _ => Or.inl rfl) (.int .u32 1)
  have d3 := hI6.tb.cell 3
  have d3f := hI6.tb.fz
  simp only [List.getElem?_toArray, List.getElem?_cons_succ, List.getElem?_cons_zero] at d3
  refine leaves_cons (f := 51) (args := #[.pointer (some ⟨t, 3, none⟩)]) (by simp [settle]) (by simp [go_sem]) ?_
  refine (unlock_any ⟨t, 3, none⟩ _ _ d3 (d3f 3)).mono ?_
  rintro e u' w'' ⟨rfl, rfl, rfl⟩
  have hI7 := hI6.word 3 (.int .i32 0) (hI6.tb.lockO 0)
  have hT7 := hT6.setCell ⟨t, 3, none⟩ (fun _ => Or.inl rfl) (.int .i32 0)
  exact ⟨_, results_none rfl _ _ _, l', rfl, hI7, hT7, hn5'⟩

set_option maxRecDepth 100000 in
set_option maxHeartbeats 4000000 in
theorem do_first (B : Nat) (D : PlD) (hD : D.ok) (t p room : Nat) (f : S2) (mb : Nat) (l : List (S2 × Nat)) (pl : Nat) (w : World) (hI : TblI B w t p room D 0 0 f 0 mb l) (hp : w.heap[pl]? = some (.cells #[.pointer (some ⟨t, 0, none⟩)] 64 (0, 0))) :
    Calls Tryd.prog 48 #[.pointer (some ⟨t, 2, none⟩), .func (.func 49) #[] #[.pointer (some ⟨pl, 0, none⟩)]] w fun e w' => ∃ l', e = .returned (.tuple #[]) ∧ TblI B w' t p room D 1 0 (firstN D) 0 mb l' ∧ Turn (tbS t mb l) w w' ∧ Fresh l l' w := by
  have c2 := hI.tb.cell 2
  simp only [List.getElem?_toArray, List.getElem?_cons_succ, List.getElem?_cons_zero] at c2
  have hl := run_call_load (P := Tryd.prog) Tryd.func68 (by kernel_rfl) (by kernel_rfl) (by kernel_rfl) .u32 (by kernel_rfl) c2
  have hnot : ∀ (x : Bool) (w : World), (Op.unary .not (.bool x)).run Tryd.prog w = .ok (.bool (!x)) w := fun _ _ => rfl
  go_enter Tryd.func48, Tryd.ntmps48
  go_wp2_with (first
    | (go_at_call 62; refine (slow_any B D hD t p room f mb l pl w hI hp).mono ?_; rintro e w5 ⟨l', rfl, hI5, hT5, hn5⟩)
    | (go_at_call 61; go_in))
  go_end0
  first | exact ⟨l', rfl, hI5, hT5, hn5⟩ | exact ⟨rfl, l', hI5, hT5, hn5⟩

/-- The first state, whether or not it was asked for ahead. -/
def Firsts (D : PlD) (dn : Int) (f : S2) : Prop := dn = 0 ∨ dn = 1 ∧ f = firstN D

set_option maxRecDepth 100000 in
set_option maxHeartbeats 4000000 in
theorem tfirst_any (B : Nat) (D : PlD) (hD : D.ok) (t p room : Nat) (dn : Int) (f : S2) (mb : Nat) (l : List (S2 × Nat)) (w : World) (hI : TblI B w t p room D dn 0 f 0 mb l) (hF : Firsts D dn f) :
    Calls Tryd.prog 36 #[.pointer (some ⟨t, 0, none⟩)] w fun e w' => ∃ l', e = .returned (.agg #[.int .u64 ((firstN D).1 : Int), .int .u64 ((firstN D).2 : Int)]) ∧ TblI B w' t p room D 1 0 (firstN D) 0 mb l' ∧ Turn (tbS t mb l) w w' ∧ Fresh l l' w := by
  have hmf : ∀ (fn : Fn) (first cap : Array Value) (w : World), (Instr.makeFunc fn first cap).run Tryd.prog w = .ok (.func fn first cap) w := fun _ _ _ _ => rfl
  have hV : Below w.heap.size w ((w.alloc (.cells #[.pointer (some ⟨t, 0, none⟩)] 64)).alloc (.cells #[.int .u64 0, .int .u64 0] 58)) := ((Below.refl _ _).alloc (Nat.le_refl _) _).alloc (by simp) _
  have hp : ((w.alloc (.cells #[.pointer (some ⟨t, 0, none⟩)] 64)).alloc (.cells #[.int .u64 0, .int .u64 0] 58)).heap[w.heap.size]? = some (.cells #[.pointer (some ⟨t, 0, none⟩)] 64 (0, 0)) := heap_alloc_old (heap_alloc_at _ _) (by simp)
  have zr : ZB ((w.alloc (.cells #[.pointer (some ⟨t, 0, none⟩)] 64)).alloc (.cells #[.int .u64 0, .int .u64 0] 58)) (w.heap.size + 1) (0, 0) := by
    have h := heap_alloc_at (w.alloc (.cells #[.pointer (some ⟨t, 0, none⟩)] 64)) (.cells #[.int .u64 0, .int .u64 0] 58)
    rw [World.size_alloc] at h
    exact h
  have hIV := hI.below hV
  have hVs : ((w.alloc (.cells #[.pointer (some ⟨t, 0, none⟩)] 64)).alloc (.cells #[.int .u64 0, .int .u64 0] 58)).heap.size = w.heap.size + 1 + 1 := by simp
  have hmt := hI.tb.lt
  go_enter Tryd.func36, Tryd.ntmps36
  go_wp2_with fail
  generalize ((w.alloc (.cells #[.pointer (some ⟨t, 0, none⟩)] 64)).alloc (.cells #[.int .u64 0, .int .u64 0] 58)) = V at *
  have hdo : Calls Tryd.prog 48 #[.pointer (some ⟨t, 2, none⟩), .func (.func 49) #[] #[.pointer (some ⟨w.heap.size, 0, none⟩)]] V fun e w' => ∃ l', e = .returned (.tuple #[]) ∧ TblI B w' t p room D 1 0 (firstN D) 0 mb l' ∧ Turn (tbS t mb l) V w' ∧ Fresh l l' V := by
    rcases hF with rfl | ⟨rfl, rfl⟩
    · exact do_first B D hD t p room f mb l w.heap.size V hIV hp
    · have c2 := hIV.tb.cell 2
      simp only [List.getElem?_toArray, List.getElem?_cons_succ, List.getElem?_cons_zero] at c2
      refine (do_done ⟨t, 2, none⟩ _ V c2).mono ?_
      rintro e w' ⟨rfl, rfl⟩
      exact ⟨l, rfl, hIV, Turn.refl _ _, fun x hx => Or.inl hx⟩
  refine hdo.mono ?_
  rintro e w5 ⟨l', rfl, hI5, hT5, hn5⟩
  clear hdo
  have ltS : ∀ k, w.heap.size ≤ k → ¬ tbS t mb l k := fun k hk h => by have := (hI.ltS h).2; omega
  have hp5 : w5.heap[w.heap.size]? = some (.cells #[.pointer (some ⟨t, 0, none⟩)] 64 (0, 0)) := (hT5.block _ (by omega) (ltS _ (Nat.le_refl _))).trans hp
  have z5 : ZB w5 (w.heap.size + 1) (0, 0) := (hT5.block _ (by omega) (ltS _ (by omega))).trans zr
  have hT5' : Turn (tbS t mb l) w w5 := (Turn.ofBelow hV).trans hT5
  have hn5' : Fresh l l' w := fun x hx => by
    rcases hn5 x hx with h | h
    · exact Or.inl h
    · exact Or.inr (by omega)
  have hBr : B ≤ w.heap.size + 1 := by have := hI.gt; omega
  clear hp zr hT5 hn5 hV hIV
  have p0 : w5.cell? ⟨w.heap.size, 0, none⟩ = some (.pointer (some ⟨t, 0, none⟩)) := by simp [World.cell?, hp5]
  have e5 := hI5.tb.cell 5
  have e6 := hI5.tb.cell 6
  simp only [List.getElem?_toArray, List.getElem?_cons_succ, List.getElem?_cons_zero] at e5 e6
  have r0 := z5.c0
  have r1 := z5.c1
  have rf := z5.fz
  go_wp2_with fail
  have hs := hI5.sep z5
  have o : ∀ k, k ≠ w.heap.size + 1 → ((w5.setCell ⟨w.heap.size + 1, 0, none⟩ (.int .u64 ((firstN D).1 : Int))).setCell ⟨w.heap.size + 1, 1, none⟩ (.int .u64 ((firstN D).2 : Int))).heap[k]? = w5.heap[k]? := fun k hk => (Below.heap_setCell _ _ _ _ hk).trans (Below.heap_setCell _ _ _ _ hk)
  have hIe : TblI B ((w5.setCell ⟨w.heap.size + 1, 0, none⟩ (.int .u64 ((firstN D).1 : Int))).setCell ⟨w.heap.size + 1, 1, none⟩ (.int .u64 ((firstN D).2 : Int))) t p room D 1 0 (firstN D) 0 mb l' := hI5.keep (fun j hj => o j (fun e => hs (e ▸ hj))) (((Below.refl B w5).setCell (p := ⟨w.heap.size + 1, 0, none⟩) hBr _).setCell (p := ⟨w.heap.size + 1, 1, none⟩) hBr _)
  have hTe : Turn (tbS t mb l) w ((w5.setCell ⟨w.heap.size + 1, 0, none⟩ (.int .u64 ((firstN D).1 : Int))).setCell ⟨w.heap.size + 1, 1, none⟩ (.int .u64 ((firstN D).2 : Int))) := (hT5'.setCell ⟨w.heap.size + 1, 0, none⟩ (fun e => by have : w.heap.size + 1 < w.heap.size := e; omega) _).setCell ⟨w.heap.size + 1, 1, none⟩ (fun e => by have : w.heap.size + 1 < w.heap.size := e; omega) _
  have hze := z5.put (firstN D)
  have y0 := hze.c0
  have y1 := hze.c1
  refine bodyPost_ret (v := .agg #[.int .u64 ((firstN D).1 : Int), .int .u64 ((firstN D).2 : Int)]) (by simp [results, Tryd.results36, go_sem, y0, y1]) rfl ?_
  first | exact ⟨l', rfl, hIe, hTe, hn5'⟩ | exact ⟨rfl, l', hIe, hTe, hn5'⟩
end Go.Proofs.YtjhmlcilabnlbaaDoor
/- States: from the text's end: where a byte leads to. -/
namespace Go.Proofs.YtjhmlcilabnlbaaDoor
open Go.RowKit Go.Shelf

attribute [local go_sem] Oper.semAt_some

set_option maxRecDepth 100000 in
set_option maxHeartbeats 2000000 in
theorem into_any (D : PlD) (hD : D.ok) (p b : Nat) (hb : b < 256) (gl : S2) (hgok : gl.ok) (w : World) (hP : PlanAt w.heap.size w p D) (hT : TabIn w) :
    Calls Tryd.prog 35 #[.pointer (some ⟨p, 0, none⟩), .int .u8 (b : Int), .agg #[.int .u64 (gl.1 : Int), .int .u64 (gl.2 : Int)]] w fun e w' => e = .returned (.agg #[.int .u64 ((backL D gl (bitsN (D.mt b).1)).1 : Int), .int .u64 ((backL D gl (bitsN (D.mt b).1)).2 : Int)]) ∧ Below w.heap.size w w' := by
  have hplt := hP.plt
  have hbI : (b : Int) < 256 := by omega
  have hB0 : Below w.heap.size w ((((w.alloc (.cells #[.pointer (some ⟨p, 0, none⟩)] 62)).alloc (.cells #[.int .u64 (gl.1 : Int), .int .u64 (gl.2 : Int)] 58)).alloc (.cells #[.int .u64 0, .int .u64 0] 58)).alloc (.cells #[.int .u64 0, .int .u64 0] 58)) := (((((Below.refl _ w).alloc (Nat.le_refl _) _).alloc (by simp) _).alloc (by simp; omega) _).alloc (by simp; omega) _)
  have hPV := hP.below hB0
  obtain ⟨em1, em2⟩ := hPV.mt b hb
  refine callsIn_wide (n := 5).1 ?_
  refine callsIn_of_wp_marks Tryd.func35 rfl trivial ?_ rfl
  simp only [Tryd.ntmps35, List.size_toArray, List.length_cons, List.length_nil, Nat.reduceAdd, Nat.reduceSub, Array.replicate_succ, Array.replicate_zero, List.push_toArray, List.append_toArray, List.nil_append, List.cons_append]
  gi_wp2
  refine ⟨trivial, (callsIn_wide.2 (atoms_any _ _ _)).mono ?_⟩
  rintro e w' ⟨rfl, rfl⟩
  gi_wp2
  clear em1 em2 hPV
  have hmt := hD.mt b hb
  have hBX : Below w.heap.size w (((((w.alloc (.cells #[.pointer (some ⟨p, 0, none⟩)] 62)).alloc (.cells #[.int .u64 (gl.1 : Int), .int .u64 (gl.2 : Int)] 58)).alloc (.cells #[.int .u64 0, .int .u64 0] 58)).alloc (.cells #[.int .u64 0, .int .u64 0] 58)).alloc (.cells #[.int .u64 ((D.mt b).1 : Int), .int .u64 ((D.mt b).2 : Int)] 58)) := hB0.alloc hB0.size _
  obtain ⟨g0, g1, g2, g3⟩ := heap_four w (.cells #[.pointer (some ⟨p, 0, none⟩)] 62) (.cells #[.int .u64 (gl.1 : Int), .int .u64 (gl.2 : Int)] 58) (.cells #[.int .u64 0, .int .u64 0] 58) (.cells #[.int .u64 0, .int .u64 0] 58) _ rfl
  have hVs : ((((w.alloc (.cells #[.pointer (some ⟨p, 0, none⟩)] 62)).alloc (.cells #[.int .u64 (gl.1 : Int), .int .u64 (gl.2 : Int)] 58)).alloc (.cells #[.int .u64 0, .int .u64 0] 58)).alloc (.cells #[.int .u64 0, .int .u64 0] 58)).heap.size = w.heap.size + 1 + 1 + 1 + 1 := by simp
  generalize ((((w.alloc (.cells #[.pointer (some ⟨p, 0, none⟩)] 62)).alloc (.cells #[.int .u64 (gl.1 : Int), .int .u64 (gl.2 : Int)] 58)).alloc (.cells #[.int .u64 0, .int .u64 0] 58)).alloc (.cells #[.int .u64 0, .int .u64 0] 58)) = V at *
  have hXM : ZB (V.alloc (.cells #[.int .u64 ((D.mt b).1 : Int), .int .u64 ((D.mt b).2 : Int)] 58)) (w.heap.size + 1 + 1 + 1 + 1) (D.mt b) := by
    have h := heap_alloc_at V (.cells #[.int .u64 ((D.mt b).1 : Int), .int .u64 ((D.mt b).2 : Int)] 58)
    rw [hVs] at h
    exact h
  have hGX : ZB (V.alloc (.cells #[.int .u64 ((D.mt b).1 : Int), .int .u64 ((D.mt b).2 : Int)] 58)) (w.heap.size + 1) gl := heap_alloc_old g1 (by omega)
  have hZX : ZB (V.alloc (.cells #[.int .u64 ((D.mt b).1 : Int), .int .u64 ((D.mt b).2 : Int)] 58)) (w.heap.size + 1 + 1) (0, 0) := heap_alloc_old g2 (by omega)
  have hXL : ZB (V.alloc (.cells #[.int .u64 ((D.mt b).1 : Int), .int .u64 ((D.mt b).2 : Int)] 58)) (w.heap.size + 1 + 1 + 1) (0, 0) := heap_alloc_old g3 (by omega)
  have g0' : (V.alloc (.cells #[.int .u64 ((D.mt b).1 : Int), .int .u64 ((D.mt b).2 : Int)] 58)).heap[w.heap.size]? = some (.cells #[.pointer (some ⟨p, 0, none⟩)] 62) := heap_alloc_old g0 (by omega)
  have hXs : (V.alloc (.cells #[.int .u64 ((D.mt b).1 : Int), .int .u64 ((D.mt b).2 : Int)] 58)).heap.size = w.heap.size + 1 + 1 + 1 + 1 + 1 := by simp [hVs]
  generalize (V.alloc (.cells #[.int .u64 ((D.mt b).1 : Int), .int .u64 ((D.mt b).2 : Int)] 58)) = X at *
  have hI0 : BackI w p (w.heap.size + 1) (w.heap.size + 1 + 1 + 1) gl (0, 0) X := ⟨⟨by simp only [World.cell?, g0']; rfl, hZX.c0, hZX.c1, hGX.c0, hGX.c1, hXL.c0, hXL.c1, hZX.fz 0, hZX.fz 1, hXL.fz 0, hXL.fz 1⟩, hBX⟩
  have mixed : Tryd.prog.follows .mixedOrders = true := by kernel_rfl
  have hT0 := hT.below hBX (by omega)
  refine wpIn_rangeFunc_ownF rfl (by omega) (gf := 58) (lb := #[.pointer (some ⟨w.heap.size + 1 + 1 + 1 + 1, 0, none⟩)]) rfl trivial (enters_of Tryd.func58 (by kernel_rfl) rfl)
    (atoms_stops 4 (w.heap.size + 1 + 1 + 1 + 1) (D.mt b).1 hmt.1 _ hXM.c0 (by omega) hT0) belowK_t (belowK_b (by omega)) (Below.refl _ _) (fun _ => rfl)
    (fun (pre : List (Atom (D.mt b).1)) W => BackI w p (w.heap.size + 1) (w.heap.size + 1 + 1 + 1) gl (backL D gl (pre.map (·.1))) W) (fun _ _ _ => False)
    (BackI.own w p (w.heap.size + 1) (w.heap.size + 1 + 1 + 1) gl (fun pre : List (Atom (D.mt b).1) => backL D gl (pre.map (·.1))) _ hBX.size)
    (fun _ _ _ _ _ hs _ _ => hs) hI0
    (fun k => { tmps := #[.pointer (some ⟨p, 0, none⟩), .int .u8 (b : Int), .agg #[.int .u64 (gl.1 : Int), .int .u64 (gl.2 : Int)], .pointer (some ⟨w.heap.size, 0, none⟩), undef, .pointer (some ⟨w.heap.size + 1, 0, none⟩), .pointer (some ⟨w.heap.size + 1 + 1, 0, none⟩), .pointer (some ⟨w.heap.size + 1 + 1 + 1, 0, none⟩), (.int .i64 (k.1 : Int)), .pointer (some ⟨p, 0, none⟩), .int .u8 (b : Int), .pointer (some ⟨p, 0, none⟩), .pointer (some ⟨p, 2, none⟩), .pointer (some ⟨p, 2 + b * 2, none⟩), .agg #[.int .u64 ((D.mt b).1 : Int), .int .u64 ((D.mt b).2 : Int)], .func (.func 58) #[] #[.pointer (some ⟨w.heap.size + 1 + 1 + 1 + 1, 0, none⟩)], (.int .i64 (k.1 : Int)), undef, undef, undef, undef, undef, undef, undef, undef, undef, undef, undef, undef, undef], defers := [] }) ?assign ?body ?done ?stop
  case assign =>
    intro l k W K hK
    gi_wp2
    exact hK
  case body =>
    rintro l pre k W ⟨⟨i0, i1, i2, i3, i4, i5, i6, f0, f1, f2, f3⟩, hBW⟩ hlen
    have hPW := hP.below hBW
    obtain ⟨gx, cx, ex, lx, mx, sx⟩ := hPW.nx
    have hk := k.2.1
    have hfit := hD.fit b k.1 hb hk k.2.2
    obtain ⟨y, hy⟩ : ∃ y, D.nx[k.1]? = some y := ⟨D.nx[k.1], List.getElem?_eq_getElem hfit⟩
    have hyD : D.nx.getD k.1 (0, 0) = y := by rw [List.getD_eq_getElem?_getD, hy]; rfl
    have hyok : y.ok := hD.nx y (List.mem_of_getElem? hy)
    obtain ⟨s0, s1⟩ := sx k.1 y hy
    have hkI : (k.1 : Int) < (D.nx.length : Int) := by omega
    have hsok := backL_ok D gl (pre.map (·.1)) (fun j hj => by obtain ⟨z, -, rfl⟩ := List.mem_map.1 hj; have := z.2.1; omega)
    have hWs : w.heap.size + 1 + 1 < W.heap.size := cell_lt i1
    have hGW : w.heap.size + 1 < W.heap.size := cell_lt i3
    have hLW : w.heap.size + 1 + 1 + 1 < W.heap.size := cell_lt i5
    have key : ∀ W', Below W.heap.size W W' → W'.cell? ⟨w.heap.size, 0, none⟩ = some (.pointer (some ⟨p, 0, none⟩)) ∧ W'.cell? ⟨p, 1, none⟩ = some (.slice (some ⟨gx, 0, none⟩) D.nx.length cx) ∧ W'.cell? ⟨gx, k.1 * 2, none⟩ = some (.int .u64 (y.1 : Int)) ∧ W'.cell? ⟨gx, k.1 * 2 + 1, none⟩ = some (.int .u64 (y.2 : Int)) ∧ W'.cell? ⟨w.heap.size + 1, 0, none⟩ = some (.int .u64 (gl.1 : Int)) ∧ W'.cell? ⟨w.heap.size + 1, 1, none⟩ = some (.int .u64 (gl.2 : Int)) := fun W' h =>
      ⟨(h.cell (cell_lt i0)).trans i0, (h.cell (cell_lt ex)).trans ex, (h.cell (cell_lt s0)).trans s0, (h.cell (cell_lt s1)).trans s1, (h.cell (cell_lt i3)).trans i3, (h.cell (cell_lt i4)).trans i4⟩
    have k0 := fun W' h => (key W' h).1
    have k1 := fun W' h => (key W' h).2.1
    have k2 := fun W' h => (key W' h).2.2.1
    have k3 := fun W' h => (key W' h).2.2.2.1
    have k4 := fun W' h => (key W' h).2.2.2.2.1
    have k5 := fun W' h => (key W' h).2.2.2.2.2
    have hIW : BackI w p (w.heap.size + 1) (w.heap.size + 1 + 1 + 1) gl (backL D gl (pre.map (·.1))) W := ⟨⟨i0, i1, i2, i3, i4, i5, i6, f0, f1, f2, f3⟩, hBW⟩
    clear i0 i1 i2 i3 i4 i5 i6 f0 f1 f2 f3 ex s0 s1 sx hPW key
    have hsn := backL_snoc D gl (pre.map (·.1)) k.1
    rw [hyD] at hsn
    have HSN : Hid (backL D gl ((pre ++ [k]).map (·.1)) = if y.meets gl then (backL D gl (pre.map (·.1))).or (S2.bit k.1) else backL D gl (pre.map (·.1))) := by
      unfold Hid; rw [show (pre ++ [k]).map (·.1) = pre.map (·.1) ++ [k.1] by simp]; exact hsn
    clear hsn
    generalize backL D gl (pre.map (·.1)) = acc at *
    gi_wp2
    refine region_quiet (C := fun W' => Below W.heap.size W W') (by kernel_rfl) mixed (by kernel_rfl) ((Below.refl _ _).drew) ?_
    refine wpQuietIn_step (fun _ _ _ _ => trivial) (fun K hK => ?_)
    go_simp
    refine ⟨.pointer (some ⟨p, 0, none⟩), fun w' hC => by simp [k0 w' hC], hK _ ?_⟩
    clear hK K
    refine wpQuietIn_step (fun _ _ _ _ => trivial) (fun K hK => ?_)
    go_simp
    refine ⟨_, fun _ _ => rfl, hK _ ?_⟩
    clear hK K
    refine wpQuietIn_step (fun _ _ _ _ => trivial) (fun K hK => ?_)
    go_simp
    refine ⟨_, fun _ _ => rfl, hK _ ?_⟩
    clear hK K
    refine wpQuietIn_step (fun _ _ _ _ => trivial) (fun K hK => ?_)
    go_simp
    refine ⟨.slice (some ⟨gx, 0, none⟩) D.nx.length cx, fun w' hC => by simp [k1 w' hC], hK _ ?_⟩
    clear hK K
    refine wpQuietIn_step (fun _ _ _ _ => trivial) (fun K hK => ?_)
    go_simp
    refine ⟨_, fun _ _ => rfl, hK _ ?_⟩
    clear hK K
    refine wpQuietIn_step (fun _ _ _ _ => trivial) (fun K hK => ?_)
    go_simp
    refine ⟨_, fun _ _ => rfl, hK _ ?_⟩
    clear hK K
    refine wpQuietIn_step (fun _ _ _ _ => trivial) (fun K hK => ?_)
    go_simp
    refine ⟨.agg #[.int .u64 (y.1 : Int), .int .u64 (y.2 : Int)], fun w' hC => by simp [k2 w' hC, k3 w' hC], hK _ ?_⟩
    clear hK K
    refine wpQuietIn_step (fun _ _ _ _ => trivial) (fun K hK => ?_)
    go_simp
    refine ⟨.agg #[.int .u64 (gl.1 : Int), .int .u64 (gl.2 : Int)], fun w' hC => by simp [k4 w' hC, k5 w' hC], hK _ ?_⟩
    clear hK K
    refine wpQuietIn_step (fun _ _ _ _ => trivial) (fun K hK => ?_)
    go_simp
    refine ⟨_, fun w' hC => (CallsIn.inRound l (callsIn_wide.2 (meets_nat y gl hyok hgok w'))).mono (fun e w'' hx => ⟨hx.1, hC.trans (hx.2.mono hC.size)⟩), hK _ ?_⟩
    clear hK K
    refine wpQuietIn_nil ?_
    intro w3 hB3
    have hB1 : Below 1 W w3 := hB3.mono (by omega)
    have hKO := keeps_below hB3
    clear k0 k1 k2 k3 k4 k5
    have hI3 := hIW.below hB3
    cases hme : y.meets gl with
    | false =>
      rw [hme] at HSN
      gi_wp2
      refine ⟨hKO, hB1, ?_⟩
      show BackI w p (w.heap.size + 1) (w.heap.size + 1 + 1 + 1) gl (backL D gl ((pre ++ [k]).map (·.1))) w3
      rw [HSN.out]
      exact hI3
    | true =>
      rw [hme] at HSN
      obtain ⟨⟨i0, i1, i2, i3, i4, i5, i6, f0, f1, f2, f3⟩, hBW3⟩ := hI3
      gi_wp2
      refine ⟨trivial, (CallsIn.inRound l (callsIn_wide.2 (with_nat acc k.1 hsok (by omega) _))).mono ?_⟩
      rintro e w5 ⟨rfl, hB5⟩
      have hI5 := BackI.below ⟨⟨i0, i1, i2, i3, i4, i5, i6, f0, f1, f2, f3⟩, hBW3⟩ hB5
      have hL3 : w.heap.size + 1 + 1 + 1 < w3.heap.size := cell_lt i5
      clear i0 i1 i2 i3 i4 i5 i6 f0 f1 f2 f3
      obtain ⟨⟨i0, i1, i2, i3, i4, i5, i6, f0, f1, f2, f3⟩, hBW5⟩ := hI5
      gi_wp2
      refine ⟨(hKO.trans (keeps_below hB5)).trans ((KeepsOthers.setCell _ _ _).trans (KeepsOthers.setCell _ _ _)), ?_, ?_⟩
      · exact ((hB1.trans (hB5.mono (by omega))).setCell (p := ⟨w.heap.size + 1 + 1 + 1, 0, none⟩) (by show 1 ≤ w.heap.size + 1 + 1 + 1; omega) _).setCell (p := ⟨w.heap.size + 1 + 1 + 1, 1, none⟩) (by show 1 ≤ w.heap.size + 1 + 1 + 1; omega) _
      · show BackI w p (w.heap.size + 1) (w.heap.size + 1 + 1 + 1) gl (backL D gl ((pre ++ [k]).map (·.1))) _
        rw [HSN.out]
        exact BackI.store ⟨⟨i0, i1, i2, i3, i4, i5, i6, f0, f1, f2, f3⟩, hBW5⟩ (by omega) (by omega) _
  case done =>
    rintro D' ys W hD' hS ⟨⟨i0, i1, i2, i3, i4, i5, i6, f0, f1, f2, f3⟩, hBW⟩ hK
    have hSt : backL D gl (ys.map (·.1)) = backL D gl (bitsN (D.mt b).1) := by rw [hS]
    rw [hSt] at i5 i6
    clear hS hSt
    obtain ⟨R, hRe⟩ : ∃ R, backL D gl (bitsN (D.mt b).1) = R := ⟨_, rfl⟩
    rw [hRe] at i5 i6
    have HRe := hid hRe
    clear hRe
    gi_wp2
    go_wp2_with fail
    have hK' := ((KeepsOthers.setCell W ⟨w.heap.size + 1 + 1, 0, none⟩ (.int .u64 (R.1 : Int))).trans (KeepsOthers.setCell _ ⟨w.heap.size + 1 + 1, 1, none⟩ (.int .u64 (R.2 : Int)))).same D' _ hK rfl
    have c0 : ((W.setCell ⟨w.heap.size + 1 + 1, 0, none⟩ (.int .u64 (R.1 : Int))).setCell ⟨w.heap.size + 1 + 1, 1, none⟩ (.int .u64 (R.2 : Int))).cell? ⟨w.heap.size + 1 + 1, 0, none⟩ = some (.int .u64 (R.1 : Int)) := by go_simp
    have c1 : ((W.setCell ⟨w.heap.size + 1 + 1, 0, none⟩ (.int .u64 (R.1 : Int))).setCell ⟨w.heap.size + 1 + 1, 1, none⟩ (.int .u64 (R.2 : Int))).cell? ⟨w.heap.size + 1 + 1, 1, none⟩ = some (.int .u64 (R.2 : Int)) := by go_simp
    have d0 := cell_kept c0 (grownBy_putObj' _ D' (.deferred none)) (fun r e => by cases e; exact ⟨_, hK', rfl⟩)
    have d1 := cell_kept c1 (grownBy_putObj' _ D' (.deferred none)) (fun r e => by cases e; exact ⟨_, hK', rfl⟩)
    have hBe := ((hBW.setCell (p := ⟨w.heap.size + 1 + 1, 0, none⟩) (by show w.heap.size ≤ w.heap.size + 1 + 1; omega) (.int .u64 (R.1 : Int))).setCell (p := ⟨w.heap.size + 1 + 1, 1, none⟩) (by show w.heap.size ≤ w.heap.size + 1 + 1; omega) (.int .u64 (R.2 : Int))).trans (belowK_b (w := w) (Nat.le_refl _) _ D' _ (.deferred none) (by omega) hK' rfl rfl)
    refine ⟨by simp, .inl ⟨_, _, rfl, run_takeDeferred hK', ?_⟩⟩
    refine ⟨.agg #[.int .u64 (R.1 : Int), .int .u64 (R.2 : Int)], ?_, by rw [HRe.out], hBe⟩
    simp [results, Tryd.f35, go_sem, d0, d1]
  case stop =>
    rintro D' c pre W _ _ h _
    exact h.elim

set_option maxHeartbeats 1000000 in
theorem back_any (D : PlD) (hD : D.ok) (p b : Nat) (hb : b < 256) (x : S2) (hx : x.ok) (w : World) (hP : PlanAt w.heap.size w p D) (hT : TabIn w) :
    Calls Tryd.prog 24 #[.pointer (some ⟨p, 0, none⟩), .int .u8 (b : Int), .agg #[.int .u64 (x.1 : Int), .int .u64 (x.2 : Int)]] w fun e w' => e = .returned (.agg #[.int .u64 ((backN D b x).1 : Int), .int .u64 ((backN D b x).2 : Int)]) ∧ Below w.heap.size w w' := by
  obtain ⟨n0, n1⟩ := hP.en
  have hplt := hP.plt
  have mixed : Tryd.prog.follows .mixedOrders = true := by kernel_rfl
  have hB0 : Below w.heap.size w ((w.alloc (.cells #[.int .u64 (x.1 : Int), .int .u64 (x.2 : Int)] 58)).alloc (.cells #[.int .u64 0, .int .u64 0] 58)) := ((Below.refl _ w).alloc (Nat.le_refl _) _).alloc (by simp) _
  go_enter Tryd.func24, Tryd.ntmps24
  go_wp2_with fail
  have z0 : ZB ((w.alloc (.cells #[.int .u64 (x.1 : Int), .int .u64 (x.2 : Int)] 58)).alloc (.cells #[.int .u64 0, .int .u64 0] 58)) w.heap.size x := heap_alloc_old (heap_alloc_at _ _) (by simp)
  have z1 : ZB ((w.alloc (.cells #[.int .u64 (x.1 : Int), .int .u64 (x.2 : Int)] 58)).alloc (.cells #[.int .u64 0, .int .u64 0] 58)) (w.heap.size + 1) (0, 0) := by
    have h := heap_alloc_at (w.alloc (.cells #[.int .u64 (x.1 : Int), .int .u64 (x.2 : Int)] 58)) (.cells #[.int .u64 0, .int .u64 0] 58)
    rw [World.size_alloc] at h
    exact h
  generalize ((w.alloc (.cells #[.int .u64 (x.1 : Int), .int .u64 (x.2 : Int)] 58)).alloc (.cells #[.int .u64 0, .int .u64 0] 58)) = V at *
  have hVs := hB0.size
  have k0 : ∀ W', Below V.heap.size V W' → ZB W' w.heap.size x := fun W' h => (h.block _ z0.lt).trans z0
  have k1 : ∀ W', Below V.heap.size V W' → ZB W' (w.heap.size + 1) (0, 0) := fun W' h => (h.block _ z1.lt).trans z1
  have k2 : ∀ W', Below V.heap.size V W' → PlanAt W'.heap.size W' p D := fun W' h => by
    have h1 := hP.below (hB0.trans (h.mono hVs))
    have hs : w.heap.size ≤ W'.heap.size := Nat.le_trans hVs h.size
    obtain ⟨a1, a2, a3, a4, a5⟩ := h1
    obtain ⟨g1, c1, e1, l1, m1, s1⟩ := a2
    obtain ⟨g2, c2, e2, l2, m2, s2⟩ := a3
    exact ⟨by omega, ⟨g1, c1, e1, by omega, m1, s1⟩, ⟨g2, c2, e2, by omega, m2, s2⟩, a4, a5⟩
  have k3 : ∀ W', Below V.heap.size V W' → TabIn W' := fun W' h => hT.below (hB0.trans (h.mono hVs)) (by omega)
  have hxe : (x.or D.en).ok := S2.or_ok hx hD.en
  refine (wpIn_wide (n := 5)).1 (region_tail (C := fun W' => Below V.heap.size V W') 9 (by kernel_rfl) mixed (by kernel_rfl) ((Below.refl _ _).drew) rfl ?_)
  dsimp only [List.take]
  refine wpQuietIn_step (fun _ _ _ _ => trivial) (fun K hK => ?_)
  go_simp
  refine ⟨_, fun _ _ => rfl, hK _ ?_⟩
  clear hK K
  refine wpQuietIn_step (fun _ _ _ _ => trivial) (fun K hK => ?_)
  go_simp
  refine ⟨_, fun _ _ => rfl, hK _ ?_⟩
  clear hK K
  refine wpQuietIn_step (fun _ _ _ _ => trivial) (fun K hK => ?_)
  go_simp
  refine ⟨.agg #[.int .u64 (x.1 : Int), .int .u64 (x.2 : Int)], fun w' hC => by simp [(k0 w' hC).c0, (k0 w' hC).c1], hK _ ?_⟩
  clear hK K
  refine wpQuietIn_step (fun _ _ _ _ => trivial) (fun K hK => ?_)
  go_simp
  refine ⟨_, fun _ _ => rfl, hK _ ?_⟩
  clear hK K
  refine wpQuietIn_step (fun _ _ _ _ => trivial) (fun K hK => ?_)
  go_simp
  refine ⟨_, fun _ _ => rfl, hK _ ?_⟩
  clear hK K
  refine wpQuietIn_step (fun _ _ _ _ => trivial) (fun K hK => ?_)
  go_simp
  refine ⟨_, fun _ _ => rfl, hK _ ?_⟩
  clear hK K
  refine wpQuietIn_step (fun _ _ _ _ => trivial) (fun K hK => ?_)
  go_simp
  refine ⟨.agg #[.int .u64 (D.en.1 : Int), .int .u64 (D.en.2 : Int)], fun w' hC => by simp [(k2 w' hC).en.1, (k2 w' hC).en.2], hK _ ?_⟩
  clear hK K
  refine wpQuietIn_step (fun _ _ _ _ => trivial) (fun K hK => ?_)
  go_simp
  refine ⟨_, fun w' hC => (callsIn_wide.2 (union_nat x D.en hx hD.en w')).mono (fun e w'' hx => ⟨hx.1, hC.trans (hx.2.mono hC.size)⟩), hK _ ?_⟩
  clear hK K
  refine wpQuietIn_step (fun _ _ _ _ => trivial) (fun K hK => ?_)
  go_simp
  refine ⟨_, fun w' hC => (callsIn_wide.2 (into_any D hD p b hb (x.or D.en) hxe w' (k2 w' hC) (k3 w' hC))).mono (fun e w'' hx => ⟨hx.1, hC.trans (hx.2.mono hC.size)⟩), hK _ ?_⟩
  clear hK K
  refine wpQuietIn_nil ?_
  intro w9 hB9
  have d := k1 w9 hB9
  have d0 := d.c0
  have d1 := d.c1
  have df := d.fz
  rw [wpOpsIn_cons]
  refine wpOpIn_step rfl (fun K hK => ?_)
  go_simp
  refine hK _ _ ?_
  clear hK K
  simp only [wpOpsIn]
  have HR : Hid (backL D (x.or D.en) (bitsN (D.mt b).1) = backN D b x) := rfl
  generalize backL D (x.or D.en) (bitsN (D.mt b).1) = R at *
  have hE := d.put R
  have e0 := hE.c0
  have e1 := hE.c1
  have hBE := ((hB0.trans (hB9.mono hVs)).setCell (p := ⟨w.heap.size + 1, 0, none⟩) (by show w.heap.size ≤ w.heap.size + 1; omega) (.int .u64 (R.1 : Int))).setCell (p := ⟨w.heap.size + 1, 1, none⟩) (by show w.heap.size ≤ w.heap.size + 1; omega) (.int .u64 (R.2 : Int))
  go_wp2_with fail
  exact bodyPost_ret (v := .agg #[.int .u64 (R.1 : Int), .int .u64 (R.2 : Int)]) (by simp [results, Tryd.results24, go_sem, e0, e1]) rfl ⟨by rw [HR.out], hBE⟩
end Go.Proofs.YtjhmlcilabnlbaaDoor
/- The lexer: a new table; a text that is being read. -/
namespace Go.Proofs.YtjhmlcilabnlbaaDoor
open Go.RowKit Go.Shelf

attribute [local go_sem] Oper.semAt_some

set_option maxRecDepth 100000 in
set_option maxHeartbeats 4000000 in
theorem newtable_any (p room : Nat) (w : World) :
    Calls Tryd.prog 18 #[.pointer (some ⟨p, 0, none⟩), .int .i64 (room : Int)] w fun e w' => ∃ t mb, e = .returned (.pointer (some ⟨t, 0, none⟩)) ∧ w.heap.size ≤ t ∧ w.heap.size ≤ mb ∧ t ≠ mb ∧ TB w' t p room 0 0 (0, 0) 0 mb ∧ MapAt w' mb [] ∧ Below w.heap.size w w' := by
  have hmm : (Instr.makeMap 88 none).run Tryd.prog w = .ok (.map (some w.heap.size)) (w.alloc (.map #[] 0)) := rfl
  have hB : Below w.heap.size w (w.alloc (.map #[] 0)) := (Below.refl _ _).alloc (Nat.le_refl _) _
  have hm : (w.alloc (.map #[] 0)).heap[w.heap.size]? = some (.map #[] 0) := heap_alloc_at _ _
  have hs : (w.alloc (.map #[] 0)).heap.size = w.heap.size + 1 := by simp
  go_enter Tryd.func18, Tryd.ntmps18
  go_wp2_with fail
  have hB2 : Below w.heap.size w ((w.alloc (.map #[] 0)).alloc (.cells #[.pointer (some ⟨p, 0, none⟩), .int .i64 (room : Int), .int .u32 0, .int .i32 0, .int .u32 0, .int .u64 0, .int .u64 0, .int .i32 0, .int .u32 0, .map (some w.heap.size)] 102)) := hB.alloc hB.size _
  have ht := heap_alloc_at (w.alloc (.map #[] 0)) (.cells #[.pointer (some ⟨p, 0, none⟩), .int .i64 (room : Int), .int .u32 0, .int .i32 0, .int .u32 0, .int .u64 0, .int .u64 0, .int .i32 0, .int .u32 0, .map (some w.heap.size)] 102)
  rw [hs] at ht
  have hm2 : ((w.alloc (.map #[] 0)).alloc (.cells #[.pointer (some ⟨p, 0, none⟩), .int .i64 (room : Int), .int .u32 0, .int .i32 0, .int .u32 0, .int .u64 0, .int .u64 0, .int .i32 0, .int .u32 0, .map (some w.heap.size)] 102)).heap[w.heap.size]? = some (.map #[] 0) := heap_alloc_old hm (by simp)
  go_ret
  exact ⟨w.heap.size + 1, w.heap.size, rfl, by omega, Nat.le_refl _, by omega, ht, ⟨#[], 0, hm2, rfl⟩, hB2⟩

/-- A row of sets, by place. -/
def Led (w : World) (lb n : Nat) (f : Nat → S2) : Prop :=
  ∃ cs : Array Value, w.heap[lb]? = some (.cells cs 58 (0, 0)) ∧ cs.size = (n + 1) * 2 ∧ ∀ i, i ≤ n → cs[i * 2]? = some (.int .u64 ((f i).1 : Int)) ∧ cs[i * 2 + 1]? = some (.int .u64 ((f i).2 : Int))
/-- A reading's block. -/
def RdB (w : World) (r lx : Nat) (s : ByteArray) (lb : Nat) : Prop := w.heap[r]? = some (.cells #[.pointer (some ⟨lx, 0, none⟩), .string s, .slice (some ⟨lb, 0, none⟩) (s.size + 1) (s.size + 1)] 77 (0, 0))
theorem Led.lt {w : World} {lb n : Nat} {f : Nat → S2} (h : Led w lb n f) : lb < w.heap.size := by
  obtain ⟨cs, hc, -⟩ := h
  exact (Array.getElem?_eq_some_iff.1 hc).1
theorem Led.keep {w w' : World} {lb n : Nat} {f : Nat → S2} (h : Led w lb n f) (k : w'.heap[lb]? = w.heap[lb]?) : Led w' lb n f := by
  obtain ⟨cs, hc, h2⟩ := h
  exact ⟨cs, k.trans hc, h2⟩
theorem Led.cells {w : World} {lb n : Nat} {f : Nat → S2} (h : Led w lb n f) {i : Nat} (hi : i ≤ n) : w.cell? ⟨lb, i * 2, none⟩ = some (.int .u64 ((f i).1 : Int)) ∧ w.cell? ⟨lb, i * 2 + 1, none⟩ = some (.int .u64 ((f i).2 : Int)) := by
  obtain ⟨cs, hc, -, h3⟩ := h
  exact ⟨by simp [World.cell?, hc, (h3 i hi).1], by simp [World.cell?, hc, (h3 i hi).2]⟩
theorem Led.fz {w : World} {lb n : Nat} {f : Nat → S2} (h : Led w lb n f) (k : Nat) : w.frozen? ⟨lb, k, none⟩ = false := by
  obtain ⟨cs, hc, -⟩ := h
  simp [World.frozen?, hc]
theorem Led.put {w : World} {lb n : Nat} {f : Nat → S2} (h : Led w lb n f) {i : Nat} (hi : i ≤ n) (z : S2) : Led ((w.setCell ⟨lb, i * 2, none⟩ (.int .u64 (z.1 : Int))).setCell ⟨lb, i * 2 + 1, none⟩ (.int .u64 (z.2 : Int))) lb n (fun j => if j = i then z else f j) := by
  obtain ⟨cs, hc, h2, h3⟩ := h
  refine ⟨(cs.setIfInBounds (i * 2) (.int .u64 (z.1 : Int))).setIfInBounds (i * 2 + 1) (.int .u64 (z.2 : Int)), hset (hset hc _) _, by simpa using h2, fun j hj => ?_⟩
  by_cases e : j = i
  · subst e
    simp only [if_true]
    refine ⟨?_, ?_⟩
    · rw [Array.getElem?_setIfInBounds_ne (by omega), Array.getElem?_setIfInBounds_self_of_lt (by omega)]
    · rw [Array.getElem?_setIfInBounds_self_of_lt (by simp; omega)]
  · simp only [if_neg e]
    refine ⟨?_, ?_⟩
    · rw [Array.getElem?_setIfInBounds_ne (by omega), Array.getElem?_setIfInBounds_ne (by omega)]; exact (h3 j hj).1
    · rw [Array.getElem?_setIfInBounds_ne (by omega), Array.getElem?_setIfInBounds_ne (by omega)]; exact (h3 j hj).2
theorem RdB.lt {w : World} {r lx : Nat} {s : ByteArray} {lb : Nat} (h : RdB w r lx s lb) : r < w.heap.size := (Array.getElem?_eq_some_iff.1 h).1
theorem RdB.c0 {w : World} {r lx : Nat} {s : ByteArray} {lb : Nat} (h : RdB w r lx s lb) : w.cell? ⟨r, 0, none⟩ = some (.pointer (some ⟨lx, 0, none⟩)) := by simp [World.cell?, show w.heap[r]? = _ from h]
theorem RdB.c1 {w : World} {r lx : Nat} {s : ByteArray} {lb : Nat} (h : RdB w r lx s lb) : w.cell? ⟨r, 1, none⟩ = some (.string s) := by simp [World.cell?, show w.heap[r]? = _ from h]
theorem RdB.c2 {w : World} {r lx : Nat} {s : ByteArray} {lb : Nat} (h : RdB w r lx s lb) : w.cell? ⟨r, 2, none⟩ = some (.slice (some ⟨lb, 0, none⟩) (s.size + 1) (s.size + 1)) := by simp [World.cell?, show w.heap[r]? = _ from h]

set_option maxRecDepth 100000 in
set_option maxHeartbeats 4000000 in
theorem read_any (lx : Nat) (s : ByteArray) (hs : s.size ≤ 1048576) (w : World) :
    Calls Tryd.prog 14 #[.pointer (some ⟨lx, 0, none⟩), .string s] w fun e w' => ∃ r lb, e = .returned (.pointer (some ⟨r, 0, none⟩)) ∧ w.heap.size ≤ r ∧ w.heap.size ≤ lb ∧ r ≠ lb ∧ RdB w' r lx s lb ∧ Led w' lb s.size (fun _ => (0, 0)) ∧ Below w.heap.size w w' := by
  obtain ⟨i0, hi0, hz0, hz1, hz2⟩ := info_parts Tryd.info58
  have hmk := run_makeSlice (P := Tryd.prog) w 75 58 i0 _ Tryd.underlying75 hi0 hz0 .i64 .i64 ((s.size : Int) + 1) ((s.size : Int) + 1) (by omega) (Int.le_refl _) (by rw [hz1]; omega) (by rw [hz2]; omega) (by omega)
  have e1 : ((s.size : Int) + 1).toNat = s.size + 1 := by omega
  rw [e1, hz1] at hmk
  have hL : Led (w.alloc (.cells (madeCells (Value.agg #[.int .u64 0, .int .u64 0]).cells ((s.size + 1) * 2)) 58)) w.heap.size s.size (fun _ => (0, 0)) := by
    refine ⟨_, heap_alloc_at _ _, by rw [size_madeCells], fun i hi => ?_⟩
    have g : ∀ j, j < (s.size + 1) * 2 → (madeCells (Value.agg #[.int .u64 0, .int .u64 0]).cells ((s.size + 1) * 2))[j]? = some (.int .u64 0) := fun j hj => by
      have hm : j % 2 = 0 ∨ j % 2 = 1 := by omega
      rcases hm with hm | hm <;> simp [madeCells, Value.cells, hj, hm]
    exact ⟨g _ (by omega), g _ (by omega)⟩
  have hB : Below w.heap.size w (w.alloc (.cells (madeCells (Value.agg #[.int .u64 0, .int .u64 0]).cells ((s.size + 1) * 2)) 58)) := (Below.refl _ _).alloc (Nat.le_refl _) _
  have hsz : (w.alloc (.cells (madeCells (Value.agg #[.int .u64 0, .int .u64 0]).cells ((s.size + 1) * 2)) 58)).heap.size = w.heap.size + 1 := by simp
  go_enter Tryd.func14, Tryd.ntmps14
  go_wp2_with fail
  have hL' : Led (w.alloc (.cells (madeCells #[.int .u64 0, .int .u64 0] ((s.size + 1) * 2)) 58)) w.heap.size s.size (fun _ => (0, 0)) := hL
  have hB' : Below w.heap.size w (w.alloc (.cells (madeCells #[.int .u64 0, .int .u64 0] ((s.size + 1) * 2)) 58)) := hB
  have hsz' : (w.alloc (.cells (madeCells #[.int .u64 0, .int .u64 0] ((s.size + 1) * 2)) 58)).heap.size = w.heap.size + 1 := hsz
  clear hL hB hsz hmk
  generalize (w.alloc (.cells (madeCells #[.int .u64 0, .int .u64 0] ((s.size + 1) * 2)) 58)) = V at *
  have hr := heap_alloc_at V (.cells #[.pointer (some ⟨lx, 0, none⟩), .string s, .slice (some ⟨w.heap.size, 0, none⟩) (s.size + 1) (s.size + 1)] 77)
  rw [hsz'] at hr
  have hL2 := hL'.keep (Below.heap_alloc V (.cells #[.pointer (some ⟨lx, 0, none⟩), .string s, .slice (some ⟨w.heap.size, 0, none⟩) (s.size + 1) (s.size + 1)] 77) _ hL'.lt)
  have hB2 := hB'.alloc hB'.size (.cells #[.pointer (some ⟨lx, 0, none⟩), .string s, .slice (some ⟨w.heap.size, 0, none⟩) (s.size + 1) (s.size + 1)] 77)
  go_ret
  exact ⟨w.heap.size + 1, w.heap.size, rfl, by omega, Nat.le_refl _, by omega, hr, hL2, hB2⟩

/-- A byte of a text, as a number. -/
def byteN (s : ByteArray) (i : Nat) : Nat := if h : i < s.size then s[i].toNat else 0
theorem byteN_lt (s : ByteArray) (i : Nat) : byteN s i < 256 := by
  unfold byteN
  split
  · exact UInt8.toNat_lt _
  · decide
theorem byteN_at {s : ByteArray} {i : Nat} (h : i < s.size) : s[i].toNat = byteN s i := by unfold byteN; rw [dif_pos h]
/-- From the end: by which atoms the last k bytes lead to an end. -/
def leadK (D : PlD) (s : ByteArray) : Nat → S2
  | 0 => (0, 0)
  | k + 1 => backN D (byteN s (s.size - (k + 1))) (leadK D s k)
def leadN (D : PlD) (s : ByteArray) (i : Nat) : S2 := leadK D s (s.size - i)
/-- The places behind m are worked out. -/
def leadTo (D : PlD) (s : ByteArray) (m : Nat) (i : Nat) : S2 := if m ≤ i then leadN D s i else (0, 0)

theorem leadN_step (D : PlD) (s : ByteArray) {m : Nat} (hm : m < s.size) : leadN D s m = backN D (byteN s m) (leadN D s (m + 1)) := by
  unfold leadN
  rw [show s.size - m = (s.size - (m + 1)) + 1 by omega]
  show backN D (byteN s (s.size - (s.size - (m + 1) + 1))) _ = _
  rw [show s.size - (s.size - (m + 1) + 1) = m by omega]
theorem leadN_end (D : PlD) (s : ByteArray) : leadN D s s.size = (0, 0) := by unfold leadN; rw [Nat.sub_self]; rfl
theorem leadTo_end (D : PlD) (s : ByteArray) : ∀ i, i ≤ s.size → leadTo D s s.size i = (0, 0) := by
  intro i hi
  unfold leadTo
  split
  · rw [show i = s.size by omega]; exact leadN_end D s
  · rfl
theorem leadTo_step (D : PlD) (s : ByteArray) (m : Nat) : (fun j => if j = m then leadN D s m else leadTo D s (m + 1) j) = leadTo D s m := by
  funext j
  unfold leadTo
  by_cases e : j = m
  · subst e; rw [if_pos rfl, if_pos (Nat.le_refl _)]
  · rw [if_neg e]
    by_cases h : m + 1 ≤ j
    · rw [if_pos h, if_pos (by omega)]
    · rw [if_neg h, if_neg (by omega)]
theorem leadTo_zero (D : PlD) (s : ByteArray) : leadTo D s 0 = leadN D s := by funext i; unfold leadTo; rw [if_pos (Nat.zero_le _)]
theorem backN_ok (D : PlD) (b : Nat) (x : S2) : (backN D b x).ok := backL_ok D _ _ (fun k hk => by have := (mem_bitsN.1 hk).1; omega)
theorem leadK_ok (D : PlD) (s : ByteArray) : ∀ k, (leadK D s k).ok
  | 0 => S2.zero_ok
  | _ + 1 => backN_ok D _ _

set_option maxRecDepth 100000 in
set_option maxHeartbeats 4000000 in
theorem lead_any (B : Nat) (hB1 : 1 ≤ B) (D : PlD) (hD : D.ok) (lx p t r lb : Nat) (s : ByteArray) (hs : s.size ≤ 1048576) (w : World) (hR : RdB w r lx s lb) (hL : Led w lb s.size (fun _ => (0, 0))) (hX : w.heap[lx]? = some (.cells #[.pointer (some ⟨p, 0, none⟩), .pointer (some ⟨t, 0, none⟩)] 67 (0, 0))) (hP : PlanAt B w p D) (hlb : B ≤ lb) (hT : TabIn w) :
    Calls Tryd.prog 15 #[.pointer (some ⟨r, 0, none⟩), .int .i64 0, .int .i64 (s.size : Int)] w fun e w' => e = .returned (.tuple #[]) ∧ Led w' lb s.size (leadN D s) ∧ Turn (fun k => k = lb) w w' := by
  have hV : Below w.heap.size w (w.alloc (.cells #[.int .u64 0, .int .u64 0] 58)) := (Below.refl _ _).alloc (Nat.le_refl _) _
  have hlt := hL.lt
  have hrlt := hR.lt
  have hxlt : lx < w.heap.size := (Array.getElem?_eq_some_iff.1 hX).1
  have hrl : r ≠ lb := fun e => by
    obtain ⟨cs, hc, -⟩ := hL
    have h : w.heap[r]? = _ := hR
    rw [e, hc] at h
    simp at h
  have hxl : lx ≠ lb := fun e => by
    obtain ⟨cs, hc, -⟩ := hL
    rw [e, hc] at hX
    simp at hX
  have zV : ZB (w.alloc (.cells #[.int .u64 0, .int .u64 0] 58)) w.heap.size (0, 0) := heap_alloc_at _ _
  have hLV : Led (w.alloc (.cells #[.int .u64 0, .int .u64 0] 58)) lb s.size (leadTo D s s.size) := by
    obtain ⟨cs, hc, h2, h3⟩ := hL.keep (Below.heap_alloc w (.cells #[.int .u64 0, .int .u64 0] 58) _ hlt)
    exact ⟨cs, hc, h2, fun i hi => by rw [leadTo_end D s i hi]; exact h3 i hi⟩
  have hTV : Turn (fun k => k = lb) w (w.alloc (.cells #[.int .u64 0, .int .u64 0] 58)) := Turn.ofBelow hV
  have mixed : Tryd.prog.follows .mixedOrders = true := by kernel_rfl
  go_enter Tryd.func15, Tryd.ntmps15
  go_wp2_with fail
  generalize (w.alloc (.cells #[.int .u64 0, .int .u64 0] 58)) = V at *
  go_loopg [7] s.size (fun gk ix wr => gk ≤ s.size ∧ ix = .int .i64 ((gk : Int) - 1) ∧ ZB wr w.heap.size (leadN D s gk) ∧ Led wr lb s.size (leadTo D s gk) ∧ Turn (fun k => k = lb) w wr)
  case atStart => exact ⟨Nat.le_refl _, by go_num, by rw [leadN_end]; exact zV, hLV, hTV⟩
  case round =>
    obtain ⟨hgk, rfl, hZ, hLr, hTr⟩ := hrel
    by_cases hg0 : gk = 0
    · subst hg0
      have hneg : ¬ (0 : Int) ≤ ((0 : Nat) : Int) - 1 := by omega
      rw [leadTo_zero] at hLr
      go_wp2_with fail
      go_end0
      exact ⟨rfl, hLr, hTr⟩
    · obtain ⟨m, rfl⟩ : ∃ m, gk = m + 1 := ⟨gk - 1, by omega⟩
      have hix : (((m + 1 : Nat) : Int) - 1) = (m : Int) := by omega
      rw [hix]
      have hml : m < s.size := by omega
      have hmI : (m : Int) < (s.size : Int) := by omega
      have h0m : (0 : Int) ≤ (m : Int) := by omega
      have hst := leadN_step D s hml
      have hzok : (leadN D s (m + 1)).ok := leadK_ok D s _
      have hBT : Below B w wr := hTr.toBelow (by omega) (fun j hj e => by omega)
      have hRr : RdB wr r lx s lb := (hTr.block r hrlt hrl).trans hR
      have hXr := (hTr.block lx hxlt hxl).trans hX
      have hsz := hTr.size
      have hzl := hZ.lt
      have key : ∀ W', Below wr.heap.size wr W' → RdB W' r lx s lb ∧ W'.cell? ⟨lx, 0, none⟩ = some (.pointer (some ⟨p, 0, none⟩)) ∧ ZB W' w.heap.size (leadN D s (m + 1)) ∧ PlanAt W'.heap.size W' p D ∧ TabIn W' ∧ Led W' lb s.size (leadTo D s (m + 1)) := fun W' h => by
        have hw := h.size
        have hB' : Below B w W' := hBT.trans (h.mono (by omega))
        have hx' : W'.heap[lx]? = _ := (h.block lx (by omega)).trans hXr
        refine ⟨(h.block r (by omega)).trans hRr, by simp [World.cell?, hx'], (h.block _ hzl).trans hZ, (hP.below hB').up (by omega), hT.below hB' (by omega), hLr.keep (h.block lb (by omega))⟩
      have k0 := fun W' h => (key W' h).1
      have k1 := fun W' h => (key W' h).2.1
      have k2 := fun W' h => (key W' h).2.2.1
      have k3 := fun W' h => (key W' h).2.2.2.1
      have k4 := fun W' h => (key W' h).2.2.2.2.1
      have k5 := fun W' h => (key W' h).2.2.2.2.2
      have HBY := hid (byteN_at hml)
      have hbl := byteN_lt s m
      clear key
      go_wp2_with fail
      refine (wpIn_wide (n := 5)).1 (region_tail (C := fun W' => Below wr.heap.size wr W') 15 (by kernel_rfl) mixed (by kernel_rfl) ((Below.refl _ _).drew) rfl ?_)
      dsimp only [List.take]
      refine wpQuietIn_step (fun _ _ _ _ => trivial) (fun K hK => ?_)
      go_simp
      refine ⟨_, fun _ _ => rfl, hK _ ?_⟩
      clear hK K
      refine wpQuietIn_step (fun _ _ _ _ => trivial) (fun K hK => ?_)
      go_simp
      refine ⟨_, fun _ _ => rfl, hK _ ?_⟩
      clear hK K
      refine wpQuietIn_step (fun _ _ _ _ => trivial) (fun K hK => ?_)
      go_simp
      refine ⟨_, fun _ _ => rfl, hK _ ?_⟩
      clear hK K
      refine wpQuietIn_step (fun _ _ _ _ => trivial) (fun K hK => ?_)
      go_simp
      refine ⟨.pointer (some ⟨lx, 0, none⟩), fun w' hC => by simp [(k0 w' hC).c0], hK _ ?_⟩
      clear hK K
      refine wpQuietIn_step (fun _ _ _ _ => trivial) (fun K hK => ?_)
      go_simp
      refine ⟨_, fun _ _ => rfl, hK _ ?_⟩
      clear hK K
      refine wpQuietIn_step (fun _ _ _ _ => trivial) (fun K hK => ?_)
      go_simp
      refine ⟨_, fun _ _ => rfl, hK _ ?_⟩
      clear hK K
      refine wpQuietIn_step (fun _ _ _ _ => trivial) (fun K hK => ?_)
      go_simp
      refine ⟨.pointer (some ⟨p, 0, none⟩), fun w' hC => by simp [k1 w' hC], hK _ ?_⟩
      clear hK K
      refine wpQuietIn_step (fun _ _ _ _ => trivial) (fun K hK => ?_)
      go_simp
      refine ⟨_, fun _ _ => rfl, hK _ ?_⟩
      clear hK K
      refine wpQuietIn_step (fun _ _ _ _ => trivial) (fun K hK => ?_)
      go_simp
      refine ⟨_, fun _ _ => rfl, hK _ ?_⟩
      clear hK K
      refine wpQuietIn_step (fun _ _ _ _ => trivial) (fun K hK => ?_)
      go_simp
      refine ⟨_, fun _ _ => rfl, hK _ ?_⟩
      clear hK K
      refine wpQuietIn_step (fun _ _ _ _ => trivial) (fun K hK => ?_)
      go_simp
      refine ⟨.string s, fun w' hC => by simp [(k0 w' hC).c1], hK _ ?_⟩
      clear hK K
      refine wpQuietIn_step (fun _ _ _ _ => trivial) (fun K hK => ?_)
      go_simp
      refine ⟨_, fun _ _ => rfl, hK _ ?_⟩
      clear hK K
      refine wpQuietIn_step (fun _ _ _ _ => trivial) (fun K hK => ?_)
      go_simp
      refine ⟨.int .u8 (byteN s m : Int), fun w' hC => by first | (simp [HBY.out]; done) | (rw [← HBY.out]; simp) | (rw [← HBY.out]), hK _ ?_⟩
      clear hK K
      refine wpQuietIn_step (fun _ _ _ _ => trivial) (fun K hK => ?_)
      go_simp
      refine ⟨.agg #[.int .u64 ((leadN D s (m + 1)).1 : Int), .int .u64 ((leadN D s (m + 1)).2 : Int)], fun w' hC => by simp [(k2 w' hC).c0, (k2 w' hC).c1], hK _ ?_⟩
      clear hK K
      refine wpQuietIn_step (fun _ _ _ _ => trivial) (fun K hK => ?_)
      go_simp
      refine ⟨_, fun w' hC => (callsIn_wide.2 (back_any D hD p (byteN s m) hbl (leadN D s (m + 1)) hzok w' (k3 w' hC) (k4 w' hC))).mono (fun e w'' hx => ⟨hx.1, hC.trans (hx.2.mono hC.size)⟩), hK _ ?_⟩
      clear hK K
      refine wpQuietIn_nil ?_
      intro w9 hB9
      have z9 := k2 w9 hB9
      have d0 := z9.c0
      have d1 := z9.c1
      have df := z9.fz
      rw [wpOpsIn_cons]
      refine wpOpIn_step rfl (fun K hK => ?_)
      go_simp
      refine hK _ _ ?_
      clear hK K
      simp only [wpOpsIn]
      have HST := hid hst
      clear hst
      rw [← HST.out] at *
      have hR10 : RdB ((w9.setCell ⟨w.heap.size, 0, none⟩ (.int .u64 ((leadN D s m).1 : Int))).setCell ⟨w.heap.size, 1, none⟩ (.int .u64 ((leadN D s m).2 : Int))) r lx s lb := ((Below.heap_setCell _ _ _ _ (show r ≠ w.heap.size by omega)).trans (Below.heap_setCell _ _ _ _ (show r ≠ w.heap.size by omega))).trans (k0 w9 hB9)
      have hZ10 := z9.put (leadN D s m)
      have hL10 : Led ((w9.setCell ⟨w.heap.size, 0, none⟩ (.int .u64 ((leadN D s m).1 : Int))).setCell ⟨w.heap.size, 1, none⟩ (.int .u64 ((leadN D s m).2 : Int))) lb s.size (leadTo D s (m + 1)) := (k5 w9 hB9).keep ((Below.heap_setCell _ _ _ _ (show lb ≠ w.heap.size by omega)).trans (Below.heap_setCell _ _ _ _ (show lb ≠ w.heap.size by omega)))
      have hT10 : Turn (fun k => k = lb) w ((w9.setCell ⟨w.heap.size, 0, none⟩ (.int .u64 ((leadN D s m).1 : Int))).setCell ⟨w.heap.size, 1, none⟩ (.int .u64 ((leadN D s m).2 : Int))) := ((hTr.below hB9 hsz).setCell ⟨w.heap.size, 0, none⟩ (fun e => by have : w.heap.size < w.heap.size := e; omega) _).setCell ⟨w.heap.size, 1, none⟩ (fun e => by have : w.heap.size < w.heap.size := e; omega) _
      clear k0 k1 k2 k3 k4 k5 d0 d1 df z9 hB9 hLr hRr hXr hZ hTr hBT
      generalize ((w9.setCell ⟨w.heap.size, 0, none⟩ (.int .u64 ((leadN D s m).1 : Int))).setCell ⟨w.heap.size, 1, none⟩ (.int .u64 ((leadN D s m).2 : Int))) = W10 at *
      have k0 : ∀ W', Below W10.heap.size W10 W' → RdB W' r lx s lb := fun W' h => (h.block _ hR10.lt).trans hR10
      have k2 : ∀ W', Below W10.heap.size W10 W' → ZB W' w.heap.size (leadN D s m) := fun W' h => (h.block _ hZ10.lt).trans hZ10
      have hmI2 : (m : Int) < (s.size : Int) + 1 := by omega
      go_wp2_with fail
      refine (wpIn_wide (n := 5)).1 (region_tail (C := fun W' => Below W10.heap.size W10 W') 7 (by kernel_rfl) mixed (by kernel_rfl) ((Below.refl _ _).drew) rfl ?_)
      dsimp only [List.take]
      refine wpQuietIn_step (fun _ _ _ _ => trivial) (fun K hK => ?_)
      go_simp
      refine ⟨_, fun _ _ => rfl, hK _ ?_⟩
      clear hK K
      refine wpQuietIn_step (fun _ _ _ _ => trivial) (fun K hK => ?_)
      go_simp
      refine ⟨_, fun _ _ => rfl, hK _ ?_⟩
      clear hK K
      refine wpQuietIn_step (fun _ _ _ _ => trivial) (fun K hK => ?_)
      go_simp
      refine ⟨_, fun _ _ => rfl, hK _ ?_⟩
      clear hK K
      refine wpQuietIn_step (fun _ _ _ _ => trivial) (fun K hK => ?_)
      go_simp
      refine ⟨.slice (some ⟨lb, 0, none⟩) (s.size + 1) (s.size + 1), fun w' hC => by simp [(k0 w' hC).c2], hK _ ?_⟩
      clear hK K
      refine wpQuietIn_step (fun _ _ _ _ => trivial) (fun K hK => ?_)
      go_simp
      refine ⟨_, fun _ _ => rfl, hK _ ?_⟩
      clear hK K
      refine wpQuietIn_step (fun _ _ _ _ => trivial) (fun K hK => ?_)
      go_simp
      refine ⟨.agg #[.int .u64 ((leadN D s m).1 : Int), .int .u64 ((leadN D s m).2 : Int)], fun w' hC => by simp [(k2 w' hC).c0, (k2 w' hC).c1], hK _ ?_⟩
      clear hK K
      refine wpQuietIn_step (fun _ _ _ _ => trivial) (fun K hK => ?_)
      go_simp
      refine ⟨_, fun _ _ => rfl, hK _ ?_⟩
      clear hK K
      refine wpQuietIn_nil ?_
      intro w11 hB11
      have hL11 := hL10.keep (hB11.block _ hL10.lt)
      have hZ11 := k2 w11 hB11
      have hT11 : Turn (fun k => k = lb) w w11 := hT10.below hB11 hT10.size
      have d := hL11.cells (i := m) (by omega)
      have d0 := d.1
      have d1 := d.2
      have df := hL11.fz
      clear k0 k2
      rw [wpOpsIn_cons]
      refine wpOpIn_step rfl (fun K hK => ?_)
      go_simp
      refine hK _ _ ?_
      clear hK K
      simp only [wpOpsIn]
      have hLe := hL11.put (i := m) (by omega) (leadN D s m)
      rw [leadTo_step] at hLe
      have hZe : ZB ((w11.setCell ⟨lb, m * 2, none⟩ (.int .u64 ((leadN D s m).1 : Int))).setCell ⟨lb, m * 2 + 1, none⟩ (.int .u64 ((leadN D s m).2 : Int))) w.heap.size (leadN D s m) := ((Below.heap_setCell _ _ _ _ (show w.heap.size ≠ lb by omega)).trans (Below.heap_setCell _ _ _ _ (show w.heap.size ≠ lb by omega))).trans hZ11
      have hTe := (hT11.setCell ⟨lb, m * 2, none⟩ (fun _ => rfl) (.int .u64 ((leadN D s m).1 : Int))).setCell ⟨lb, m * 2 + 1, none⟩ (fun _ => rfl) (.int .u64 ((leadN D s m).2 : Int))
      clear d d0 d1 df
      go_wp2_with fail
      go_roundg m
      case measure => omega
      case rel => exact ⟨by omega, by go_num, hZe, hLe, hTe⟩
end Go.Proofs.YtjhmlcilabnlbaaDoor
/- The lexer: a run in memory; Rule. -/
namespace Go.Proofs.YtjhmlcilabnlbaaDoor
open Go.RowKit Go.Shelf

attribute [local go_sem] Oper.semAt_some

/-- The first rule that may end, or -1. -/
def ruleN (a : S2) : Int := if a.2 = 0 then -1 else ((Lib.ctz 64 a.2 : Nat) : Int)

set_option maxRecDepth 100000 in
set_option maxHeartbeats 2000000 in
theorem rule_any (a : S2) (ha : a.ok) (w : World) (hT : TabIn w) :
    Calls Tryd.prog 39 #[.agg #[.int .u64 (a.1 : Int), .int .u64 (a.2 : Int)]] w fun e w' => e = .returned (.int .i64 (ruleN a)) ∧ Below w.heap.size w w' := by
  have hB : Below w.heap.size w (w.alloc (.cells #[.int .u64 (a.1 : Int), .int .u64 (a.2 : Int)] 58)) := (Below.refl _ _).alloc (Nat.le_refl _) _
  by_cases h0 : a.2 = 0
  · have HR : Hid (ruleN a = -1) := by unfold Hid ruleN; rw [if_pos h0]
    rw [h0] at hB
    rw [h0]
    clear h0
    go_enter Tryd.func39, Tryd.ntmps39
    go_wp2_with fail
    go_ret
    exact ⟨ret_int HR.out.symm, hB⟩
  · have HR : Hid (ruleN a = ((Lib.ctz 64 a.2 : Nat) : Int)) := by unfold Hid ruleN; rw [if_neg h0]
    have hne : (((a.2 : Nat) : Int) == 0) = false := by simp; omega
    have HT := hid (fun (W : World) (h : Below w.heap.size w W) => (hT.below h (by
      have := cell_lt (hT 0 (by decide))
      exact this)))
    go_enter Tryd.func39, Tryd.ntmps39
    go_wp2_with fail
    refine (tz_any a.2 ha.2 h0 _ (HT.out _ hB)).mono ?_
    rintro e w2 ⟨rfl, rfl⟩
    go_wp2_with fail
    go_ret
    exact ⟨ret_int HR.out.symm, hB⟩

/-- A token: its rule, from where, to where. -/
structure Tok where
  rl : Int
  fr : Nat
  tt : Nat
def tokCells (l : List Tok) : List Value := l.flatMap fun x => [.int .i64 x.rl, .int .i64 (x.fr : Int), .int .i64 (x.tt : Int)]
theorem tokCells_snoc (l : List Tok) (x : Tok) : tokCells (l ++ [x]) = tokCells l ++ [.int .i64 x.rl, .int .i64 (x.fr : Int), .int .i64 (x.tt : Int)] := by simp [tokCells]
theorem tokCells_len (l : List Tok) : (tokCells l).length = l.length * 3 := by
  induction l with
  | nil => rfl
  | cons x xs ih => simp [tokCells] at ih ⊢; omega

/-- A run's block. -/
def RunB (w : World) (c r : Nat) (v : Value) (fr at' : Nat) (st : S2) : Prop := w.heap[c]? = some (.cells #[.pointer (some ⟨r, 0, none⟩), v, .int .i64 (fr : Int), .int .i64 (at' : Int), .int .u64 (st.1 : Int), .int .u64 (st.2 : Int)] 60 (0, 0))
/-- The lexer's block. -/
def LxB (w : World) (lx p t : Nat) : Prop := w.heap[lx]? = some (.cells #[.pointer (some ⟨p, 0, none⟩), .pointer (some ⟨t, 0, none⟩)] 67 (0, 0))
theorem RunB.lt {w : World} {c r : Nat} {v : Value} {fr at' : Nat} {st : S2} (h : RunB w c r v fr at' st) : c < w.heap.size := (Array.getElem?_eq_some_iff.1 h).1
theorem RunB.cell {w : World} {c r : Nat} {v : Value} {fr at' : Nat} {st : S2} (h : RunB w c r v fr at' st) (j : Nat) : w.cell? ⟨c, j, none⟩ = #[Value.pointer (some ⟨r, 0, none⟩), v, .int .i64 (fr : Int), .int .i64 (at' : Int), .int .u64 (st.1 : Int), .int .u64 (st.2 : Int)][j]? := by
  unfold World.cell?
  rw [show w.heap[c]? = _ from h]
  rfl
theorem RunB.fz {w : World} {c r : Nat} {v : Value} {fr at' : Nat} {st : S2} (h : RunB w c r v fr at' st) (j : Nat) : w.frozen? ⟨c, j, none⟩ = false := by
  simp [World.frozen?, show w.heap[c]? = _ from h]

theorem TblI.sepT {B : Nat} {w : World} {t p room : Nat} {D : PlD} {dn s1 : Int} {f : S2} {s2 : Int} {mb : Nat} {l : List (S2 × Nat)} (h : TblI B w t p room D dn s1 f s2 mb l) {k : Nat} {cs : Array Value} {T : TypeId} {fz : Nat × Nat} (hk : w.heap[k]? = some (.cells cs T fz)) (h1 : T ≠ 102) (h2 : T ≠ 130) : ¬ tbS t mb l k := by
  rintro (e | e | ⟨x, hx, e⟩)
  · have ht : w.heap[t]? = _ := h.tb
    rw [e, ht] at hk
    injection hk with hk
    injection hk with _ hk _
    exact h1 hk.symm
  · obtain ⟨es, clock, hm, -⟩ := h.mp
    rw [e, hm] at hk
    simp at hk
  · obtain ⟨cs', hc, -⟩ := h.rw' x hx
    rw [← e, hc] at hk
    injection hk with hk
    injection hk with _ hk _
    exact h2 hk.symm

/-- A run, what it reads, the table that it asks. -/
structure CutI (B K : Nat) (w : World) (c r lx lb t p room mb : Nat) (D : PlD) (s : ByteArray) (l : List (S2 × Nat)) (dn : Int) (f : S2) (v : Value) (T : List Tok) (fr at' : Nat) (st : S2) : Prop where
  run : RunB w c r v fr at' st
  rd : RdB w r lx s lb
  ld : Led w lb s.size (leadN D s)
  lx' : LxB w lx p t
  tb : TblI B w t p room D dn 0 f 0 mb l
  fs : Firsts D dn f
  tk : w.ownsRow K 30 3 v T.length (tokCells T)
  ti : TabIn w
  b1 : 1 ≤ B
  cB : B ≤ c
theorem tok_own {w : World} {K : Nat} {v : Value} {T : List Tok} (h : w.ownsRow K 30 3 v T.length (tokCells T)) {g : Nat} (hg : v.ownBlock = some g) : ∃ cur, w.heap[g]? = some (.cells cur 30 (0, 0)) := by
  rcases h.2 with ⟨hv, -⟩ | ⟨g', cap, cur, hv, -, hc, -⟩
  · rw [hv] at hg; cases hg
  · rw [hv] at hg; cases hg; exact ⟨cur, hc⟩
theorem tok_keep {w w' : World} {K : Nat} {v : Value} {T : List Tok} (h : w.ownsRow K 30 3 v T.length (tokCells T)) (k : ∀ g, v.ownBlock = some g → w'.heap[g]? = w.heap[g]?) : w'.ownsRow K 30 3 v T.length (tokCells T) := by
  refine ⟨h.1, ?_⟩
  rcases h.2 with h0 | ⟨g, c, cur, hv, h1, h2, h3⟩
  · exact .inl h0
  · exact .inr ⟨g, c, cur, hv, h1, (k g (by rw [hv]; rfl)).trans h2, h3⟩
section
variable {B K : Nat} {w w' : World} {c r lx lb t p room mb : Nat} {D : PlD} {s : ByteArray} {l l' : List (S2 × Nat)} {dn dn' : Int} {f f' : S2} {v : Value} {T : List Tok} {fr at' : Nat} {st : S2}
theorem CutI.own_lt (h : CutI B K w c r lx lb t p room mb D s l dn f v T fr at' st) {g : Nat} (hg : v.ownBlock = some g) : g < w.heap.size := by
  obtain ⟨cur, hc⟩ := tok_own h.tk hg
  exact (Array.getElem?_eq_some_iff.1 hc).1
theorem CutI.below (h : CutI B K w c r lx lb t p room mb D s l dn f v T fr at' st) (k : Below w.heap.size w w') : CutI B K w' c r lx lb t p room mb D s l dn f v T fr at' st :=
  ⟨(k.block _ h.run.lt).trans h.run, (k.block _ h.rd.lt).trans h.rd, h.ld.keep (k.block _ h.ld.lt), (k.block _ (Array.getElem?_eq_some_iff.1 h.lx').1).trans h.lx', h.tb.below k, h.fs, tok_keep h.tk (fun g hg => k.block g (h.own_lt hg)), h.ti.below k (by have := h.run.lt; omega), h.b1, h.cB⟩
/-- The table asked. -/
theorem CutI.asked (h : CutI B K w c r lx lb t p room mb D s l dn f v T fr at' st) (hI : TblI B w' t p room D dn' 0 f' 0 mb l') (hF : Firsts D dn' f') (ht : Turn (tbS t mb l) w w') : CutI B K w' c r lx lb t p room mb D s l' dn' f' v T fr at' st := by
  have hx : w.heap[lx]? = _ := h.lx'
  have hr : w.heap[r]? = _ := h.rd
  have hc : w.heap[c]? = _ := h.run
  refine ⟨(ht.block _ h.run.lt (h.tb.sepT hc (by decide) (by decide))).trans h.run, (ht.block _ h.rd.lt (h.tb.sepT hr (by decide) (by decide))).trans h.rd, ?_, (ht.block _ (Array.getElem?_eq_some_iff.1 hx).1 (h.tb.sepT hx (by decide) (by decide))).trans h.lx', hI, hF, tok_keep h.tk (fun g hg => ?_), ?_, h.b1, h.cB⟩
  · obtain ⟨cs, hl, -⟩ := h.ld
    exact h.ld.keep (ht.block _ h.ld.lt (h.tb.sepT hl (by decide) (by decide)))
  · obtain ⟨cur, hg'⟩ := tok_own h.tk hg
    exact ht.block _ (h.own_lt hg) (h.tb.sepT hg' (by decide) (by decide))
  · refine h.ti.blocks (ht.block 0 (by have := h.run.lt; omega) (fun e => ?_))
    have := (h.tb.ltS e).1
    have := h.b1
    omega
/-- The run's own block turned. -/
theorem CutI.own {fr2 at2 : Nat} {st2 : S2} (h : CutI B K w c r lx lb t p room mb D s l dn f v T fr at' st) (ho : ∀ k, k ≠ c → w'.heap[k]? = w.heap[k]?) (hB : Below B w w') (hb : RunB w' c r v fr2 at2 st2) : CutI B K w' c r lx lb t p room mb D s l dn f v T fr2 at2 st2 := by
  have hc : w.heap[c]? = _ := h.run
  have ne : ∀ {k : Nat} {cs : Array Value} {Ty : TypeId} {fz : Nat × Nat}, w.heap[k]? = some (.cells cs Ty fz) → Ty ≠ 60 → k ≠ c := fun {k cs Ty fz} hk hT e => by
    rw [e, hc] at hk
    injection hk with hk
    injection hk with _ hk _
    exact hT hk.symm
  have hx : w.heap[lx]? = _ := h.lx'
  have hr : w.heap[r]? = _ := h.rd
  refine ⟨hb, (ho _ (ne hr (by decide))).trans h.rd, ?_, (ho _ (ne hx (by decide))).trans h.lx', h.tb.keep (fun j hj => ho j (fun e => h.tb.sepT hc (by decide) (by decide) (e ▸ hj))) hB, h.fs, tok_keep h.tk (fun g hg => ?_), ?_, h.b1, h.cB⟩
  · obtain ⟨cs, hl, -⟩ := h.ld
    exact h.ld.keep (ho _ (ne hl (by decide)))
  · obtain ⟨cur, hg'⟩ := tok_own h.tk hg
    exact ho _ (ne hg' (by decide))
  · exact h.ti.blocks (ho 0 (by have := h.cB; have := h.b1; omega))
theorem CutI.setSt (h : CutI B K w c r lx lb t p room mb D s l dn f v T fr at' st) (z : S2) : CutI B K ((w.setCell ⟨c, 4, none⟩ (.int .u64 (z.1 : Int))).setCell ⟨c, 5, none⟩ (.int .u64 (z.2 : Int))) c r lx lb t p room mb D s l dn f v T fr at' z :=
  h.own (fun _ hk => (Below.heap_setCell _ _ _ _ hk).trans (Below.heap_setCell _ _ _ _ hk)) (((Below.refl B w).setCell (p := ⟨c, 4, none⟩) h.cB _).setCell (p := ⟨c, 5, none⟩) h.cB _) (hset (hset h.run _) _)
theorem CutI.setAt (h : CutI B K w c r lx lb t p room mb D s l dn f v T fr at' st) (m : Nat) : CutI B K (w.setCell ⟨c, 3, none⟩ (.int .i64 (m : Int))) c r lx lb t p room mb D s l dn f v T fr m st :=
  h.own (fun _ hk => Below.heap_setCell _ _ _ _ hk) ((Below.refl B w).setCell (p := ⟨c, 3, none⟩) h.cB _) (hset h.run _)
theorem CutI.setFr (h : CutI B K w c r lx lb t p room mb D s l dn f v T fr at' st) (m : Nat) : CutI B K (w.setCell ⟨c, 2, none⟩ (.int .i64 (m : Int))) c r lx lb t p room mb D s l dn f v T m at' st :=
  h.own (fun _ hk => Below.heap_setCell _ _ _ _ hk) ((Below.refl B w).setCell (p := ⟨c, 2, none⟩) h.cB _) (hset h.run _)
end

/-- The pure side of a step: a run's state. -/
structure Rn where
  tk : List Tok
  fr : Nat
  at' : Nat
  st : S2
def stepR (D : PlD) (s : ByteArray) (x : Rn) : Rn :=
  let s1 := if x.at' = x.fr then firstN D else x.st
  let s2 := if s1.meets (leadN D s x.at') = true then stepN D s1.1 (byteN s x.at') else (0, 0)
  if s2.meets (leadN D s (x.at' + 1)) = true then ⟨x.tk, x.fr, x.at' + 1, s2⟩ else ⟨x.tk ++ [⟨ruleN s2, x.fr, x.at' + 1⟩], x.at' + 1, x.at' + 1, s2⟩

/-- What a step may turn. -/
def cutS (t mb : Nat) (l : List (S2 × Nat)) (c : Nat) (v : Value) : Nat → Prop := fun k => tbS t mb l k ∨ k = c ∨ v.ownBlock = some k
theorem Fresh.trans {l l' l'' : List (S2 × Nat)} {w w' : World} (h : Fresh l l' w) (k : Fresh l' l'' w') (hs : w.heap.size ≤ w'.heap.size) : Fresh l l'' w := fun x hx => by
  rcases k x hx with h1 | h1
  · exact h x h1
  · exact Or.inr (Nat.le_trans hs h1)
theorem Fresh.refl (l : List (S2 × Nat)) (w : World) : Fresh l l w := fun _ hx => Or.inl hx
theorem tbS_fresh {t mb : Nat} {l l' : List (S2 × Nat)} {w : World} (h : Fresh l l' w) {j : Nat} (hj : j < w.heap.size) (hs : tbS t mb l' j) : tbS t mb l j := by
  rcases hs with e | e | ⟨x, hx, e⟩
  · exact Or.inl e
  · exact Or.inr (Or.inl e)
  · rcases h x hx with h1 | h1
    · exact Or.inr (Or.inr ⟨x, h1, e⟩)
    · omega
end Go.Proofs.YtjhmlcilabnlbaaDoor
/- How a text is cut: the pure side: tokens tile the text, and what stands behind a token is cut anew just so. -/
namespace Go.Proofs.YtjhmlcilabnlbaaDoor
open Go.RowKit

def iterR (D : PlD) (s : ByteArray) : Nat → Rn → Rn
  | 0, x => x
  | k + 1, x => iterR D s k (stepR D s x)
def rn0 : Rn := ⟨[], 0, 0, (0, 0)⟩
/-- The tokens of a text. -/
def lexN (D : PlD) (s : ByteArray) : List Tok := (iterR D s s.size rn0).tk
theorem iterR_add (D : PlD) (s : ByteArray) : ∀ (j k : Nat) (x : Rn), iterR D s (j + k) x = iterR D s k (iterR D s j x)
  | 0, k, x => by rw [Nat.zero_add]; rfl
  | j + 1, k, x => by
    rw [show j + 1 + k = (j + k) + 1 by omega]
    exact iterR_add D s j k (stepR D s x)
theorem iterR_succ (D : PlD) (s : ByteArray) (k : Nat) (x : Rn) : iterR D s (k + 1) x = stepR D s (iterR D s k x) := by
  rw [iterR_add D s k 1 x]; rfl

/-- The state behind the next byte. -/
def nextS (D : PlD) (s : ByteArray) (x : Rn) : S2 :=
  let s1 := if x.at' = x.fr then firstN D else x.st
  if s1.meets (leadN D s x.at') = true then stepN D s1.1 (byteN s x.at') else (0, 0)
theorem stepR_eq (D : PlD) (s : ByteArray) (x : Rn) : stepR D s x = if (nextS D s x).meets (leadN D s (x.at' + 1)) = true then ⟨x.tk, x.fr, x.at' + 1, nextS D s x⟩ else ⟨x.tk ++ [⟨ruleN (nextS D s x), x.fr, x.at' + 1⟩], x.at' + 1, x.at' + 1, nextS D s x⟩ := rfl
theorem stepR_at (D : PlD) (s : ByteArray) (x : Rn) : (stepR D s x).at' = x.at' + 1 := by rw [stepR_eq]; split <;> rfl
theorem iterR_at (D : PlD) (s : ByteArray) (k : Nat) (x : Rn) : (iterR D s k x).at' = x.at' + k := by
  induction k with
  | zero => rfl
  | succ k ih => rw [iterR_succ, stepR_at, ih]; omega

theorem S2.meets_zero (a : S2) : a.meets (0, 0) = false := by unfold S2.meets; simp
/-- At the text's end a token ends. -/
theorem stepR_end (D : PlD) (s : ByteArray) (x : Rn) (h : x.at' + 1 = s.size) : (stepR D s x).fr = s.size := by
  rw [stepR_eq, h, leadN_end, S2.meets_zero, if_neg Bool.false_ne_true]
theorem iterR_end (D : PlD) (s : ByteArray) : (iterR D s s.size rn0).fr = s.size := by
  cases hs : s.size with
  | zero => rfl
  | succ n =>
    rw [iterR_succ]
    have h := iterR_at D s n rn0
    have h' : (iterR D s n rn0).at' = n := by rw [h]; show 0 + n = n; omega
    rw [stepR_end D s _ (by rw [h', hs]), hs]

/-- Tokens that lie one behind the other, from a to b. -/
def Tiled : Nat → List Tok → Nat → Prop
  | a, [], b => a = b
  | a, x :: xs, b => x.fr = a ∧ a < x.tt ∧ (x.rl < 0 → x.tt = a + 1) ∧ Tiled x.tt xs b
theorem Tiled.snoc {a b : Nat} : ∀ {l : List Tok} {x : Tok}, Tiled a l b → x.fr = b → b < x.tt → (x.rl < 0 → x.tt = b + 1) → Tiled a (l ++ [x]) x.tt := by
  intro l
  induction l generalizing a with
  | nil => intro x h h1 h2 h3; cases h; exact ⟨h1, h2, h3, rfl⟩
  | cons y ys ih => intro x h h1 h2 h3; exact ⟨h.1, h.2.1, h.2.2.1, ih h.2.2.2 h1 h2 h3⟩

/-- While a run goes on, its state leads on; a token of more than a byte has a rule. -/
structure RunOk (D : PlD) (s : ByteArray) (x : Rn) : Prop where
  fr : x.fr ≤ x.at'
  tl : Tiled 0 x.tk x.fr
  on : x.fr < x.at' → x.st.meets (leadN D s x.at') = true
theorem S2.meets_or {a b c : S2} : a.meets (b.or c) = (a.meets b || a.meets c) := by
  unfold S2.meets S2.or
  simp only [Nat.and_or_distrib_left]
  rw [Bool.eq_iff_iff]
  simp only [Bool.or_eq_true, bne_iff_ne, ne_eq, Nat.or_eq_zero_iff]
  by_cases h1 : a.1 &&& b.1 = 0 <;> by_cases h2 : a.1 &&& c.1 = 0 <;> by_cases h3 : a.2 &&& b.2 = 0 <;> by_cases h4 : a.2 &&& c.2 = 0 <;> simp [h1, h2, h3, h4]
theorem testBit_or_mono {a b k : Nat} (h : a.testBit k = true) : (a ||| b).testBit k = true := by rw [Nat.testBit_or, h]; rfl
theorem meets_mono {a a' c : S2} (h1 : ∀ k, a.1.testBit k = true → a'.1.testBit k = true) (h2 : ∀ k, a.2.testBit k = true → a'.2.testBit k = true) (h : a.meets c = true) : a'.meets c = true := by
  unfold S2.meets at h ⊢
  have key : ∀ x x' y : Nat, (∀ k, x.testBit k = true → x'.testBit k = true) → (x &&& y != 0) = true → (x' &&& y != 0) = true := by
    intro x x' y hk hne
    simp only [bne_iff_ne, ne_eq] at hne ⊢
    intro e
    apply hne
    apply Nat.eq_of_testBit_eq
    intro i
    rw [Nat.zero_testBit, Nat.testBit_and]
    cases hx : x.testBit i with
    | false => rfl
    | true =>
      have h' := congrArg (fun z => z.testBit i) e
      simp only [Nat.testBit_and, hk i hx, Bool.true_and, Nat.zero_testBit] at h'
      rw [h']; rfl
  simp only [Bool.or_eq_true] at h ⊢
  rcases h with h | h
  · exact Or.inl (key _ _ _ h1 h)
  · exact Or.inr (key _ _ _ h2 h)
theorem stepL_has (D : PlD) (b : Nat) : ∀ (ks : List Nat) (acc : S2) (k : Nat), k ∈ ks → (D.mt b).1.testBit k = true →
    (∀ j, ((D.nx.getD k (0, 0)).1.testBit j = true → (ks.foldl (fun acc k => if (D.mt b).1.testBit k then acc.or (D.nx.getD k (0, 0)) else acc) acc).1.testBit j = true) ∧ ((D.nx.getD k (0, 0)).2.testBit j = true → (ks.foldl (fun acc k => if (D.mt b).1.testBit k then acc.or (D.nx.getD k (0, 0)) else acc) acc).2.testBit j = true)) := by
  have grow : ∀ (ks : List Nat) (acc : S2) (j : Nat), (acc.1.testBit j = true → (ks.foldl (fun acc k => if (D.mt b).1.testBit k then acc.or (D.nx.getD k (0, 0)) else acc) acc).1.testBit j = true) ∧ (acc.2.testBit j = true → (ks.foldl (fun acc k => if (D.mt b).1.testBit k then acc.or (D.nx.getD k (0, 0)) else acc) acc).2.testBit j = true) := by
    intro ks
    induction ks with
    | nil => intro acc j; exact ⟨id, id⟩
    | cons k ks ih =>
      intro acc j
      rw [List.foldl_cons]
      refine ⟨fun h => (ih _ j).1 ?_, fun h => (ih _ j).2 ?_⟩
      · split
        · exact testBit_or_mono h
        · exact h
      · split
        · exact testBit_or_mono h
        · exact h
  intro ks
  induction ks with
  | nil => intro acc k hk; cases hk
  | cons k0 ks ih =>
    intro acc k hk hb j
    rw [List.foldl_cons]
    rcases List.mem_cons.1 hk with e | hk
    · subst e
      rw [if_pos hb]
      refine ⟨fun h => (grow ks _ j).1 ?_, fun h => (grow ks _ j).2 ?_⟩
      · show (acc.1 ||| _).testBit j = true
        rw [Nat.testBit_or, h, Bool.or_true]
      · show (acc.2 ||| _).testBit j = true
        rw [Nat.testBit_or, h, Bool.or_true]
    · exact ih _ k hk hb j
theorem backL_mem (D : PlD) (goal : S2) : ∀ (ks : List Nat) (acc : S2) (j : Nat), (ks.foldl (fun acc k => if (D.nx.getD k (0, 0)).meets goal then acc.or (S2.bit k) else acc) acc).1.testBit j = true → acc.1.testBit j = true ∨ j ∈ ks ∧ (D.nx.getD j (0, 0)).meets goal = true := by
  intro ks
  induction ks with
  | nil => intro acc j h; exact Or.inl h
  | cons k ks ih =>
    intro acc j h
    rw [List.foldl_cons] at h
    rcases ih _ j h with h1 | ⟨h1, h2⟩
    · split at h1
      · rename_i hm
        have h1' : (acc.1 ||| (S2.bit k).1).testBit j = true := h1
        rw [Nat.testBit_or, Bool.or_eq_true] at h1'
        rcases h1' with h1' | h1'
        · exact Or.inl h1'
        · unfold S2.bit at h1'
          split at h1'
          · have e : k = j := by simpa [Nat.testBit_two_pow] using h1'
            subst e
            exact Or.inr ⟨List.mem_cons_self, hm⟩
          · simp at h1'
      · exact Or.inl h1
    · exact Or.inr ⟨List.mem_cons_of_mem _ h1, h2⟩
theorem backL_two (D : PlD) (goal : S2) : ∀ (ks : List Nat) (acc : S2), (∀ k, k ∈ ks → k < 64) → acc.2 = 0 → (ks.foldl (fun acc k => if (D.nx.getD k (0, 0)).meets goal then acc.or (S2.bit k) else acc) acc).2 = 0 := by
  intro ks
  induction ks with
  | nil => intro acc _ h; exact h
  | cons k ks ih =>
    intro acc hk h
    rw [List.foldl_cons]
    apply ih _ (fun j hj => hk j (List.mem_cons_of_mem _ hj))
    split
    · show acc.2 ||| (S2.bit k).2 = 0
      unfold S2.bit
      rw [if_pos (hk k List.mem_cons_self), h]; simp
    · exact h

/-- What meets where the text leads to an end goes on, or ends there. -/
theorem leads (D : PlD) (s : ByteArray) {m : Nat} (hm : m < s.size) (a : S2) (h : a.meets (leadN D s m) = true) : (stepN D a.1 (byteN s m)).meets ((leadN D s (m + 1)).or D.en) = true := by
  rw [leadN_step D s hm] at h
  unfold backN at h
  have h2 : (backL D ((leadN D s (m + 1)).or D.en) (bitsN (D.mt (byteN s m)).1)).2 = 0 := backL_two D _ _ _ (fun k hk => (mem_bitsN.1 hk).1) rfl
  unfold S2.meets at h
  rw [h2, Nat.and_zero] at h
  simp only [bne_self_eq_false, Bool.or_false, bne_iff_ne, ne_eq] at h
  obtain ⟨k, hk⟩ : ∃ k, (a.1 &&& (backL D ((leadN D s (m + 1)).or D.en) (bitsN (D.mt (byteN s m)).1)).1).testBit k = true := by
    by_cases hex : ∃ k, (a.1 &&& (backL D ((leadN D s (m + 1)).or D.en) (bitsN (D.mt (byteN s m)).1)).1).testBit k = true
    · exact hex
    · exfalso
      apply h
      apply Nat.eq_of_testBit_eq
      intro i
      rw [Nat.zero_testBit]
      cases e : (a.1 &&& (backL D ((leadN D s (m + 1)).or D.en) (bitsN (D.mt (byteN s m)).1)).1).testBit i with
      | false => rfl
      | true => exact absurd ⟨i, e⟩ hex
  rw [Nat.testBit_and, Bool.and_eq_true] at hk
  rcases backL_mem D _ _ (0, 0) k hk.2 with h3 | ⟨h3, h4⟩
  · simp at h3
  · obtain ⟨hk64, hkb⟩ := mem_bitsN.1 h3
    have hst := stepL_has D (byteN s m) (bitsN a.1) (0, 0) k (mem_bitsN.2 ⟨hk64, hk.1⟩) hkb
    exact meets_mono (fun j => (hst j).1) (fun j => (hst j).2) h4
theorem ruleN_neg {a : S2} (h : ruleN a < 0) : a.2 = 0 := by
  unfold ruleN at h
  split at h
  · assumption
  · omega
theorem meets_ends {a e : S2} (he : e.1 = 0) (h : a.meets e = true) : a.2 ≠ 0 := by
  intro h0
  unfold S2.meets at h
  rw [he, h0] at h
  simp at h
theorem RunOk.step {D : PlD} {s : ByteArray} {x : Rn} (h : RunOk D s x) (he : D.en.1 = 0) (hat : x.at' < s.size) : RunOk D s (stepR D s x) := by
  rw [stepR_eq]
  cases hm : (nextS D s x).meets (leadN D s (x.at' + 1)) with
  | true =>
    rw [if_pos rfl]
    exact ⟨Nat.le_succ_of_le h.fr, h.tl, fun _ => hm⟩
  | false =>
    rw [if_neg Bool.false_ne_true]
    refine ⟨Nat.le_refl _, h.tl.snoc rfl (Nat.lt_succ_of_le h.fr) (fun hr => ?_), fun hlt => absurd hlt (Nat.lt_irrefl _)⟩
    show x.at' + 1 = x.fr + 1
    rcases Nat.lt_or_ge x.fr x.at' with hlt | hge
    · exfalso
      have hon := h.on hlt
      have hne : ¬ x.at' = x.fr := by omega
      have hn : nextS D s x = stepN D x.st.1 (byteN s x.at') := by
        unfold nextS
        simp only [if_neg hne, hon, if_true]
      have hl := leads D s hat x.st hon
      rw [← hn, S2.meets_or, hm, Bool.false_or] at hl
      exact meets_ends he hl (ruleN_neg hr)
    · have := h.fr; omega
theorem RunOk.iter {D : PlD} {s : ByteArray} (he : D.en.1 = 0) : ∀ k, k ≤ s.size → RunOk D s (iterR D s k rn0)
  | 0, _ => ⟨Nat.le_refl _, rfl, fun h => absurd h (Nat.lt_irrefl _)⟩
  | k + 1, hk => by
    rw [iterR_succ]
    exact (RunOk.iter he k (by omega)).step he (by rw [iterR_at]; show 0 + k < s.size; omega)
/-- The tokens of a text tile it. -/
theorem lexN_tiled {D : PlD} (s : ByteArray) (he : D.en.1 = 0) : Tiled 0 (lexN D s) s.size := by
  have h := (RunOk.iter (D := D) (s := s) he s.size (Nat.le_refl _)).tl
  rw [iterR_end] at h
  exact h

theorem ctz_less {y n : Nat} (h0 : y ≠ 0) (h64 : y < 2 ^ 64) (hn : y < 2 ^ n) : Lib.ctz 64 y < n := by
  obtain ⟨m, hm, -⟩ := ctz_odd y h0 h64
  have h1 : 2 ^ Lib.ctz 64 y ≤ y := by
    conv => rhs; rw [hm]
    exact Nat.le_mul_of_pos_right _ (by omega)
  exact (Nat.pow_lt_pow_iff_right (by decide)).1 (Nat.lt_of_le_of_lt h1 hn)
theorem stepN_two {D : PlD} {n : Nat} (h : ∀ a, a ∈ D.nx → a.2 < 2 ^ n) (x b : Nat) : (stepN D x b).2 < 2 ^ n := by
  have key : ∀ (ks : List Nat) (acc : S2), acc.2 < 2 ^ n → (ks.foldl (fun acc k => if (D.mt b).1.testBit k then acc.or (D.nx.getD k (0, 0)) else acc) acc).2 < 2 ^ n := by
    intro ks
    induction ks with
    | nil => intro acc ha; exact ha
    | cons k ks ih =>
      intro acc ha
      rw [List.foldl_cons]
      apply ih
      split
      · refine Nat.or_lt_two_pow ha ?_
        rw [List.getD_eq_getElem?_getD]
        cases e : D.nx[k]? with
        | none => exact Nat.two_pow_pos n
        | some a => exact h a (List.mem_of_getElem? e)
      · exact ha
  exact key _ _ (Nat.two_pow_pos n)
theorem nextS_two {D : PlD} {n : Nat} (h : ∀ a, a ∈ D.nx → a.2 < 2 ^ n) (s : ByteArray) (x : Rn) : (nextS D s x).2 < 2 ^ n := by
  unfold nextS
  simp only
  generalize (if x.at' = x.fr then firstN D else x.st) = s1
  split
  · exact stepN_two h _ _
  · exact Nat.two_pow_pos n
def rlOk (n : Nat) (l : List Tok) : Prop := ∀ x, x ∈ l → -1 ≤ x.rl ∧ x.rl < (n : Int)
theorem lexN_rules {D : PlD} {n : Nat} (h : ∀ a, a ∈ D.nx → a.2 < 2 ^ n) (hn : n ≤ 64) (s : ByteArray) : rlOk n (lexN D s) := by
  have key : ∀ k, rlOk n (iterR D s k rn0).tk := by
    intro k
    induction k with
    | zero => intro x hx; cases hx
    | succ k ih =>
      rw [iterR_succ, stepR_eq]
      split
      · exact ih
      · intro x hx
        rcases List.mem_append.1 hx with hx | hx
        · exact ih x hx
        · rw [List.mem_singleton] at hx
          subst hx
          show -1 ≤ ruleN _ ∧ ruleN _ < _
          have h2 := nextS_two h s (iterR D s k rn0)
          generalize nextS D s (iterR D s k rn0) = z at *
          unfold ruleN
          split
          · exact ⟨by omega, by omega⟩
          · rename_i h0
            have h64 : z.2 < 2 ^ 64 := Nat.lt_of_lt_of_le h2 (Nat.pow_le_pow_right (by decide) hn)
            have := ctz_less h0 h64 h2
            exact ⟨by omega, by omega⟩
  exact key s.size

/-- A token further on. -/
def Tok.sh (a : Nat) (x : Tok) : Tok := ⟨x.rl, x.fr + a, x.tt + a⟩
def Rn.sh (T : List Tok) (a : Nat) (x : Rn) : Rn := ⟨T ++ x.tk.map (Tok.sh a), x.fr + a, x.at' + a, x.st⟩
theorem byteN_ext (s : ByteArray) (a i : Nat) (h : a + i < s.size) : byteN (s.extract a s.size) i = byteN s (a + i) := by
  have h1 : i < (s.extract a s.size).size := by rw [ByteArray.size_extract]; omega
  rw [← byteN_at h1, ← byteN_at h]
  rw [ByteArray.getElem_extract]
theorem size_ext (s : ByteArray) (a : Nat) : (s.extract a s.size).size = s.size - a := by rw [ByteArray.size_extract]; omega
theorem leadK_ext (D : PlD) (s : ByteArray) (a : Nat) : ∀ k, k ≤ s.size - a → leadK D (s.extract a s.size) k = leadK D s k
  | 0, _ => rfl
  | k + 1, hk => by
    show backN D (byteN (s.extract a s.size) ((s.extract a s.size).size - (k + 1))) (leadK D (s.extract a s.size) k) = backN D (byteN s (s.size - (k + 1))) (leadK D s k)
    rw [leadK_ext D s a k (by omega), size_ext, byteN_ext s a _ (by omega), show a + (s.size - a - (k + 1)) = s.size - (k + 1) by omega]
theorem leadN_ext (D : PlD) (s : ByteArray) (a i : Nat) (h : a ≤ s.size) : leadN D (s.extract a s.size) i = leadN D s (i + a) := by
  unfold leadN
  rw [size_ext, leadK_ext D s a _ (by omega), show s.size - a - i = s.size - (i + a) by omega]
theorem stepR_sh (D : PlD) (s : ByteArray) (T : List Tok) (a : Nat) (x : Rn) (h : x.at' + a < s.size) : stepR D s (x.sh T a) = (stepR D (s.extract a s.size) x).sh T a := by
  have hn : nextS D s (x.sh T a) = nextS D (s.extract a s.size) x := by
    unfold nextS
    have e : ((x.sh T a).at' = (x.sh T a).fr) = (x.at' = x.fr) := by
      show (x.at' + a = x.fr + a) = _
      simp
    simp only [e]
    rw [leadN_ext D s a x.at' (by omega), byteN_ext s a x.at' (by omega)]
    show (if (if x.at' = x.fr then firstN D else x.st).meets (leadN D s (x.at' + a)) = true then stepN D (if x.at' = x.fr then firstN D else x.st).1 (byteN s (x.at' + a)) else (0, 0)) = _
    rw [Nat.add_comm a x.at']
  rw [stepR_eq, stepR_eq, hn, leadN_ext D s a _ (by omega)]
  rw [show (x.sh T a).at' + 1 = x.at' + 1 + a by show x.at' + a + 1 = _; omega]
  split
  · show _ = Rn.mk _ _ _ _
    congr 1
  · show Rn.mk _ _ _ _ = Rn.mk _ _ _ _
    congr 1
    show T ++ x.tk.map (Tok.sh a) ++ [_] = T ++ (x.tk ++ [_]).map (Tok.sh a)
    rw [List.map_append, List.append_assoc]
    rfl
theorem iterR_sh (D : PlD) (s : ByteArray) (T : List Tok) (a : Nat) : ∀ (k : Nat) (x : Rn), x.at' + k + a ≤ s.size → iterR D s k (x.sh T a) = (iterR D (s.extract a s.size) k x).sh T a
  | 0, _, _ => rfl
  | k + 1, x, h => by
    show iterR D s k (stepR D s (x.sh T a)) = (iterR D (s.extract a s.size) k (stepR D (s.extract a s.size) x)).sh T a
    rw [stepR_sh D s T a x (by omega)]
    exact iterR_sh D s T a k _ (by rw [stepR_at]; omega)
theorem stepR_fresh (D : PlD) (s : ByteArray) (T : List Tok) (a : Nat) (z z' : S2) : stepR D s ⟨T, a, a, z⟩ = stepR D s ⟨T, a, a, z'⟩ := by
  have hn : nextS D s ⟨T, a, a, z⟩ = nextS D s ⟨T, a, a, z'⟩ := by
    unfold nextS
    simp only [if_true]
  rw [stepR_eq, stepR_eq, hn]
/-- Behind a token the text is cut as by itself. -/
theorem lexN_behind (D : PlD) (s : ByteArray) (k : Nat) (hk : k ≤ s.size) (hb : (iterR D s k rn0).fr = k) : lexN D s = (iterR D s k rn0).tk ++ (lexN D (s.extract k s.size)).map (Tok.sh k) := by
  have hat : (iterR D s k rn0).at' = k := by rw [iterR_at]; show 0 + k = k; omega
  obtain ⟨j, hj⟩ : ∃ j, s.size = k + j := ⟨s.size - k, by omega⟩
  unfold lexN
  rw [size_ext, show s.size - k = j by omega]
  conv => lhs; rw [hj, iterR_add]
  generalize hx : iterR D s k rn0 = x at *
  obtain ⟨T, fr, at', st⟩ := x
  dsimp only at hat hb
  subst hb
  subst hat
  cases j with
  | zero => show T = T ++ _; simp [iterR, rn0]
  | succ j =>
    show (iterR D s j (stepR D s ⟨T, at', at', st⟩)).tk = _
    rw [stepR_fresh D s T at' st (0, 0)]
    have e : (⟨T, at', at', (0, 0)⟩ : Rn) = rn0.sh T at' := by
      show _ = Rn.mk _ _ _ _
      simp [rn0]
    rw [e]
    show (iterR D s (j + 1) (rn0.sh T at')).tk = _
    rw [iterR_sh D s T at' (j + 1) rn0 (by show 0 + (j + 1) + at' ≤ s.size; omega)]
    rfl
/-- Each token was the last one once, and a new one began behind it. -/
theorem was_last (D : PlD) (s : ByteArray) : ∀ k, ∀ i x, (iterR D s k rn0).tk[i]? = some x → ∃ j, j ≤ k ∧ j = x.tt ∧ (iterR D s j rn0).fr = j ∧ (iterR D s j rn0).tk = (iterR D s k rn0).tk.take (i + 1) := by
  intro k
  induction k with
  | zero => intro i x h; simp [iterR, rn0] at h
  | succ k ih =>
    intro i x h
    have hat : (iterR D s k rn0).at' = k := by rw [iterR_at]; show 0 + k = k; omega
    have hs := iterR_succ D s k rn0
    by_cases hm : (nextS D s (iterR D s k rn0)).meets (leadN D s ((iterR D s k rn0).at' + 1)) = true
    · rw [stepR_eq, if_pos hm] at hs
      rw [hs] at h ⊢
      obtain ⟨j, h1, h2, h3, h4⟩ := ih i x h
      exact ⟨j, by omega, h2, h3, h4⟩
    · rw [stepR_eq, if_neg hm] at hs
      have htk : (iterR D s (k + 1) rn0).tk = (iterR D s k rn0).tk ++ [⟨ruleN (nextS D s (iterR D s k rn0)), (iterR D s k rn0).fr, (iterR D s k rn0).at' + 1⟩] := by rw [hs]
      have hfr : (iterR D s (k + 1) rn0).fr = k + 1 := by rw [hs]; show (iterR D s k rn0).at' + 1 = _; omega
      rw [htk] at h
      rcases Nat.lt_or_ge i (iterR D s k rn0).tk.length with hlt | hge
      · rw [List.getElem?_append_left hlt] at h
        obtain ⟨j, h1, h2, h3, h4⟩ := ih i x h
        refine ⟨j, by omega, h2, h3, ?_⟩
        rw [h4, htk, List.take_append_of_le_length (by omega)]
      · have hi : i = (iterR D s k rn0).tk.length := by
          rcases Nat.lt_or_ge (iterR D s k rn0).tk.length i with hlt | h2
          · rw [List.getElem?_eq_none (by simp; omega)] at h; cases h
          · omega
        subst hi
        rw [List.getElem?_append_right (Nat.le_refl _), Nat.sub_self] at h
        simp only [List.getElem?_cons_zero, Option.some.injEq] at h
        refine ⟨k + 1, Nat.le_refl _, ?_, hfr, ?_⟩
        · rw [← h]; show k + 1 = (iterR D s k rn0).at' + 1; omega
        · rw [htk, List.take_of_length_le (by simp)]
/-- What stands behind any token is cut anew just so. -/
theorem lexN_rest (D : PlD) (s : ByteArray) (i : Nat) (x : Tok) (h : (lexN D s)[i]? = some x) : x.tt ≤ s.size ∧ lexN D s = (lexN D s).take (i + 1) ++ (lexN D (s.extract x.tt s.size)).map (Tok.sh x.tt) := by
  obtain ⟨j, h1, rfl, h3, h4⟩ := was_last D s s.size i x h
  refine ⟨h1, ?_⟩
  have hb := lexN_behind D s x.tt h1 h3
  rw [h4] at hb
  exact hb
end Go.Proofs.YtjhmlcilabnlbaaDoor
/- How a text is cut: the pure side: each token is the longest match, of the first rule of those that are as long. -/
namespace Go.Proofs.YtjhmlcilabnlbaaDoor
open Go.RowKit

theorem S2.meets_iff {a b : S2} : a.meets b = true ↔ (∃ k, a.1.testBit k = true ∧ b.1.testBit k = true) ∨ (∃ k, a.2.testBit k = true ∧ b.2.testBit k = true) := by
  have key : ∀ x y : Nat, (x &&& y != 0) = true ↔ ∃ k, x.testBit k = true ∧ y.testBit k = true := by
    intro x y
    constructor
    · intro h
      by_cases hex : ∃ k, x.testBit k = true ∧ y.testBit k = true
      · exact hex
      · exfalso
        have : x &&& y = 0 := by
          apply Nat.eq_of_testBit_eq
          intro i
          rw [Nat.zero_testBit, Nat.testBit_and]
          cases e1 : x.testBit i with
          | false => rfl
          | true =>
            cases e2 : y.testBit i with
            | false => rfl
            | true => exact absurd ⟨i, e1, e2⟩ hex
        rw [this] at h; simp at h
    · rintro ⟨k, h1, h2⟩
      simp only [bne_iff_ne, ne_eq]
      intro e
      have h := congrArg (fun z => z.testBit k) e
      simp only [Nat.testBit_and, h1, h2, Nat.zero_testBit] at h
      cases h
  unfold S2.meets
  rw [Bool.or_eq_true, key, key]

/-- The state behind a byte, by its numbers. -/
theorem stepN_one (D : PlD) (x b j : Nat) : (stepN D x b).1.testBit j = true ↔ ∃ k, k < 64 ∧ x.testBit k = true ∧ (D.mt b).1.testBit k = true ∧ (D.nx.getD k (0, 0)).1.testBit j = true := by
  have key : ∀ (ks : List Nat) (acc : S2), (ks.foldl (fun acc k => if (D.mt b).1.testBit k then acc.or (D.nx.getD k (0, 0)) else acc) acc).1.testBit j = true ↔ acc.1.testBit j = true ∨ ∃ k, k ∈ ks ∧ (D.mt b).1.testBit k = true ∧ (D.nx.getD k (0, 0)).1.testBit j = true := by
    intro ks
    induction ks with
    | nil => intro acc; simp
    | cons k ks ih =>
      intro acc
      rw [List.foldl_cons, ih]
      cases hb : (D.mt b).1.testBit k with
      | true =>
        rw [if_pos rfl]
        have e : (acc.or (D.nx.getD k (0, 0))).1.testBit j = (acc.1.testBit j || (D.nx.getD k (0, 0)).1.testBit j) := Nat.testBit_or ..
        rw [e, Bool.or_eq_true]
        constructor
        · rintro ((h | h) | ⟨k', h1, h2, h3⟩)
          · exact Or.inl h
          · exact Or.inr ⟨k, List.mem_cons_self, hb, h⟩
          · exact Or.inr ⟨k', List.mem_cons_of_mem _ h1, h2, h3⟩
        · rintro (h | ⟨k', h1, h2, h3⟩)
          · exact Or.inl (Or.inl h)
          · rcases List.mem_cons.1 h1 with e | h1
            · subst e; exact Or.inl (Or.inr h3)
            · exact Or.inr ⟨k', h1, h2, h3⟩
      | false =>
        rw [if_neg Bool.false_ne_true]
        constructor
        · rintro (h | ⟨k', h1, h2, h3⟩)
          · exact Or.inl h
          · exact Or.inr ⟨k', List.mem_cons_of_mem _ h1, h2, h3⟩
        · rintro (h | ⟨k', h1, h2, h3⟩)
          · exact Or.inl h
          · rcases List.mem_cons.1 h1 with e | h1
            · subst e; rw [hb] at h2; cases h2
            · exact Or.inr ⟨k', h1, h2, h3⟩
  show (stepL D b (bitsN x)).1.testBit j = true ↔ _
  unfold stepL
  rw [key]
  constructor
  · rintro (h | ⟨k, h1, h2, h3⟩)
    · simp at h
    · exact ⟨k, (mem_bitsN.1 h1).1, (mem_bitsN.1 h1).2, h2, h3⟩
  · rintro ⟨k, h0, h1, h2, h3⟩
    exact Or.inr ⟨k, mem_bitsN.2 ⟨h0, h1⟩, h2, h3⟩
theorem stepN_twoB (D : PlD) (x b j : Nat) : (stepN D x b).2.testBit j = true ↔ ∃ k, k < 64 ∧ x.testBit k = true ∧ (D.mt b).1.testBit k = true ∧ (D.nx.getD k (0, 0)).2.testBit j = true := by
  have key : ∀ (ks : List Nat) (acc : S2), (ks.foldl (fun acc k => if (D.mt b).1.testBit k then acc.or (D.nx.getD k (0, 0)) else acc) acc).2.testBit j = true ↔ acc.2.testBit j = true ∨ ∃ k, k ∈ ks ∧ (D.mt b).1.testBit k = true ∧ (D.nx.getD k (0, 0)).2.testBit j = true := by
    intro ks
    induction ks with
    | nil => intro acc; simp
    | cons k ks ih =>
      intro acc
      rw [List.foldl_cons, ih]
      cases hb : (D.mt b).1.testBit k with
      | true =>
        rw [if_pos rfl]
        have e : (acc.or (D.nx.getD k (0, 0))).2.testBit j = (acc.2.testBit j || (D.nx.getD k (0, 0)).2.testBit j) := Nat.testBit_or ..
        rw [e, Bool.or_eq_true]
        constructor
        · rintro ((h | h) | ⟨k', h1, h2, h3⟩)
          · exact Or.inl h
          · exact Or.inr ⟨k, List.mem_cons_self, hb, h⟩
          · exact Or.inr ⟨k', List.mem_cons_of_mem _ h1, h2, h3⟩
        · rintro (h | ⟨k', h1, h2, h3⟩)
          · exact Or.inl (Or.inl h)
          · rcases List.mem_cons.1 h1 with e | h1
            · subst e; exact Or.inl (Or.inr h3)
            · exact Or.inr ⟨k', h1, h2, h3⟩
      | false =>
        rw [if_neg Bool.false_ne_true]
        constructor
        · rintro (h | ⟨k', h1, h2, h3⟩)
          · exact Or.inl h
          · exact Or.inr ⟨k', List.mem_cons_of_mem _ h1, h2, h3⟩
        · rintro (h | ⟨k', h1, h2, h3⟩)
          · exact Or.inl h
          · rcases List.mem_cons.1 h1 with e | h1
            · subst e; rw [hb] at h2; cases h2
            · exact Or.inr ⟨k', h1, h2, h3⟩
  show (stepL D b (bitsN x)).2.testBit j = true ↔ _
  unfold stepL
  rw [key]
  constructor
  · rintro (h | ⟨k, h1, h2, h3⟩)
    · simp at h
    · exact ⟨k, (mem_bitsN.1 h1).1, (mem_bitsN.1 h1).2, h2, h3⟩
  · rintro ⟨k, h0, h1, h2, h3⟩
    exact Or.inr ⟨k, mem_bitsN.2 ⟨h0, h1⟩, h2, h3⟩
theorem stepN_meets (D : PlD) (x b : Nat) (g : S2) : (stepN D x b).meets g = true ↔ ∃ k, k < 64 ∧ x.testBit k = true ∧ (D.mt b).1.testBit k = true ∧ (D.nx.getD k (0, 0)).meets g = true := by
  rw [S2.meets_iff]
  constructor
  · rintro (⟨j, h1, h2⟩ | ⟨j, h1, h2⟩)
    · obtain ⟨k, a1, a2, a3, a4⟩ := (stepN_one D x b j).1 h1
      exact ⟨k, a1, a2, a3, S2.meets_iff.2 (Or.inl ⟨j, a4, h2⟩)⟩
    · obtain ⟨k, a1, a2, a3, a4⟩ := (stepN_twoB D x b j).1 h1
      exact ⟨k, a1, a2, a3, S2.meets_iff.2 (Or.inr ⟨j, a4, h2⟩)⟩
  · rintro ⟨k, a1, a2, a3, a4⟩
    rcases S2.meets_iff.1 a4 with ⟨j, h1, h2⟩ | ⟨j, h1, h2⟩
    · exact Or.inl ⟨j, (stepN_one D x b j).2 ⟨k, a1, a2, a3, h1⟩, h2⟩
    · exact Or.inr ⟨j, (stepN_twoB D x b j).2 ⟨k, a1, a2, a3, h1⟩, h2⟩
theorem S2.bit_one {k j : Nat} (hk : k < 64) : (S2.bit k).1.testBit j = true ↔ j = k := by
  unfold S2.bit
  rw [if_pos hk]
  show (2 ^ k).testBit j = true ↔ _
  rw [Nat.testBit_two_pow]
  simp only [decide_eq_true_eq]
  exact eq_comm
theorem backL_one (D : PlD) (goal : S2) (ks : List Nat) (h64 : ∀ k, k ∈ ks → k < 64) (acc : S2) (j : Nat) : (ks.foldl (fun acc k => if (D.nx.getD k (0, 0)).meets goal then acc.or (S2.bit k) else acc) acc).1.testBit j = true ↔ acc.1.testBit j = true ∨ j ∈ ks ∧ (D.nx.getD j (0, 0)).meets goal = true := by
  induction ks generalizing acc with
  | nil => simp
  | cons k ks ih =>
    rw [List.foldl_cons, ih (fun j hj => h64 j (List.mem_cons_of_mem _ hj))]
    cases hm : (D.nx.getD k (0, 0)).meets goal with
    | true =>
      rw [if_pos rfl]
      have e : (acc.or (S2.bit k)).1.testBit j = (acc.1.testBit j || (S2.bit k).1.testBit j) := Nat.testBit_or ..
      rw [e, Bool.or_eq_true, S2.bit_one (h64 k List.mem_cons_self)]
      constructor
      · rintro ((h | h) | ⟨h1, h2⟩)
        · exact Or.inl h
        · subst h; exact Or.inr ⟨List.mem_cons_self, hm⟩
        · exact Or.inr ⟨List.mem_cons_of_mem _ h1, h2⟩
      · rintro (h | ⟨h1, h2⟩)
        · exact Or.inl (Or.inl h)
        · rcases List.mem_cons.1 h1 with e | h1
          · exact Or.inl (Or.inr e)
          · exact Or.inr ⟨h1, h2⟩
    | false =>
      rw [if_neg Bool.false_ne_true]
      constructor
      · rintro (h | ⟨h1, h2⟩)
        · exact Or.inl h
        · exact Or.inr ⟨List.mem_cons_of_mem _ h1, h2⟩
      · rintro (h | ⟨h1, h2⟩)
        · exact Or.inl h
        · rcases List.mem_cons.1 h1 with e | h1
          · subst e; rw [hm] at h2; cases h2
          · exact Or.inr ⟨h1, h2⟩
/-- What leads on by a byte: what steps there by it. -/
theorem back_meets (D : PlD) (a : S2) (b : Nat) (later : S2) : a.meets (backN D b later) = true ↔ (stepN D a.1 b).meets (later.or D.en) = true := by
  rw [stepN_meets, S2.meets_iff]
  unfold backN
  have h2 : (backL D (later.or D.en) (bitsN (D.mt b).1)).2 = 0 := backL_two D _ _ _ (fun k hk => (mem_bitsN.1 hk).1) rfl
  constructor
  · rintro (⟨k, h, h'⟩ | ⟨k, h, h'⟩)
    · unfold backL at h'
      rcases (backL_one D _ _ (fun k hk => (mem_bitsN.1 hk).1) (0, 0) k).1 h' with h3 | ⟨h3, h4⟩
      · simp at h3
      · exact ⟨k, (mem_bitsN.1 h3).1, h, (mem_bitsN.1 h3).2, h4⟩
    · rw [h2] at h'; simp at h'
  · rintro ⟨k, h0, h1, h3, h4⟩
    refine Or.inl ⟨k, h1, ?_⟩
    unfold backL
    exact (backL_one D _ _ (fun k hk => (mem_bitsN.1 hk).1) (0, 0) k).2 (Or.inr ⟨mem_bitsN.2 ⟨h0, h3⟩, h4⟩)

/-- The state behind so many bytes, from a state at a place. -/
def runF (D : PlD) (s : ByteArray) : S2 → Nat → Nat → S2
  | z, _, 0 => z
  | z, m, k + 1 => runF D s (stepN D z.1 (byteN s m)) (m + 1) k
theorem runF_add (D : PlD) (s : ByteArray) : ∀ (j k m : Nat) (z : S2), runF D s z m (j + k) = runF D s (runF D s z m j) (m + j) k
  | 0, k, m, z => by rw [Nat.zero_add]; rfl
  | j + 1, k, m, z => by
    rw [show j + 1 + k = (j + k) + 1 by omega]
    show runF D s _ (m + 1) (j + k) = runF D s (runF D s _ (m + 1) j) _ k
    rw [runF_add D s j k (m + 1), show m + 1 + j = m + (j + 1) by omega]
theorem runF_succ (D : PlD) (s : ByteArray) (k m : Nat) (z : S2) : runF D s z m (k + 1) = stepN D (runF D s z m k).1 (byteN s (m + k)) := by
  rw [runF_add D s k 1]; rfl
/-- The state leads on just if a rule ends further on. -/
theorem leads_iff (D : PlD) (s : ByteArray) : ∀ (n m : Nat), s.size - m = n → m ≤ s.size → ∀ a : S2, a.meets (leadN D s m) = true ↔ ∃ k, 1 ≤ k ∧ m + k ≤ s.size ∧ (runF D s a m k).meets D.en = true
  | 0, m, hn, hm, a => by
    have e : m = s.size := by omega
    rw [e, leadN_end, S2.meets_zero]
    constructor
    · intro h; cases h
    · rintro ⟨k, h1, h2, -⟩; omega
  | n + 1, m, hn, hm, a => by
    rw [leadN_step D s (show m < s.size by omega), back_meets, S2.meets_or, Bool.or_eq_true, leads_iff D s n (m + 1) (by omega) (by omega)]
    constructor
    · rintro (⟨k, h1, h2, h3⟩ | h)
      · exact ⟨k + 1, by omega, by omega, h3⟩
      · exact ⟨1, Nat.le_refl _, by omega, h⟩
    · rintro ⟨k, h1, h2, h3⟩
      cases k with
      | zero => omega
      | succ k =>
        cases k with
        | zero => exact Or.inr h3
        | succ k => exact Or.inl ⟨k + 1, by omega, by omega, h3⟩

/-- The state behind so many bytes of a token that begins at a place. -/
def runN (D : PlD) (s : ByteArray) (a k : Nat) : S2 := runF D s (firstN D) a k
/-- A rule ends there. -/
def Ends (D : PlD) (s : ByteArray) (a k : Nat) : Prop := 1 ≤ k ∧ a + k ≤ s.size ∧ (runN D s a k).meets D.en = true
/-- The token at a place: the longest match, or a byte that is none's. -/
def IsTok (D : PlD) (s : ByteArray) (a : Nat) (x : Tok) : Prop :=
  (∃ K, Ends D s a K ∧ (∀ k, K < k → ¬ Ends D s a k) ∧ x = ⟨ruleN (runN D s a K), a, a + K⟩) ∨ ((∀ k, ¬ Ends D s a k) ∧ x = ⟨-1, a, a + 1⟩)
/-- Tokens one behind the other, to the text's end. -/
def Cuts (D : PlD) (s : ByteArray) : Nat → List Tok → Prop
  | a, [] => a = s.size
  | a, x :: xs => a < s.size ∧ IsTok D s a x ∧ Cuts D s x.tt xs

theorem lead_run {D : PlD} {s : ByteArray} {a j : Nat} (h : a + j ≤ s.size) : (runN D s a j).meets (leadN D s (a + j)) = true ↔ ∃ k, j < k ∧ Ends D s a k := by
  rw [leads_iff D s _ (a + j) rfl h]
  constructor
  · rintro ⟨k, h1, h2, h3⟩
    refine ⟨j + k, by omega, by omega, by omega, ?_⟩
    unfold runN at h3 ⊢
    rw [runF_add]; exact h3
  · rintro ⟨k, h0, h1, h2, h3⟩
    refine ⟨k - j, by omega, by omega, ?_⟩
    unfold runN at h3 ⊢
    rw [show k = j + (k - j) by omega, runF_add] at h3; exact h3
/-- A run within a token. -/
theorem iter_in {D : PlD} {s : ByteArray} {T : List Tok} {a : Nat} {st : S2} : ∀ j, 0 < j → a + j ≤ s.size → (∃ k, j < k ∧ Ends D s a k) → iterR D s j ⟨T, a, a, st⟩ = ⟨T, a, a + j, runN D s a j⟩ := by
  intro j
  induction j with
  | zero => intro h; omega
  | succ j ih =>
    intro _ hj hk
    obtain ⟨k, hk1, hk2⟩ := hk
    have hcur : ∀ x : Rn, x.tk = T → x.fr = a → x.at' = a + j → ((x.at' = x.fr) → j = 0) → (j ≠ 0 → x.st = runN D s a j) → stepR D s x = ⟨T, a, a + (j + 1), runN D s a (j + 1)⟩ := by
      intro x h1 h2 h3 h4 h5
      have hn : nextS D s x = runN D s a (j + 1) := by
        have e : (if x.at' = x.fr then firstN D else x.st) = runN D s a j := by
          by_cases h0 : j = 0
          · subst h0; rw [if_pos (by rw [h3, h2]; rfl)]; rfl
          · rw [if_neg (fun e => h0 (h4 e)), h5 h0]
        show (if (if x.at' = x.fr then firstN D else x.st).meets (leadN D s x.at') = true then stepN D (if x.at' = x.fr then firstN D else x.st).1 (byteN s x.at') else (0, 0)) = _
        rw [e, h3]
        rw [if_pos ((lead_run (by omega)).2 ⟨k, by omega, hk2⟩)]
        unfold runN; rw [runF_succ]
      rw [stepR_eq, hn, h3, if_pos (by have := (lead_run (D := D) (s := s) (a := a) (j := j + 1) hj).2 ⟨k, hk1, hk2⟩; exact this), h1, h2]
      rfl
    by_cases h0 : j = 0
    · subst h0
      exact hcur ⟨T, a, a, st⟩ rfl rfl rfl (fun _ => rfl) (fun h => absurd rfl h)
    · rw [iterR_succ, ih (by omega) (by omega) ⟨k, by omega, hk2⟩]
      exact hcur _ rfl rfl rfl (fun e => by have e' : a + j = a := e; omega) (fun _ => rfl)
theorem ruleN_zero : ruleN (0, 0) = -1 := rfl
/-- A run over a token. -/
theorem iter_tok {D : PlD} {s : ByteArray} {T : List Tok} {a : Nat} {st : S2} (ha : a < s.size) : ∃ x z, IsTok D s a x ∧ a < x.tt ∧ x.tt ≤ s.size ∧ iterR D s (x.tt - a) ⟨T, a, a, st⟩ = ⟨T ++ [x], x.tt, x.tt, z⟩ := by
  by_cases hex : ∃ k, Ends D s a k
  · -- the longest
    obtain ⟨K, hK, hmax⟩ : ∃ K, Ends D s a K ∧ ∀ k, K < k → ¬ Ends D s a k := by
      have key : ∀ n K, s.size - (a + K) = n → Ends D s a K → ∃ K, Ends D s a K ∧ ∀ k, K < k → ¬ Ends D s a k := by
        intro n
        induction n using Nat.strongRecOn with
        | ind n ih =>
          intro K hn hK
          by_cases h : ∃ k, K < k ∧ Ends D s a k
          · obtain ⟨k, h1, h2⟩ := h
            have := h2.2.1
            exact ih (s.size - (a + k)) (by omega) k rfl h2
          · exact ⟨K, hK, fun k hk hE => h ⟨k, hk, hE⟩⟩
      obtain ⟨k, hk⟩ := hex
      exact key _ k rfl hk
    have h1 := hK.1
    have h2 := hK.2.1
    refine ⟨⟨ruleN (runN D s a K), a, a + K⟩, runN D s a K, Or.inl ⟨K, hK, hmax, rfl⟩, by show a < a + K; omega, h2, ?_⟩
    show iterR D s (a + K - a) _ = _
    obtain ⟨j, rfl⟩ : ∃ j, K = j + 1 := ⟨K - 1, by omega⟩
    rw [show a + (j + 1) - a = j + 1 by omega]
    have hlast : ∀ x : Rn, x.tk = T → x.fr = a → x.at' = a + j → ((x.at' = x.fr) → j = 0) → (j ≠ 0 → x.st = runN D s a j) → stepR D s x = ⟨T ++ [⟨ruleN (runN D s a (j + 1)), a, a + (j + 1)⟩], a + (j + 1), a + (j + 1), runN D s a (j + 1)⟩ := by
      intro x k1 k2 h3 h4 h5
      have hn : nextS D s x = runN D s a (j + 1) := by
        have e : (if x.at' = x.fr then firstN D else x.st) = runN D s a j := by
          by_cases h0 : j = 0
          · subst h0; rw [if_pos (by rw [h3, k2]; rfl)]; rfl
          · rw [if_neg (fun e => h0 (h4 e)), h5 h0]
        show (if (if x.at' = x.fr then firstN D else x.st).meets (leadN D s x.at') = true then stepN D (if x.at' = x.fr then firstN D else x.st).1 (byteN s x.at') else (0, 0)) = _
        rw [e, h3]
        rw [if_pos ((lead_run (by omega)).2 ⟨j + 1, by omega, hK⟩)]
        unfold runN; rw [runF_succ]
      have hno : ¬ (runN D s a (j + 1)).meets (leadN D s (a + (j + 1))) = true := by
        intro h
        obtain ⟨k, h6, h7⟩ := (lead_run (by omega)).1 h
        exact hmax k h6 h7
      rw [stepR_eq, hn, h3, if_neg (by exact hno), k1, k2]
      rfl
    by_cases h0 : j = 0
    · subst h0
      exact hlast ⟨T, a, a, st⟩ rfl rfl rfl (fun _ => rfl) (fun h => absurd rfl h)
    · rw [iterR_succ, iter_in j (by omega) (by omega) ⟨j + 1, by omega, hK⟩]
      exact hlast _ rfl rfl rfl (fun e => by have e' : a + j = a := e; omega) (fun _ => rfl)
  · have hno : ∀ k, ¬ Ends D s a k := fun k hk => hex ⟨k, hk⟩
    refine ⟨⟨-1, a, a + 1⟩, (0, 0), Or.inr ⟨hno, rfl⟩, by show a < a + 1; omega, by show a + 1 ≤ s.size; omega, ?_⟩
    show iterR D s (a + 1 - a) _ = _
    rw [show a + 1 - a = 1 by omega]
    show stepR D s ⟨T, a, a, st⟩ = _
    have hn : nextS D s ⟨T, a, a, st⟩ = (0, 0) := by
      unfold nextS
      simp only [if_true]
      rw [if_neg]
      intro h
      obtain ⟨k, h6, h7⟩ := (lead_run (D := D) (s := s) (a := a) (j := 0) (by omega)).1 h
      exact hno k h7
    rw [stepR_eq, hn]
    have hz : S2.meets (0, 0) (leadN D s (a + 1)) = false := by unfold S2.meets; simp
    rw [if_neg (by rw [hz]; exact Bool.false_ne_true)]
    rfl
theorem iter_cuts (D : PlD) (s : ByteArray) : ∀ (n a : Nat) (T : List Tok) (st : S2), s.size - a = n → a ≤ s.size → ∃ l z, Cuts D s a l ∧ iterR D s (s.size - a) ⟨T, a, a, st⟩ = ⟨T ++ l, s.size, s.size, z⟩ := by
  intro n
  induction n using Nat.strongRecOn with
  | ind n ih =>
    intro a T st hn ha
    by_cases he : a = s.size
    · refine ⟨[], st, he, ?_⟩
      subst he
      rw [Nat.sub_self, List.append_nil]; rfl
    · obtain ⟨x, z, h1, h2, h3, h4⟩ := iter_tok (D := D) (T := T) (st := st) (show a < s.size by omega)
      obtain ⟨l, z', h5, h6⟩ := ih (s.size - x.tt) (by omega) x.tt (T ++ [x]) z rfl h3
      refine ⟨x :: l, z', ⟨by omega, h1, h5⟩, ?_⟩
      rw [show s.size - a = (x.tt - a) + (s.size - x.tt) by omega, iterR_add, h4, h6]
      simp
/-- A text is cut into the longest matches. -/
theorem lexN_cuts (D : PlD) (s : ByteArray) : Cuts D s 0 (lexN D s) := by
  obtain ⟨l, z, h1, h2⟩ := iter_cuts D s _ 0 [] (0, 0) rfl (Nat.zero_le _)
  have e : lexN D s = l := by
    unfold lexN
    rw [show rn0 = ⟨[], 0, 0, (0, 0)⟩ from rfl, show s.size = s.size - 0 by omega]
    rw [h2]; rfl
  rw [e]; exact h1
end Go.Proofs.YtjhmlcilabnlbaaDoor
