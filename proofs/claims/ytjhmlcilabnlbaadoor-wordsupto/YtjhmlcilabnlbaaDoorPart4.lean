import Derived.Deep.RegionWith
import Derived.Deep.RegionLaw
import Derived.MapKept
import Derived.Defers
import Derived.Laws.Pointers
import Derived.Laws.LoneSync
import Derived.RegionTactic
import Derived.RegionCalls
import Derived.Test.YtjhmlcilabnlbaaDoorPart3
import Derived.Test.YtjhmlcilabnlbaaDoorPart1
/- States: the making of a part of any kind: one induction over the tree. -/
namespace Go.Proofs.YtjhmlcilabnlbaaDoor
open Go.RowKit Go.Shelf

attribute [local go_sem] Oper.semAt_some

set_option maxRecDepth 100000 in
set_option maxHeartbeats 2000000 in
theorem lay_row (B : Nat) (hB1 : 1 ≤ B) (n : Nat) (l : List (Nd × Tr)) (hL : ∀ x, x ∈ l → LayC B n x.2) (hl : l.length ≤ 1000) (g c : Nat) (D : PlD) (p : Nat) (vb vn : Value) (w : World) (hD : D.good n) (hv : D.nx.length + (Tr.row (l.map (·.2))).lv ≤ 64) (hP : PlanIn B w p vb vn D) (hg : Parts w (fun k => B ≤ k) g (noT l)) (hT : ∀ x, x ∈ l → PT w (fun k => B ≤ k) x.1 x.2) (hTab : TabIn w) :
    Calls Tryd.prog 26 #[.pointer (some ⟨p, 0, none⟩), .agg #[.int .i64 1, .int .u64 0, .int .u64 0, .int .u64 0, .int .u64 0, .slice (some ⟨g, 0, none⟩) l.length c, .bool false, .bool false]] w fun e w' => ∃ vn', e = .returned (lay (.row (l.map (·.2))) D).2.val ∧ PlanIn B w' p vb vn' (lay (.row (l.map (·.2))) D).1 ∧ Turn (plS p vn) w w' ∧ Moved w vn vn' := by
  have hplt := hP.lt
  have hpB := hP.pge
  have hV : Below w.heap.size w ((w.alloc (.cells #[.int .i64 1, .int .u64 0, .int .u64 0, .int .u64 0, .int .u64 0, .slice (some ⟨g, 0, none⟩) l.length c, .bool false, .bool false] 49)).alloc (.cells #[.int .u64 0, .int .u64 0, .int .u64 0, .int .u64 0, .bool false] 83)) := ((Below.refl _ w).alloc (Nat.le_refl _) _).alloc (by simp) _
  have v1 : PB ((w.alloc (.cells #[.int .i64 1, .int .u64 0, .int .u64 0, .int .u64 0, .int .u64 0, .slice (some ⟨g, 0, none⟩) l.length c, .bool false, .bool false] 49)).alloc (.cells #[.int .u64 0, .int .u64 0, .int .u64 0, .int .u64 0, .bool false] 83)) (w.heap.size + 1) pc0 := by
    have h := heap_alloc_at (w.alloc (.cells #[.int .i64 1, .int .u64 0, .int .u64 0, .int .u64 0, .int .u64 0, .slice (some ⟨g, 0, none⟩) l.length c, .bool false, .bool false] 49)) (.cells #[.int .u64 0, .int .u64 0, .int .u64 0, .int .u64 0, .bool false] 83)
    rw [World.size_alloc] at h
    exact h
  have hlay : lay (.row (l.map (·.2))) D = layRow (l.map (·.2)) D pc1 := by unfold lay; rfl
  have hv' : D.nx.length + lvs (l.map (·.2)) ≤ 64 := by unfold Tr.lv at hv; exact hv
  go_enter Tryd.func26, Tryd.ntmps26
  go_wp2_with fail
  generalize ((w.alloc (.cells #[.int .i64 1, .int .u64 0, .int .u64 0, .int .u64 0, .int .u64 0, .slice (some ⟨g, 0, none⟩) l.length c, .bool false, .bool false] 49)).alloc (.cells #[.int .u64 0, .int .u64 0, .int .u64 0, .int .u64 0, .bool false] 83)) = V at *
  have onV : OnlyS (fun k => B ≤ k) w V := fun k hk _ => hV.block k hk
  refine (row_any B hB1 n l hL hl D g c p vb vn V hD hv' (hP.below hV (Nat.le_refl _)) (hg.only onV) (fun x hx => (hT x hx).only onV) (hTab.below hV (by omega))).mono ?_
  rintro e w2 ⟨vn2, rfl, hP2, hT2, hM2⟩
  obtain ⟨hz, q, hPe, hTe, hMe⟩ := hand_back (layRow (l.map (·.2)) D pc1).2 hP hV (by omega) v1 hP2 hT2 hM2
  have HL := hid hlay
  clear hlay
  generalize (layRow (l.map (·.2)) D pc1) = res at *
  obtain ⟨D2, pc⟩ := res
  dsimp only at hPe hTe q
  unfold Pc.val
  dsimp only
  have r0 := hz.c0
  have r1 := hz.c1
  have r2 := hz.c2
  have r3 := hz.c3
  have r4 := hz.c4
  have rf := hz.fz
  go_wp2_with fail
  have q0 := q.c0
  have q1 := q.c1
  have q2 := q.c2
  have q3 := q.c3
  have q4 := q.c4
  refine bodyPost_ret (v := pc.val) (by unfold putPc at q0 q1 q2 q3 q4; simp [results, Tryd.results26, go_sem, q0, q1, q2, q3, q4, Pc.val]) rfl ?_
  first | exact ⟨_, by rw [HL.out], by rw [HL.out]; exact hPe, hTe, hMe⟩ | exact ⟨by rw [HL.out], _, by rw [HL.out]; exact hPe, hTe, hMe⟩

set_option maxRecDepth 100000 in
set_option maxHeartbeats 2000000 in
theorem lay_alt (B : Nat) (hB1 : 1 ≤ B) (n : Nat) (l : List (Nd × Tr)) (hL : ∀ x, x ∈ l → LayC B n x.2) (hl : l.length ≤ 1000) (g c : Nat) (D : PlD) (p : Nat) (vb vn : Value) (w : World) (hD : D.good n) (hv : D.nx.length + (Tr.alt (l.map (·.2))).lv ≤ 64) (hP : PlanIn B w p vb vn D) (hg : Parts w (fun k => B ≤ k) g (noT l)) (hT : ∀ x, x ∈ l → PT w (fun k => B ≤ k) x.1 x.2) (hTab : TabIn w) :
    Calls Tryd.prog 26 #[.pointer (some ⟨p, 0, none⟩), .agg #[.int .i64 2, .int .u64 0, .int .u64 0, .int .u64 0, .int .u64 0, .slice (some ⟨g, 0, none⟩) l.length c, .bool false, .bool false]] w fun e w' => ∃ vn', e = .returned (lay (.alt (l.map (·.2))) D).2.val ∧ PlanIn B w' p vb vn' (lay (.alt (l.map (·.2))) D).1 ∧ Turn (plS p vn) w w' ∧ Moved w vn vn' := by
  have hplt := hP.lt
  have hpB := hP.pge
  have hV : Below w.heap.size w ((w.alloc (.cells #[.int .i64 2, .int .u64 0, .int .u64 0, .int .u64 0, .int .u64 0, .slice (some ⟨g, 0, none⟩) l.length c, .bool false, .bool false] 49)).alloc (.cells #[.int .u64 0, .int .u64 0, .int .u64 0, .int .u64 0, .bool false] 83)) := ((Below.refl _ w).alloc (Nat.le_refl _) _).alloc (by simp) _
  have v1 : PB ((w.alloc (.cells #[.int .i64 2, .int .u64 0, .int .u64 0, .int .u64 0, .int .u64 0, .slice (some ⟨g, 0, none⟩) l.length c, .bool false, .bool false] 49)).alloc (.cells #[.int .u64 0, .int .u64 0, .int .u64 0, .int .u64 0, .bool false] 83)) (w.heap.size + 1) pc0 := by
    have h := heap_alloc_at (w.alloc (.cells #[.int .i64 2, .int .u64 0, .int .u64 0, .int .u64 0, .int .u64 0, .slice (some ⟨g, 0, none⟩) l.length c, .bool false, .bool false] 49)) (.cells #[.int .u64 0, .int .u64 0, .int .u64 0, .int .u64 0, .bool false] 83)
    rw [World.size_alloc] at h
    exact h
  have hlay : lay (.alt (l.map (·.2))) D = layAlt (l.map (·.2)) D pc0 := by unfold lay; rfl
  have hv' : D.nx.length + lvs (l.map (·.2)) ≤ 64 := by unfold Tr.lv at hv; exact hv
  go_enter Tryd.func26, Tryd.ntmps26
  go_wp2_with fail
  generalize ((w.alloc (.cells #[.int .i64 2, .int .u64 0, .int .u64 0, .int .u64 0, .int .u64 0, .slice (some ⟨g, 0, none⟩) l.length c, .bool false, .bool false] 49)).alloc (.cells #[.int .u64 0, .int .u64 0, .int .u64 0, .int .u64 0, .bool false] 83)) = V at *
  have onV : OnlyS (fun k => B ≤ k) w V := fun k hk _ => hV.block k hk
  refine (either_any B hB1 n l hL hl D g c p vb vn V hD hv' (hP.below hV (Nat.le_refl _)) (hg.only onV) (fun x hx => (hT x hx).only onV) (hTab.below hV (by omega))).mono ?_
  rintro e w2 ⟨vn2, rfl, hP2, hT2, hM2⟩
  obtain ⟨hz, q, hPe, hTe, hMe⟩ := hand_back (layAlt (l.map (·.2)) D pc0).2 hP hV (by omega) v1 hP2 hT2 hM2
  have HL := hid hlay
  clear hlay
  generalize (layAlt (l.map (·.2)) D pc0) = res at *
  obtain ⟨D2, pc⟩ := res
  dsimp only at hPe hTe q
  unfold Pc.val
  dsimp only
  have r0 := hz.c0
  have r1 := hz.c1
  have r2 := hz.c2
  have r3 := hz.c3
  have r4 := hz.c4
  have rf := hz.fz
  go_wp2_with fail
  have q0 := q.c0
  have q1 := q.c1
  have q2 := q.c2
  have q3 := q.c3
  have q4 := q.c4
  refine bodyPost_ret (v := pc.val) (by unfold putPc at q0 q1 q2 q3 q4; simp [results, Tryd.results26, go_sem, q0, q1, q2, q3, q4, Pc.val]) rfl ?_
  first | exact ⟨_, by rw [HL.out], by rw [HL.out]; exact hPe, hTe, hMe⟩ | exact ⟨by rw [HL.out], _, by rw [HL.out]; exact hPe, hTe, hMe⟩

set_option maxRecDepth 100000 in
set_option maxHeartbeats 2000000 in
theorem lay_rep (B : Nat) (hB1 : 1 ≤ B) (n : Nat) (d : Nd) (t : Tr) (hL : LayC B n t) (no ag : Bool) (g c : Nat) (D : PlD) (p : Nat) (vb vn : Value) (w : World) (hD : D.good n) (hv : D.nx.length + (Tr.rep no ag t).lv ≤ 64) (hP : PlanIn B w p vb vn D) (hg : Parts w (fun k => B ≤ k) g (noT [(d, t)])) (hT : PT w (fun k => B ≤ k) d t) (hTab : TabIn w) :
    Calls Tryd.prog 26 #[.pointer (some ⟨p, 0, none⟩), .agg #[.int .i64 3, .int .u64 0, .int .u64 0, .int .u64 0, .int .u64 0, .slice (some ⟨g, 0, none⟩) 1 c, .bool no, .bool ag]] w fun e w' => ∃ vn', e = .returned (lay (.rep no ag t) D).2.val ∧ PlanIn B w' p vb vn' (lay (.rep no ag t) D).1 ∧ Turn (plS p vn) w w' ∧ Moved w vn vn' := by
  have hplt := hP.lt
  have hpB := hP.pge
  have hV : Below w.heap.size w ((w.alloc (.cells #[.int .i64 3, .int .u64 0, .int .u64 0, .int .u64 0, .int .u64 0, .slice (some ⟨g, 0, none⟩) 1 c, .bool no, .bool ag] 49)).alloc (.cells #[.int .u64 0, .int .u64 0, .int .u64 0, .int .u64 0, .bool false] 83)) := ((Below.refl _ w).alloc (Nat.le_refl _) _).alloc (by simp) _
  have v1 : PB ((w.alloc (.cells #[.int .i64 3, .int .u64 0, .int .u64 0, .int .u64 0, .int .u64 0, .slice (some ⟨g, 0, none⟩) 1 c, .bool no, .bool ag] 49)).alloc (.cells #[.int .u64 0, .int .u64 0, .int .u64 0, .int .u64 0, .bool false] 83)) (w.heap.size + 1) pc0 := by
    have h := heap_alloc_at (w.alloc (.cells #[.int .i64 3, .int .u64 0, .int .u64 0, .int .u64 0, .int .u64 0, .slice (some ⟨g, 0, none⟩) 1 c, .bool no, .bool ag] 49)) (.cells #[.int .u64 0, .int .u64 0, .int .u64 0, .int .u64 0, .bool false] 83)
    rw [World.size_alloc] at h
    exact h
  have hlay : lay (.rep no ag t) D = repEnd no ag (rowStep pc1 (lay t D)) := by conv => lhs; unfold lay
  have hv' : D.nx.length + t.lv ≤ 64 := by unfold Tr.lv at hv; exact hv
  go_enter Tryd.func26, Tryd.ntmps26
  go_wp2_with fail
  generalize ((w.alloc (.cells #[.int .i64 3, .int .u64 0, .int .u64 0, .int .u64 0, .int .u64 0, .slice (some ⟨g, 0, none⟩) 1 c, .bool no, .bool ag] 49)).alloc (.cells #[.int .u64 0, .int .u64 0, .int .u64 0, .int .u64 0, .bool false] 83)) = V at *
  have onV : OnlyS (fun k => B ≤ k) w V := fun k hk _ => hV.block k hk
  refine (repeat_any B hB1 n d t hL no ag D g c p vb vn V hD hv' (hP.below hV (Nat.le_refl _)) (hg.only onV) (hT.only onV) (hTab.below hV (by omega))).mono ?_
  rintro e w2 ⟨vn2, rfl, hP2, hT2, hM2⟩
  obtain ⟨hz, q, hPe, hTe, hMe⟩ := hand_back (repEnd no ag (rowStep pc1 (lay t D))).2 hP hV (by omega) v1 hP2 hT2 hM2
  have HL := hid hlay
  clear hlay
  generalize (repEnd no ag (rowStep pc1 (lay t D))) = res at *
  obtain ⟨D2, pc⟩ := res
  dsimp only at hPe hTe q
  unfold Pc.val
  dsimp only
  have r0 := hz.c0
  have r1 := hz.c1
  have r2 := hz.c2
  have r3 := hz.c3
  have r4 := hz.c4
  have rf := hz.fz
  go_wp2_with fail
  have q0 := q.c0
  have q1 := q.c1
  have q2 := q.c2
  have q3 := q.c3
  have q4 := q.c4
  refine bodyPost_ret (v := pc.val) (by unfold putPc at q0 q1 q2 q3 q4; simp [results, Tryd.results26, go_sem, q0, q1, q2, q3, q4, Pc.val]) rfl ?_
  first | exact ⟨_, by rw [HL.out], by rw [HL.out]; exact hPe, hTe, hMe⟩ | exact ⟨by rw [HL.out], _, by rw [HL.out]; exact hPe, hTe, hMe⟩

set_option maxRecDepth 100000 in
set_option maxHeartbeats 2000000 in
theorem lay_one (B : Nat) (_hB1 : 1 ≤ B) (n : Nat) (x0 x1 x2 x3 : Int) (D : PlD) (p : Nat) (vb vn : Value) (w : World) (hD : D.good n) (hv : D.nx.length + (Tr.leaf x0 x1 x2 x3).lv ≤ 64) (hP : PlanIn B w p vb vn D)  (_hTab : TabIn w) :
    Calls Tryd.prog 26 #[.pointer (some ⟨p, 0, none⟩), .agg #[.int .i64 0, .int .u64 x0, .int .u64 x1, .int .u64 x2, .int .u64 x3, .slice none 0 0, .bool false, .bool false]] w fun e w' => ∃ vn', e = .returned (lay (.leaf x0 x1 x2 x3) D).2.val ∧ PlanIn B w' p vb vn' (lay (.leaf x0 x1 x2 x3) D).1 ∧ Turn (plS p vn) w w' ∧ Moved w vn vn' := by
  have hplt := hP.lt
  have hpB := hP.pge
  have hV : Below w.heap.size w ((w.alloc (.cells #[.int .i64 0, .int .u64 x0, .int .u64 x1, .int .u64 x2, .int .u64 x3, .slice none 0 0, .bool false, .bool false] 49)).alloc (.cells #[.int .u64 0, .int .u64 0, .int .u64 0, .int .u64 0, .bool false] 83)) := ((Below.refl _ w).alloc (Nat.le_refl _) _).alloc (by simp) _
  have v1 : PB ((w.alloc (.cells #[.int .i64 0, .int .u64 x0, .int .u64 x1, .int .u64 x2, .int .u64 x3, .slice none 0 0, .bool false, .bool false] 49)).alloc (.cells #[.int .u64 0, .int .u64 0, .int .u64 0, .int .u64 0, .bool false] 83)) (w.heap.size + 1) pc0 := by
    have h := heap_alloc_at (w.alloc (.cells #[.int .i64 0, .int .u64 x0, .int .u64 x1, .int .u64 x2, .int .u64 x3, .slice none 0 0, .bool false, .bool false] 49)) (.cells #[.int .u64 0, .int .u64 0, .int .u64 0, .int .u64 0, .bool false] 83)
    rw [World.size_alloc] at h
    exact h
  have hlay : lay (.leaf x0 x1 x2 x3) D = (D.leaf x0 x1 x2 x3, leafPc D.nx.length) := by unfold lay; rfl
  have hv' : D.nx.length < 64 := by unfold Tr.lv at hv; omega
  go_enter Tryd.func26, Tryd.ntmps26
  go_wp2_with fail
  generalize ((w.alloc (.cells #[.int .i64 0, .int .u64 x0, .int .u64 x1, .int .u64 x2, .int .u64 x3, .slice none 0 0, .bool false, .bool false] 49)).alloc (.cells #[.int .u64 0, .int .u64 0, .int .u64 0, .int .u64 0, .bool false] 83)) = V at *
  have onV : OnlyS (fun k => B ≤ k) w V := fun k hk _ => hV.block k hk
  refine (atom_any B D hD.fine hv' p vb vn x0 x1 x2 x3 V (hP.below hV (Nat.le_refl _))).mono ?_
  rintro e w2 ⟨vn2, rfl, hP2, hT2, hM2⟩
  obtain ⟨hz, q, hPe, hTe, hMe⟩ := hand_back ((D.leaf x0 x1 x2 x3, leafPc D.nx.length) : PlD × Pc).2 hP hV (by omega) v1 hP2 hT2 hM2
  have HL := hid hlay
  clear hlay
  dsimp only at hPe hTe q
  generalize leafPc D.nx.length = pc at *
  unfold Pc.val
  dsimp only
  have r0 := hz.c0
  have r1 := hz.c1
  have r2 := hz.c2
  have r3 := hz.c3
  have r4 := hz.c4
  have rf := hz.fz
  go_wp2_with fail
  have q0 := q.c0
  have q1 := q.c1
  have q2 := q.c2
  have q3 := q.c3
  have q4 := q.c4
  refine bodyPost_ret (v := pc.val) (by unfold putPc at q0 q1 q2 q3 q4; simp [results, Tryd.results26, go_sem, q0, q1, q2, q3, q4, Pc.val]) rfl ?_
  first | exact ⟨_, by rw [HL.out], by rw [HL.out]; exact hPe, hTe, hMe⟩ | exact ⟨by rw [HL.out], _, by rw [HL.out]; exact hPe, hTe, hMe⟩

theorem lay_all (B : Nat) (hB1 : 1 ≤ B) (n : Nat) : ∀ (F : Nat) (t : Tr), SizeOf.sizeOf t ≤ F → LayC B n t := by
  intro F
  induction F with
  | zero =>
    intro t ht
    exfalso
    cases t <;> simp at ht
  | succ F ih =>
    intro t ht D d p vb vn w hD hv hP hT hTab
    cases hT with
    | one x0 x1 x2 x3 => exact lay_one B hB1 n x0 x1 x2 x3 D p vb vn w hD hv hP hTab
    | @rep g c d t no ag hg h => exact lay_rep B hB1 n d t (ih t (by simp at ht; omega)) no ag g c D p vb vn w hD hv hP hg h hTab
    | @row g c l hg hn h =>
      refine lay_row B hB1 n l (fun x hx => ih x.2 ?_) hn g c D p vb vn w hD hv hP hg h hTab
      have h1 := List.sizeOf_lt_of_mem (List.mem_map_of_mem (f := (·.2)) hx)
      simp at ht
      omega
    | @alt g c l hg hn h =>
      refine lay_alt B hB1 n l (fun x hx => ih x.2 ?_) hn g c D p vb vn w hD hv hP hg h hTab
      have h1 := List.sizeOf_lt_of_mem (List.mem_map_of_mem (f := (·.2)) hx)
      simp at ht
      omega
theorem lay_any (B : Nat) (hB1 : 1 ≤ B) (n : Nat) (t : Tr) : LayC B n t := lay_all B hB1 n _ t (Nat.le_refl _)
end Go.Proofs.YtjhmlcilabnlbaaDoor
/- The program: name. -/
namespace Go.Proofs.YtjhmlcilabnlbaaDoor
open Go.RowKit

theorem pnameTo_succ (s : ByteArray) (n i : Nat) : P.nameTo s (n + 1) i = if 97 ≤ P.bt s i ∧ P.bt s i ≤ 122 then P.nameTo s n (i + 1) else i := rfl
theorem letter_pk (s : ByteArray) (i : Nat) : letter (pk s i) = true ↔ (97 ≤ P.bt s i ∧ P.bt s i ≤ 122) := by
  unfold letter pk
  split
  · rename_i h; simp; omega
  · simp

theorem ret_sb {x : ByteArray} {a b : Bool} (h : a = b) : Ending.returned (.tuple #[.string x, .bool a]) = .returned (.tuple #[.string x, .bool b]) := by rw [h]

set_option maxHeartbeats 1000000 in
theorem name_any (b : Nat) (s : ByteArray) (i o : Nat) (w : World) (hs : s.size ≤ 400) (hR : QB w b s i o) (hi : i ≤ s.size) :
    Calls Tryd.prog 45 #[.pointer (some ⟨b, 0, none⟩)] w fun e w' => e = .returned (.tuple #[.string (s.extract i (P.nameTo s 8 i)), .bool (decide (i < P.nameTo s 8 i))]) ∧ QB w' b s (P.nameTo s 8 i) o ∧ Only b w w' := by
  have c1 := hR.c1
  go_enter Tryd.func45, Tryd.ntmps45
  go_wp2_with fail
  go_loopg [20] 8 (fun g _ wr => ∃ k : Nat, k + g = 8 ∧ i + k ≤ s.size ∧ QB wr b s (i + k) o ∧ Only b w wr ∧ Hid (P.nameTo s 8 i = P.nameTo s g (i + k)))
  case atStart => exact ⟨0, rfl, by omega, hR, Only.refl _ _, rfl⟩
  case round =>
    obtain ⟨k, hk8, hik, hR2, hO2, hN⟩ := hrel
    have d0 := hR2.c0
    have d1 := hR2.c1
    have df := hR2.fz 1
    clear c1
    have HL := hid (letter_pk s (i + k))
    by_cases hk : k < 8
    · have hk1 : ((i + k : Nat) : Int) - (i : Int) < 8 := by omega
      obtain ⟨g', rfl⟩ : ∃ g', gk = g' + 1 := ⟨gk - 1, by omega⟩
      cases hl : letter (pk s (i + k)) with
      | true =>
        have hr := HL.out.1 hl
        have hlt := lt_of_bt (s := s) (i := i + k) (by omega)
        have HN : Hid (P.nameTo s 8 i = P.nameTo s g' (i + k + 1)) := by unfold Hid; rw [hN.out, pnameTo_succ, if_pos hr]
        clear hr
        go_wp2_with (first | (go_at_call 47; refine (peek_any _ _ _ _ _ hR2).mono ?_; rintro e w3 ⟨rfl, n3, rfl⟩) | (go_at_call 59; refine (letter_any _ _).mono ?_; rintro e w4 ⟨rfl, rfl⟩))
        go_roundg g'
        case measure => omega
        case rel => exact ⟨k + 1, by omega, by omega, (hR2.drewN _).set1 (by omega), Only.setCell (p := ⟨b, 1, none⟩) (hO2.drewN _) rfl _, HN⟩
      | false =>
        have HN : Hid (P.nameTo s 8 i = i + k) := by
          unfold Hid; rw [hN.out, pnameTo_succ, if_neg]
          intro h; rw [HL.out.2 h] at hl; cases hl
        go_wp2_with (first | (go_at_call 47; refine (peek_any _ _ _ _ _ hR2).mono ?_; rintro e w3 ⟨rfl, n3, rfl⟩) | (go_at_call 59; refine (letter_any _ _).mono ?_; rintro e w4 ⟨rfl, rfl⟩))
        go_quiet (fail)
        go_wp2_with fail
        go_ret2
        rw [HN.out]
        exact ⟨ret_sb (by rw [decide_eq_decide]; omega), hR2, by first | exact hO2.drewN _ | exact (hO2.drewN _).drewN _⟩
    · have hk1 : decide (((i + k : Nat) : Int) - (i : Int) < 8) = false := by simp; omega
      have hk2 : decide ((i : Int) + (k : Int) - (i : Int) < 8) = false := by simp; omega
      have HN : Hid (P.nameTo s 8 i = i + k) := by
        unfold Hid; rw [hN.out, show gk = 0 from by omega]; rfl
      go_wp2_with fail
      go_quiet (fail)
      go_wp2_with fail
      go_ret2
      rw [HN.out]
      exact ⟨ret_sb (by rw [decide_eq_decide]; omega), hR2, by first | exact hO2.drewN _ | exact (hO2.drewN _).drewN _⟩
end Go.Proofs.YtjhmlcilabnlbaaDoor
/- The program: its rules in memory; rule. -/
namespace Go.Proofs.YtjhmlcilabnlbaaDoor
open Go.RowKit

/-- A rule's value: its name, its place, its node. -/
def ruleVal (nm : ByteArray) (p : Int) (d : Nd) : Value := .agg #[.string nm, .int .i64 p, .int .i64 d.k, .int .u64 d.x0, .int .u64 d.x1, .int .u64 d.x2, .int .u64 d.x3, .slice d.pa d.pn d.pc, .bool d.no, .bool d.ag]
def ruleCells (nm : ByteArray) (p : Int) (d : Nd) : List Value := [.string nm, .int .i64 p, .int .i64 d.k, .int .u64 d.x0, .int .u64 d.x1, .int .u64 d.x2, .int .u64 d.x3, .slice d.pa d.pn d.pc, .bool d.no, .bool d.ag]
/-- A rule's block. -/
def KB (w : World) (g : Nat) (nm : ByteArray) (p : Int) (d : Nd) : Prop := w.heap[g]? = some (.cells #[.string nm, .int .i64 p, .int .i64 d.k, .int .u64 d.x0, .int .u64 d.x1, .int .u64 d.x2, .int .u64 d.x3, .slice d.pa d.pn d.pc, .bool d.no, .bool d.ag] 51 (0, 0))
abbrev ruleObj (nm : ByteArray) (p : Int) (d : Nd) : Obj := .cells #[.string nm, .int .i64 p, .int .i64 d.k, .int .u64 d.x0, .int .u64 d.x1, .int .u64 d.x2, .int .u64 d.x3, .slice d.pa d.pn d.pc, .bool d.no, .bool d.ag] 51

theorem KB.c0 {w : World} {g : Nat} {nm : ByteArray} {p : Int} {d : Nd} (h : KB w g nm p d) : w.cell? ⟨g, 0, none⟩ = some (.string nm) := by simp [World.cell?, show w.heap[g]? = _ from h]
theorem KB.c1 {w : World} {g : Nat} {nm : ByteArray} {p : Int} {d : Nd} (h : KB w g nm p d) : w.cell? ⟨g, 1, none⟩ = some (.int .i64 p) := by simp [World.cell?, show w.heap[g]? = _ from h]
theorem KB.c2 {w : World} {g : Nat} {nm : ByteArray} {p : Int} {d : Nd} (h : KB w g nm p d) : w.cell? ⟨g, 2, none⟩ = some (.int .i64 d.k) := by simp [World.cell?, show w.heap[g]? = _ from h]
theorem KB.c3 {w : World} {g : Nat} {nm : ByteArray} {p : Int} {d : Nd} (h : KB w g nm p d) : w.cell? ⟨g, 3, none⟩ = some (.int .u64 d.x0) := by simp [World.cell?, show w.heap[g]? = _ from h]
theorem KB.c4 {w : World} {g : Nat} {nm : ByteArray} {p : Int} {d : Nd} (h : KB w g nm p d) : w.cell? ⟨g, 4, none⟩ = some (.int .u64 d.x1) := by simp [World.cell?, show w.heap[g]? = _ from h]
theorem KB.c5 {w : World} {g : Nat} {nm : ByteArray} {p : Int} {d : Nd} (h : KB w g nm p d) : w.cell? ⟨g, 5, none⟩ = some (.int .u64 d.x2) := by simp [World.cell?, show w.heap[g]? = _ from h]
theorem KB.c6 {w : World} {g : Nat} {nm : ByteArray} {p : Int} {d : Nd} (h : KB w g nm p d) : w.cell? ⟨g, 6, none⟩ = some (.int .u64 d.x3) := by simp [World.cell?, show w.heap[g]? = _ from h]
theorem KB.c7 {w : World} {g : Nat} {nm : ByteArray} {p : Int} {d : Nd} (h : KB w g nm p d) : w.cell? ⟨g, 7, none⟩ = some (.slice d.pa d.pn d.pc) := by simp [World.cell?, show w.heap[g]? = _ from h]
theorem KB.c8 {w : World} {g : Nat} {nm : ByteArray} {p : Int} {d : Nd} (h : KB w g nm p d) : w.cell? ⟨g, 8, none⟩ = some (.bool d.no) := by simp [World.cell?, show w.heap[g]? = _ from h]
theorem KB.c9 {w : World} {g : Nat} {nm : ByteArray} {p : Int} {d : Nd} (h : KB w g nm p d) : w.cell? ⟨g, 9, none⟩ = some (.bool d.ag) := by simp [World.cell?, show w.heap[g]? = _ from h]
theorem KB.fz {w : World} {g : Nat} {nm : ByteArray} {p : Int} {d : Nd} (h : KB w g nm p d) (k : Nat) : w.frozen? ⟨g, k, none⟩ = false := by simp [World.frozen?, show w.heap[g]? = _ from h]
/-- A rule stored over a rule's block. -/
abbrev put10 (w : World) (g : Nat) (nm : ByteArray) (p : Int) (d : Nd) : World := ((((((((((w.setCell ⟨g, 0, none⟩ (.string nm)).setCell ⟨g, 1, none⟩ (.int .i64 p)).setCell ⟨g, 2, none⟩ (.int .i64 d.k)).setCell ⟨g, 3, none⟩ (.int .u64 d.x0)).setCell ⟨g, 4, none⟩ (.int .u64 d.x1)).setCell ⟨g, 5, none⟩ (.int .u64 d.x2)).setCell ⟨g, 6, none⟩ (.int .u64 d.x3)).setCell ⟨g, 7, none⟩ (.slice d.pa d.pn d.pc)).setCell ⟨g, 8, none⟩ (.bool d.no)).setCell ⟨g, 9, none⟩ (.bool d.ag))
theorem c10set0 {w : World} {g : Nat} {v0 v1 v2 v3 v4 v5 v6 v7 v8 v9 : Value} (h : w.heap[g]? = some (.cells #[v0, v1, v2, v3, v4, v5, v6, v7, v8, v9] 51 (0, 0))) (u : Value) : (w.setCell ⟨g, 0, none⟩ u).heap[g]? = some (.cells #[u, v1, v2, v3, v4, v5, v6, v7, v8, v9] 51 (0, 0)) := heap_setCell_same (a := ⟨g, 0, none⟩) h rfl u
theorem c10set1 {w : World} {g : Nat} {v0 v1 v2 v3 v4 v5 v6 v7 v8 v9 : Value} (h : w.heap[g]? = some (.cells #[v0, v1, v2, v3, v4, v5, v6, v7, v8, v9] 51 (0, 0))) (u : Value) : (w.setCell ⟨g, 1, none⟩ u).heap[g]? = some (.cells #[v0, u, v2, v3, v4, v5, v6, v7, v8, v9] 51 (0, 0)) := heap_setCell_same (a := ⟨g, 1, none⟩) h rfl u
theorem c10set2 {w : World} {g : Nat} {v0 v1 v2 v3 v4 v5 v6 v7 v8 v9 : Value} (h : w.heap[g]? = some (.cells #[v0, v1, v2, v3, v4, v5, v6, v7, v8, v9] 51 (0, 0))) (u : Value) : (w.setCell ⟨g, 2, none⟩ u).heap[g]? = some (.cells #[v0, v1, u, v3, v4, v5, v6, v7, v8, v9] 51 (0, 0)) := heap_setCell_same (a := ⟨g, 2, none⟩) h rfl u
theorem c10set3 {w : World} {g : Nat} {v0 v1 v2 v3 v4 v5 v6 v7 v8 v9 : Value} (h : w.heap[g]? = some (.cells #[v0, v1, v2, v3, v4, v5, v6, v7, v8, v9] 51 (0, 0))) (u : Value) : (w.setCell ⟨g, 3, none⟩ u).heap[g]? = some (.cells #[v0, v1, v2, u, v4, v5, v6, v7, v8, v9] 51 (0, 0)) := heap_setCell_same (a := ⟨g, 3, none⟩) h rfl u
theorem c10set4 {w : World} {g : Nat} {v0 v1 v2 v3 v4 v5 v6 v7 v8 v9 : Value} (h : w.heap[g]? = some (.cells #[v0, v1, v2, v3, v4, v5, v6, v7, v8, v9] 51 (0, 0))) (u : Value) : (w.setCell ⟨g, 4, none⟩ u).heap[g]? = some (.cells #[v0, v1, v2, v3, u, v5, v6, v7, v8, v9] 51 (0, 0)) := heap_setCell_same (a := ⟨g, 4, none⟩) h rfl u
theorem c10set5 {w : World} {g : Nat} {v0 v1 v2 v3 v4 v5 v6 v7 v8 v9 : Value} (h : w.heap[g]? = some (.cells #[v0, v1, v2, v3, v4, v5, v6, v7, v8, v9] 51 (0, 0))) (u : Value) : (w.setCell ⟨g, 5, none⟩ u).heap[g]? = some (.cells #[v0, v1, v2, v3, v4, u, v6, v7, v8, v9] 51 (0, 0)) := heap_setCell_same (a := ⟨g, 5, none⟩) h rfl u
theorem c10set6 {w : World} {g : Nat} {v0 v1 v2 v3 v4 v5 v6 v7 v8 v9 : Value} (h : w.heap[g]? = some (.cells #[v0, v1, v2, v3, v4, v5, v6, v7, v8, v9] 51 (0, 0))) (u : Value) : (w.setCell ⟨g, 6, none⟩ u).heap[g]? = some (.cells #[v0, v1, v2, v3, v4, v5, u, v7, v8, v9] 51 (0, 0)) := heap_setCell_same (a := ⟨g, 6, none⟩) h rfl u
theorem c10set7 {w : World} {g : Nat} {v0 v1 v2 v3 v4 v5 v6 v7 v8 v9 : Value} (h : w.heap[g]? = some (.cells #[v0, v1, v2, v3, v4, v5, v6, v7, v8, v9] 51 (0, 0))) (u : Value) : (w.setCell ⟨g, 7, none⟩ u).heap[g]? = some (.cells #[v0, v1, v2, v3, v4, v5, v6, u, v8, v9] 51 (0, 0)) := heap_setCell_same (a := ⟨g, 7, none⟩) h rfl u
theorem c10set8 {w : World} {g : Nat} {v0 v1 v2 v3 v4 v5 v6 v7 v8 v9 : Value} (h : w.heap[g]? = some (.cells #[v0, v1, v2, v3, v4, v5, v6, v7, v8, v9] 51 (0, 0))) (u : Value) : (w.setCell ⟨g, 8, none⟩ u).heap[g]? = some (.cells #[v0, v1, v2, v3, v4, v5, v6, v7, u, v9] 51 (0, 0)) := heap_setCell_same (a := ⟨g, 8, none⟩) h rfl u
theorem c10set9 {w : World} {g : Nat} {v0 v1 v2 v3 v4 v5 v6 v7 v8 v9 : Value} (h : w.heap[g]? = some (.cells #[v0, v1, v2, v3, v4, v5, v6, v7, v8, v9] 51 (0, 0))) (u : Value) : (w.setCell ⟨g, 9, none⟩ u).heap[g]? = some (.cells #[v0, v1, v2, v3, v4, v5, v6, v7, v8, u] 51 (0, 0)) := heap_setCell_same (a := ⟨g, 9, none⟩) h rfl u
theorem KB.put10 {w : World} {g : Nat} {nm0 nm : ByteArray} {p0 p : Int} {d0 d : Nd} (h : KB w g nm0 p0 d0) : KB (put10 w g nm p d) g nm p d :=
  (c10set9 (c10set8 (c10set7 (c10set6 (c10set5 (c10set4 (c10set3 (c10set2 (c10set1 (c10set0 h _) _) _) _) _) _) _) _) _) _)
theorem heap_put10 {w : World} {g k : Nat} {nm : ByteArray} {p : Int} {d : Nd} (hk : k ≠ g) : (put10 w g nm p d).heap[k]? = w.heap[k]? :=
  ((Below.heap_setCell _ _ _ _ hk).trans ((Below.heap_setCell _ _ _ _ hk).trans ((Below.heap_setCell _ _ _ _ hk).trans ((Below.heap_setCell _ _ _ _ hk).trans ((Below.heap_setCell _ _ _ _ hk).trans ((Below.heap_setCell _ _ _ _ hk).trans ((Below.heap_setCell _ _ _ _ hk).trans ((Below.heap_setCell _ _ _ _ hk).trans ((Below.heap_setCell _ _ _ _ hk).trans (Below.heap_setCell _ _ _ _ hk))))))))))
theorem Only.put10 {x w : World} {b g : Nat} {nm : ByteArray} {p : Int} {d : Nd} (h : Only b x w) (hg : x.heap.size ≤ g) : Only b x (put10 w g nm p d) :=
  ((((((((((h.new (p := ⟨g, 0, none⟩) hg _).new (p := ⟨g, 1, none⟩) hg _).new (p := ⟨g, 2, none⟩) hg _).new (p := ⟨g, 3, none⟩) hg _).new (p := ⟨g, 4, none⟩) hg _).new (p := ⟨g, 5, none⟩) hg _).new (p := ⟨g, 6, none⟩) hg _).new (p := ⟨g, 7, none⟩) hg _).new (p := ⟨g, 8, none⟩) hg _).new (p := ⟨g, 9, none⟩) hg _)
theorem OnlyS.put10 {S : Nat → Prop} {x w : World} {g : Nat} {nm : ByteArray} {p : Int} {d : Nd} (h : OnlyS S x w) (hg : S g) : OnlyS S x (put10 w g nm p d) := fun j hj hs => (heap_put10 (fun e => hs (by rw [e]; exact hg))).trans (h j hj hs)

/-- What rule comes to. -/
def RuleF (r : P.PR P.Rl) (w' : World) (n : Nat) (nm : ByteArray) (p : Int) (d : Nd) (i : Nat) (k : Bool) : Prop :=
  match r with
  | .ok y j => k = true ∧ i = j ∧ nm = y.name ∧ p = (y.pos : Int) ∧ PN w' (· < n) d y.t
  | .bad q => k = false ∧ i = q
  | .out => False
def OutR (s : ByteArray) (b : Nat) (r : P.PR P.Rl) (w : World) (e : Ending) (w' : World) : Prop :=
  ∃ (nm : ByteArray) (p : Int) (d : Nd) (i' o' : Nat) (k : Bool), e = .returned (.tuple #[ruleVal nm p d, .bool k]) ∧ QB w' b s i' o' ∧ (k = true → o' = 0) ∧ Only b w w' ∧ i' ≤ s.size ∧ RuleF r w' w.heap.size nm p d i' k

theorem pnameTo_ge (s : ByteArray) (n i : Nat) : i ≤ P.nameTo s n i := by
  induction n generalizing i with
  | zero => exact Nat.le_refl _
  | succ n ih => rw [pnameTo_succ]; split; have := ih (i + 1); omega; exact Nat.le_refl _
theorem pnameTo_le (s : ByteArray) (n i : Nat) (hi : i ≤ s.size) : P.nameTo s n i ≤ s.size := by
  induction n generalizing i with
  | zero => exact hi
  | succ n ih =>
    rw [pnameTo_succ]; split
    · rename_i h; exact ih (i + 1) (lt_of_bt (by omega))
    · exact hi

/-- A fault: the zero rule, handed back. -/
theorem OutR.zero {s : ByteArray} {b i2 o2 : Nat} {w w2 : World} {R : P.PR P.Rl} (hlt : b < w.heap.size) (hO : Only b w w2) (hQ : QB w2 b s i2 o2) (hi2 : i2 ≤ s.size) (hR : R = .bad i2) :
    OutR s b R w (.returned (.tuple #[.agg #[.string ⟨#[]⟩, .int .i64 0, .int .i64 0, .int .u64 0, .int .u64 0, .int .u64 0, .int .u64 0, .slice none 0 0, .bool false, .bool false], .bool false])) (put10 w2 w.heap.size ⟨#[]⟩ 0 ⟨0, 0, 0, 0, 0, none, 0, 0, false, false⟩) := by
  have hq : QB (put10 w2 w.heap.size ⟨#[]⟩ 0 ⟨0, 0, 0, 0, 0, none, 0, 0, false, false⟩) b s i2 o2 := (heap_put10 (by omega)).trans hQ
  have hO' : Only b w (put10 w2 w.heap.size ⟨#[]⟩ 0 ⟨0, 0, 0, 0, 0, none, 0, 0, false, false⟩) := hO.put10 (Nat.le_refl _)
  generalize put10 w2 w.heap.size ⟨#[]⟩ 0 ⟨0, 0, 0, 0, 0, none, 0, 0, false, false⟩ = X at *
  subst hR
  exact ⟨⟨#[]⟩, 0, ⟨0, 0, 0, 0, 0, none, 0, 0, false, false⟩, i2, o2, false, rfl, hq, (by intro e; cases e), hO', hi2, rfl, rfl⟩

end Go.Proofs.YtjhmlcilabnlbaaDoor
/- The program: rule. -/
namespace Go.Proofs.YtjhmlcilabnlbaaDoor
open Go.RowKit

/-- A rule, handed back. -/
theorem OutR.made {s : ByteArray} {b i j n i2 o2 : Nat} {w w2 : World} {A : P.PR P.T} {R : P.PR P.Rl} {d : Nd} {k : Bool} (hlt : b < w.heap.size) (hO : Only b w w2) (hn : w.heap.size < n) (hQ : QB w2 b s i2 o2) (ho : k = true → o2 = 0) (hi2 : i2 ≤ s.size) (hF : NodeF A w2 n d i2 k) (hR : R = A.bind fun t q => .ok ⟨s.extract i j, i, t⟩ q) (X : Obj) :
    OutR s b R w (.returned (.tuple #[.agg #[.string (s.extract i j), .int .i64 (i : Int), .int .i64 d.k, .int .u64 d.x0, .int .u64 d.x1, .int .u64 d.x2, .int .u64 d.x3, .slice d.pa d.pn d.pc, .bool d.no, .bool d.ag], .bool k])) (put10 (w2.alloc X) w.heap.size (s.extract i j) (i : Int) d) := by
  have hq : QB (put10 (w2.alloc X) w.heap.size (s.extract i j) (i : Int) d) b s i2 o2 := (heap_put10 (by omega)).trans (heap_alloc_old hQ hQ.lt)
  have hO' : Only b w (put10 (w2.alloc X) w.heap.size (s.extract i j) (i : Int) d) := (hO.alloc X).put10 (Nat.le_refl _)
  have h2 : OnlyS (· < n) w2 (put10 (w2.alloc X) w.heap.size (s.extract i j) (i : Int) d) := OnlyS.put10 (S := (· < n)) (fun k hk _ => Below.heap_alloc _ _ _ hk) hn
  generalize put10 (w2.alloc X) w.heap.size (s.extract i j) (i : Int) d = Y at *
  subst hR
  refine ⟨s.extract i j, (i : Int), d, i2, o2, k, rfl, hq, ho, hO', hi2, ?_⟩
  cases A with
  | out => exact hF.elim
  | bad p => exact hF
  | ok t q =>
    obtain ⟨h1, h3, hN⟩ := hF
    exact ⟨h1, h3, rfl, rfl, (hN.only h2).bars (S' := (· < w.heap.size)) (fun j _ hj => by show j < n; have : j < w.heap.size := hj; omega)⟩

set_option maxHeartbeats 1000000 in
theorem prule_any (s : ByteArray) (F b i : Nat) (w : World) (hs : s.size ≤ 400) (hR : QB w b s i 0) (hi : i ≤ s.size) (hP : ∀ j, P.alt s F 0 j ≠ .out) :
    Calls Tryd.prog 30 #[.pointer (some ⟨b, 0, none⟩)] w fun e w' => OutR s b (P.rule s F i) w e w' := by
  have hlt := hR.lt
  obtain ⟨R, hRd⟩ : ∃ R, R = P.rule s F i := ⟨_, rfl⟩
  rw [← hRd]
  unfold P.rule at hRd
  have hj1 := pnameTo_ge s 8 i
  have hj2 := pnameTo_le s 8 i hi
  obtain ⟨j, hj⟩ : ∃ j, P.nameTo s 8 i = j := ⟨_, rfl⟩
  rw [hj] at hRd hj1 hj2
  have HRd := hid hRd
  have HP := hid hP
  have HJ := hid hj
  clear hRd hP hj
  have hqX : QB (w.alloc (.cells #[.string ⟨#[]⟩, .int .i64 0, .int .i64 0, .int .u64 0, .int .u64 0, .int .u64 0, .int .u64 0, .slice none 0 0, .bool false, .bool false] 51)) b s i 0 := heap_alloc_old hR hlt
  have c1 := hqX.c1
  go_enter Tryd.func30, Tryd.ntmps30
  go_wp2_with fail
  refine (name_any b s i 0 _ hs hqX hi).mono ?_
  rintro e w1 ⟨rfl, hR1, hO1⟩
  rw [HJ.out] at hR1 ⊢
  have hw1 := hO1.size
  rw [show (w.alloc (.cells #[.string ⟨#[]⟩, .int .i64 0, .int .i64 0, .int .u64 0, .int .u64 0, .int .u64 0, .int .u64 0, .slice none 0 0, .bool false, .bool false] 51)).heap.size = w.heap.size + 1 from by simp] at hw1
  have hK1 : KB w1 w.heap.size ⟨#[]⟩ 0 ⟨0, 0, 0, 0, 0, none, 0, 0, false, false⟩ := (hO1.block _ (by simp) (by omega)).trans (heap_alloc_at _ _)
  have hO2 : Only b w w1 := ((Only.refl _ _).alloc _).trans hO1
  clear c1 hqX hO1
  by_cases hij : i < j
  · have hij' : decide (i < j) = true := by simp [hij]
    have HR2 : Hid (R = if P.bt s j = 61 then (P.alt s F 0 (j + 1)).bind fun t k => .ok ⟨s.extract i j, i, t⟩ k else .bad j) := by
      unfold Hid; rw [HRd.out, if_neg (by omega)]
    rw [hij']
    go_wp2_with fail
    refine (take_any 61 b s j 0 _ hs hR1 (by omega)).mono ?_
    rintro e w2 ⟨rfl, hQ2, hO3⟩
    have hw2 := hO3.size
    have hK2 : KB w2 w.heap.size ⟨#[]⟩ 0 ⟨0, 0, 0, 0, 0, none, 0, 0, false, false⟩ := (hO3.block _ (by omega) (by omega)).trans hK1
    have hO4 : Only b w w2 := hO2.trans hO3
    cases hah : ahd s j 61 with
    | false =>
      rw [hah, stp_false] at hQ2
      have HRe : Hid (R = .bad j) := by unfold Hid; rw [HR2.out, if_neg (ahd_false hah)]
      have c0 := hK2.c0
      have c1 := hK2.c1
      have c2 := hK2.c2
      have c3 := hK2.c3
      have c4 := hK2.c4
      have c5 := hK2.c5
      have c6 := hK2.c6
      have c7 := hK2.c7
      have c8 := hK2.c8
      have c9 := hK2.c9
      have cf := hK2.fz
      have hC1 := hK2.put10 (nm := ⟨#[]⟩) (p := 0) (d := ⟨0, 0, 0, 0, 0, none, 0, 0, false, false⟩)
      have r0 := hC1.c0
      have r1 := hC1.c1
      have r2 := hC1.c2
      have r3 := hC1.c3
      have r4 := hC1.c4
      have r5 := hC1.c5
      have r6 := hC1.c6
      have r7 := hC1.c7
      have r8 := hC1.c8
      have r9 := hC1.c9
      go_wp2_with fail
      refine bodyPost_ret (v := .tuple #[.agg #[.string ⟨#[]⟩, .int .i64 0, .int .i64 0, .int .u64 0, .int .u64 0, .int .u64 0, .int .u64 0, .slice none 0 0, .bool false, .bool false], .bool false]) (by simp [results, Tryd.results30, go_sem, r0, r1, r2, r3, r4, r5, r6, r7, r8, r9]) rfl ?_
      exact OutR.zero hlt hO4 hQ2 hj2 HRe.out
    | true =>
      rw [hah, stp_true] at hQ2
      have hbt := ahd_true hah
      have hl := lt_of_bt (s := s) (i := j) (by omega)
      have HRe : Hid (R = (P.alt s F 0 (j + 1)).bind fun t k => .ok ⟨s.extract i j, i, t⟩ k) := by unfold Hid; rw [HR2.out, if_pos hbt]
      clear hbt
      go_wp2_with fail
      refine (peither_any s hs F b 0 (j + 1) _ hQ2 (by omega) (by omega) (HP.out _)).mono ?_
      rintro e w3 ⟨d, i3, o3, k3, rfl, hR3, ho3, hO5, hi3, hf3⟩
      have hw3 := hO5.size
      have hK3 : KB w3 w.heap.size ⟨#[]⟩ 0 ⟨0, 0, 0, 0, 0, none, 0, 0, false, false⟩ := (hO5.block _ (by omega) (by omega)).trans hK2
      have hO6 : Only b w w3 := hO4.trans hO5
      have hK4 : KB (w3.alloc (.cells #[.int .i64 d.k, .int .u64 d.x0, .int .u64 d.x1, .int .u64 d.x2, .int .u64 d.x3, .slice d.pa d.pn d.pc, .bool d.no, .bool d.ag] 49)) w.heap.size ⟨#[]⟩ 0 ⟨0, 0, 0, 0, 0, none, 0, 0, false, false⟩ := heap_alloc_old hK3 (by omega)
      have HF := hid hf3
      clear hf3
      unfold Nd.val
      have c0 := hK4.c0
      have c1 := hK4.c1
      have c2 := hK4.c2
      have c3 := hK4.c3
      have c4 := hK4.c4
      have c5 := hK4.c5
      have c6 := hK4.c6
      have c7 := hK4.c7
      have c8 := hK4.c8
      have c9 := hK4.c9
      have cf := hK4.fz
      have hC1 := hK4.put10 (nm := s.extract i j) (p := (i : Int)) (d := d)
      have r0 := hC1.c0
      have r1 := hC1.c1
      have r2 := hC1.c2
      have r3 := hC1.c3
      have r4 := hC1.c4
      have r5 := hC1.c5
      have r6 := hC1.c6
      have r7 := hC1.c7
      have r8 := hC1.c8
      have r9 := hC1.c9
      go_wp2_with fail
      refine bodyPost_ret (v := .tuple #[.agg #[.string (s.extract i j), .int .i64 (i : Int), .int .i64 d.k, .int .u64 d.x0, .int .u64 d.x1, .int .u64 d.x2, .int .u64 d.x3, .slice d.pa d.pn d.pc, .bool d.no, .bool d.ag], .bool k3]) (by simp [results, Tryd.results30, go_sem, r0, r1, r2, r3, r4, r5, r6, r7, r8, r9]) rfl ?_
      exact OutR.made hlt hO6 (by omega) hR3 ho3 hi3 HF.out HRe.out _
  · have hij' : decide (i < j) = false := by simp [hij]
    have HRe : Hid (R = .bad j) := by unfold Hid; rw [HRd.out, if_pos (by omega), show j = i from by omega]
    rw [hij']
    have c0 := hK1.c0
    have c1 := hK1.c1
    have c2 := hK1.c2
    have c3 := hK1.c3
    have c4 := hK1.c4
    have c5 := hK1.c5
    have c6 := hK1.c6
    have c7 := hK1.c7
    have c8 := hK1.c8
    have c9 := hK1.c9
    have cf := hK1.fz
    have hC1 := hK1.put10 (nm := ⟨#[]⟩) (p := 0) (d := ⟨0, 0, 0, 0, 0, none, 0, 0, false, false⟩)
    have r0 := hC1.c0
    have r1 := hC1.c1
    have r2 := hC1.c2
    have r3 := hC1.c3
    have r4 := hC1.c4
    have r5 := hC1.c5
    have r6 := hC1.c6
    have r7 := hC1.c7
    have r8 := hC1.c8
    have r9 := hC1.c9
    go_wp2_with fail
    refine bodyPost_ret (v := .tuple #[.agg #[.string ⟨#[]⟩, .int .i64 0, .int .i64 0, .int .u64 0, .int .u64 0, .int .u64 0, .int .u64 0, .slice none 0 0, .bool false, .bool false], .bool false]) (by simp [results, Tryd.results30, go_sem, r0, r1, r2, r3, r4, r5, r6, r7, r8, r9]) rfl ?_
    exact OutR.zero hlt hO2 hR1 hj2 HRe.out
end Go.Proofs.YtjhmlcilabnlbaaDoor
/- The program: text. -/
namespace Go.Proofs.YtjhmlcilabnlbaaDoor
open Go.RowKit

theorem Tryd.info40 : (Tryd.prog.info? 51).map (fun i => (i.zero, i.size, i.bytes)) = some (some (.agg #[.string ⟨#[]⟩, .int .i64 0, .int .i64 0, .int .u64 0, .int .u64 0, .int .u64 0, .int .u64 0, .slice none 0 0, .bool false, .bool false]), 10, 96) := by kernel_rfl

/-- The cells of rules that lie one behind the other. -/
def rlCells (l : List (P.Rl × Nd)) : List Value := l.flatMap fun x => ruleCells x.1.name (x.1.pos : Int) x.2
theorem rlCells_snoc (xs : List (P.Rl × Nd)) (x : P.Rl) (d : Nd) : rlCells (xs ++ [(x, d)]) = rlCells xs ++ ruleCells x.name (x.pos : Int) d := by simp [rlCells]

/-- What is barred: all that was there, and the list's own block. -/
def barsW (n : Nat) (v : Value) : Nat → Prop := fun k => k < n ∨ v.ownBlock = some k

/-- The list of rules so far. -/
def Tm (s : ByteArray) (b : Nat) (w wr : World) (ir : Nat) (v : Value) (xs : List (P.Rl × Nd)) : Prop :=
  QB wr b s ir 0 ∧ wr.ownsRow w.heap.size 51 10 v xs.length (rlCells xs) ∧ (∀ x, x ∈ xs → PN wr (barsW w.heap.size v) x.2 x.1.t ∧ x.1.t.sz ≤ 400) ∧ Only b w wr ∧ ir ≤ s.size ∧ xs.length ≤ ir

theorem Tm.start {s : ByteArray} {b i : Nat} {w : World} (hQ : QB w b s i 0) (hi : i ≤ s.size) : Tm s b w w i (.slice none 0 0) [] :=
  ⟨hQ, World.ownsRow_nil _ _ _ _, (by simp), Only.refl _ _, hi, by simp⟩
theorem Tm.moves {s : ByteArray} {b ir j : Nat} {w wr w7 : World} {v : Value} {xs : List (P.Rl × Nd)} (hlt : b < w.heap.size) (h : Tm s b w wr ir v xs) (hX : Only b wr w7) (hQ : QB w7 b s j 0) (hj : j ≤ s.size) (hij : ir ≤ j) : Tm s b w w7 j v xs := by
  obtain ⟨h1, h3, h4, h5, h6, h7⟩ := h
  exact ⟨hQ, powns_only h3 hX hlt, fun x hx => ⟨(h4 x hx).1.only (hX.toS.wide (fun k hk => Or.inl (by omega))), (h4 x hx).2⟩, h5.trans hX, hj, by omega⟩

theorem Tm.append {s : ByteArray} {b ir i4 : Nat} {w wr w4 w6 : World} {v v' : Value} {xs : List (P.Rl × Nd)} {x : P.Rl} {d : Nd} {X : Obj} (hb : b < w.heap.size) (h : Tm s b w wr ir v xs) (hX : Only b wr w4) (hQ : QB w4 b s i4 0) (hN : PN w4 (· < wr.heap.size) d x.t) (hz : x.t.sz ≤ 400) (hi : i4 ≤ s.size) (hl : ir < i4)
    (hown : w6.ownsRow w.heap.size 51 10 v' (xs.length + 1) (rlCells xs ++ ruleCells x.name (x.pos : Int) d)) (hg : (w4.alloc X).grownBy w6 v.ownBlock) (hat : v'.ownBlock = v.ownBlock ∨ v'.ownBlock = some (w4.heap.size + 1)) : Tm s b w w6 i4 v' (xs ++ [(x, d)]) := by
  obtain ⟨h1, h3, h4, h5, h6, h7⟩ := h
  have hsz := h5.size
  have hsz4 := hX.size
  have hal : (w4.alloc X).heap.size = w4.heap.size + 1 := by simp
  have hvb : ∀ k, v.ownBlock = some k → w.heap.size ≤ k ∧ k < wr.heap.size := h3.lt
  have keep : ∀ k, k < w4.heap.size → v.ownBlock ≠ some k → w6.heap[k]? = w4.heap[k]? := fun k hk hv => (hg.block k (by omega) (fun e => hv e.symm)).trans (Below.heap_alloc _ _ _ (by omega))
  have hS : OnlyS (fun k => barsW w.heap.size v k ∨ barsW w.heap.size v' k) w4 w6 := fun k hk hs => keep k hk (fun e => hs (Or.inl (Or.inr e)))
  have turn : ∀ (d : Nd) (t : P.T), PN w4 (barsW w.heap.size v) d t → PN w6 (barsW w.heap.size v') d t := by
    intro d t hx
    refine ((hx.bars (S' := fun k => barsW w.heap.size v k ∨ barsW w.heap.size v' k) ?_).only hS).bars (fun j _ hj => Or.inr hj)
    intro j hj hh
    rcases hh with hh | hh | hh
    · exact hh
    · exact Or.inl hh
    · rcases hat with e | e
      · exact Or.inr (e ▸ hh)
      · rw [e] at hh; have := Option.some.inj hh; omega
  refine ⟨?_, ?_, ?_, ?_, hi, ?_⟩
  · exact (keep b hQ.lt (fun e => by have := hvb _ e; omega)).trans hQ
  · rw [rlCells_snoc, List.length_append]; exact hown
  · intro y hy
    rw [List.mem_append, List.mem_singleton] at hy
    rcases hy with hy | hy
    · exact ⟨turn _ _ ((h4 y hy).1.only (hX.toS.wide (fun k hk => Or.inl (by omega)))), (h4 y hy).2⟩
    · subst hy
      refine ⟨turn _ _ (hN.bars ?_), hz⟩
      intro j hj hh
      show j < wr.heap.size
      rcases hh with hh | hh
      · omega
      · exact (hvb _ hh).2
  · have hO4 : Only b w w4 := h5.trans hX
    exact ⟨hg.os.trans hO4.os, hg.tape.trans hO4.tape, hg.output.trans hO4.output, Nat.le_trans hO4.size (Nat.le_trans (by omega) hg.size), fun k hk hkb => (keep k (by omega) (fun e => by have := hvb _ e; omega)).trans (hO4.block k hk hkb)⟩
  · simp; omega

theorem rl_cells {w : World} {nm : ByteArray} {p : Int} {d : Nd} (j : Nat) (u : Value) (h : (ruleCells nm p d)[j]? = some u) : (w.alloc (ruleObj nm p d)).cell? ((⟨w.heap.size, 0, none⟩ : Addr).add j) = some u := by
  have e : (⟨w.heap.size, 0, none⟩ : Addr).add j = ⟨w.heap.size, j, none⟩ := by
    unfold Addr.add
    by_cases hj : j = 0
    · simp [hj]
    · simp [hj]
  rw [e]
  unfold World.cell?
  rw [heap_alloc_at]
  simpa [ruleCells] using h
theorem rl_one {nm : ByteArray} {p : Int} {d : Nd} (u : Value) (h : u ∈ ruleCells nm p d) : u.oneCell' = true := by
  simp only [ruleCells, List.mem_cons, List.not_mem_nil, or_false] at h
  rcases h with rfl | rfl | rfl | rfl | rfl | rfl | rfl | rfl | rfl | rfl <;> rfl

/-- What text comes to. -/
def TextF (R : P.PR (List P.Rl)) (w' : World) (n : Nat) (v : Value) (i : Nat) (k : Bool) : Prop :=
  match R with
  | .ok l _ => k = true ∧ ∃ xs : List (P.Rl × Nd), xs.map (·.1) = l ∧ xs.length ≤ 400 ∧ w'.ownsRow n 51 10 v xs.length (rlCells xs) ∧ ∀ x, x ∈ xs → PN w' (· < n) x.2 x.1.t ∧ x.1.t.sz ≤ 400
  | .bad p => k = false ∧ i = p ∧ v = .slice none 0 0
  | .out => False
def OutT (s : ByteArray) (b : Nat) (R : P.PR (List P.Rl)) (w : World) (e : Ending) (w' : World) : Prop :=
  ∃ (v : Value) (i' o' : Nat) (k : Bool), e = .returned (.tuple #[v, .bool k]) ∧ QB w' b s i' o' ∧ Only b w w' ∧ TextF R w' w.heap.size v i' k

theorem Tm.out {s : ByteArray} {b ir j : Nat} {w wr : World} {v : Value} {xs : List (P.Rl × Nd)} {R : P.PR (List P.Rl)} (h : Tm s b w wr ir v xs) (hs : s.size ≤ 400) (hR : R = .ok (xs.map (·.1)) j) : OutT s b R w (.returned (.tuple #[v, .bool true])) wr := by
  obtain ⟨h1, h3, h4, h5, h6, h7⟩ := h
  subst hR
  exact ⟨v, ir, 0, true, rfl, h1, h5, rfl, xs, rfl, by omega, h3, fun x hx => ⟨(h4 x hx).1.bars (fun j _ hj => Or.inl hj), (h4 x hx).2⟩⟩
theorem OutT.no {s : ByteArray} {b i o : Nat} {w w' : World} {R : P.PR (List P.Rl)} (hQ : QB w' b s i o) (hO : Only b w w') (hR : R = .bad i) : OutT s b R w (.returned (.tuple #[.slice none 0 0, .bool false])) w' := by
  subst hR
  exact ⟨_, i, o, false, rfl, hQ, hO, rfl, rfl, rfl⟩

theorem ptext_succ (s : ByteArray) (F g i : Nat) (acc : List P.Rl) : P.text s F (g + 1) i acc = (P.rule s F i).bind fun r k => if s.size ≤ k then .ok (acc ++ [r]) k else if P.bt s k = 10 then (if s.size ≤ k + 1 then .ok (acc ++ [r]) (k + 1) else P.text s F g (k + 1) (acc ++ [r])) else .bad k := rfl
theorem rule_sized {s : ByteArray} {F i : Nat} {y : P.Rl} {j : Nat} (h : P.rule s F i = .ok y j) : i < j ∧ y.t.sz ≤ j := by
  unfold P.rule at h
  have := pnameTo_ge s 8 i
  split at h
  · cases h
  · split at h
    · obtain ⟨t, q, h1, h2⟩ := P.bind_ok h
      have h3 := (P.all_sized s F).2.2.2.2.2 _ _ _ _ h1
      cases h2
      exact ⟨by omega, by show t.sz ≤ j; omega⟩
    · cases h
theorem RuleF.yes {r : P.PR P.Rl} {w' : World} {n i : Nat} {nm : ByteArray} {p : Int} {d : Nd} (h : RuleF r w' n nm p d i true) : ∃ y, r = .ok y i ∧ nm = y.name ∧ p = (y.pos : Int) ∧ PN w' (· < n) d y.t := by
  cases r with
  | out => exact h.elim
  | bad p => exact absurd h.1 (by simp)
  | ok y j => obtain ⟨-, rfl, h1, h2, h3⟩ := h; exact ⟨y, rfl, h1, h2, h3⟩

set_option maxHeartbeats 1000000 in
theorem ptext_any (s : ByteArray) (F G b : Nat) (w : World) (hs : s.size ≤ 400) (hR : QB w b s 0 0) (hP : ∀ j, P.alt s F 0 j ≠ .out) (hT : P.text s F G 0 [] ≠ .out) :
    Calls Tryd.prog 19 #[.pointer (some ⟨b, 0, none⟩)] w fun e w' => OutT s b (P.text s F G 0 []) w e w' := by
  have hlt := hR.lt
  obtain ⟨R, hRd⟩ : ∃ R, R = P.text s F G 0 [] := ⟨_, rfl⟩
  have HRn : Hid (R ≠ .out) := by unfold Hid; rw [hRd]; exact hT
  rw [← hRd]
  have HRd := hid hRd
  have HP := hid hP
  clear hP hRd hT
  go_enter Tryd.func19, Tryd.ntmps19
  go_wp2_with fail
  go_loopg [4] G (fun g v wr => ∃ (ir : Nat) (xs : List (P.Rl × Nd)), Tm s b w wr ir v xs ∧ Hid (R = P.text s F g ir (xs.map (·.1))))
  case atStart => exact ⟨0, [], Tm.start hR (by omega), HRd⟩
  case round =>
    obtain ⟨ir, xs, hL, hJ⟩ := hrel
    obtain ⟨ad, cap, e5⟩ := powns_shape hL.2.1
    subst e5
    cases gk with
    | zero => exact absurd hJ.out HRn.out
    | succ g =>
      have HS := hid (hJ.out.trans (ptext_succ s F g ir _))
      have hir := hL.2.2.2.2.1
      go_wp2_with fail
      refine (prule_any s F b ir _ hs hL.1 hir HP.out).mono ?_
      rintro e w2 ⟨nm, p, d, i2, o2, k2, rfl, hR2, ho2, hO2, hi2, hf2⟩
      have hw2 := hO2.size
      have HF := hid hf2
      clear hf2
      unfold ruleVal
      cases k2 with
      | false =>
        have HRe : Hid (R = .bad i2) := by
          have h := HS.out
          have hF := HF.out
          unfold Hid
          cases hx : P.rule s F ir with
          | out => rw [hx] at hF; exact hF.elim
          | bad q => rw [hx] at h hF; rw [h, hF.2]; rfl
          | ok y j => rw [hx] at hF; exact absurd hF.1 (by simp)
        go_wp2_with fail
        go_ret2
        exact OutT.no (heap_alloc_old hR2 hR2.lt) ((hL.2.2.2.1.trans hO2).alloc _) HRe.out
      | true =>
        obtain ⟨y, hy, rfl, rfl, hNd⟩ := HF.out.yes
        have he2 := ho2 rfl
        subst he2
        have hyz := rule_sized hy
        have HR3 : Hid (R = if s.size ≤ i2 then .ok (xs.map (·.1) ++ [y]) i2 else if P.bt s i2 = 10 then (if s.size ≤ i2 + 1 then .ok (xs.map (·.1) ++ [y]) (i2 + 1) else P.text s F g (i2 + 1) (xs.map (·.1) ++ [y])) else .bad i2) := by
          have h := HS.out
          rw [hy] at h
          exact h
        have HNd := hid (hNd.only (w' := w2.alloc (ruleObj y.name (y.pos : Int) d)) (fun k hk _ => Below.heap_alloc _ _ _ hk))
        clear hy hNd HF HS
        have hX : Only b wr (w2.alloc (.cells #[.string y.name, .int .i64 (y.pos : Int), .int .i64 d.k, .int .u64 d.x0, .int .u64 d.x1, .int .u64 d.x2, .int .u64 d.x3, .slice d.pa d.pn d.pc, .bool d.no, .bool d.ag] 51)) := hO2.alloc _
        have hR3 : QB (w2.alloc (.cells #[.string y.name, .int .i64 (y.pos : Int), .int .i64 d.k, .int .u64 d.x0, .int .u64 d.x1, .int .u64 d.x2, .int .u64 d.x3, .slice d.pa d.pn d.pc, .bool d.no, .bool d.ag] 51)) b s i2 0 := heap_alloc_old hR2 hR2.lt
        have hown4 := powns_only hL.2.1 hX hlt
        have hlen : xs.length ≤ 400 := by have := hL.2.2.2.2.2; omega
        obtain ⟨i0, hi0, hz0, hz1, hz2⟩ := info_parts Tryd.info40
        have hwr := hL.2.2.2.1.size
        go_wp2_with (first
          | (at_builtin; refine wpList_append_own_at _ rfl (.tmp 14) (.tmp 16) 40 rfl w.heap.size 51 i0 _ 10 96 Tryd.underlying40 hi0 hz0 hz1 hz2 rfl (by decide) _ _ _ rfl (hown4.alloc _) ⟨w2.heap.size + 1, 0, none⟩ 1 1 (ruleCells y.name (y.pos : Int) d) rfl rfl ?c1 ?c2 ?c3 ?c4 ?c5 ?_))
        case c1 =>
          have h := fun j u h => rl_cells (w := w2.alloc (.cells #[.string y.name, .int .i64 (y.pos : Int), .int .i64 d.k, .int .u64 d.x0, .int .u64 d.x1, .int .u64 d.x2, .int .u64 d.x3, .slice d.pa d.pn d.pc, .bool d.no, .bool d.ag] 51)) (nm := y.name) (p := (y.pos : Int)) (d := d) j u h
          rw [show (w2.alloc (.cells #[.string y.name, .int .i64 (y.pos : Int), .int .i64 d.k, .int .u64 d.x0, .int .u64 d.x1, .int .u64 d.x2, .int .u64 d.x3, .slice d.pa d.pn d.pc, .bool d.no, .bool d.ag] 51)).heap.size = w2.heap.size + 1 from by simp] at h
          exact h
        case c2 => exact rl_one
        case c3 => unfold maxLen; omega
        case c4 => omega
        case c5 => simp; omega
        · intro v' w6 hown6 hgrow6 hnil hat6
          have hL6 := Tm.append hlt hL hX hR3 HNd.out (by omega) hi2 (by omega) hown6 hgrow6 (by simpa using hat6)
          have hQ6 := hL6.1
          have hmap : (xs ++ [(y, d)]).map (·.1) = xs.map (·.1) ++ [y] := by simp
          obtain ⟨ad6, cap6, e6⟩ := powns_shape hL6.2.1
          rw [show (xs ++ [(y, d)]).length = xs.length + 1 from by simp] at e6
          subst e6
          clear hown6 hgrow6 hnil hat6 hown4 hX hR3 HNd
          go_wp2_with fail
          refine (ended_any b s i2 0 _ hQ6).mono ?_
          rintro e w7 ⟨rfl, n7, rfl⟩
          have hL7 := hL6.moves hlt ((Only.refl b w6).drewN n7) hL6.1 hi2 (Nat.le_refl _)
          by_cases hend : i2 = s.size
          · have hend' : (i2 == s.size) = true := by simp [hend]
            have HRe : Hid (R = .ok ((xs ++ [(y, d)]).map (·.1)) i2) := by unfold Hid; rw [HR3.out, if_pos (by omega), hmap]
            rw [hend']
            clear hmap
            go_wp2_with fail
            go_ret2
            exact hL7.out hs HRe.out
          · have hend' : (i2 == s.size) = false := beq_false_of_ne hend
            rw [hend']
            go_wp2_with fail
            refine (take_any 10 b s i2 0 _ hs hL7.1 (by omega)).mono ?_
            rintro e w8 ⟨rfl, hQ8, hO8⟩
            cases hah : ahd s i2 10 with
            | false =>
              rw [hah, stp_false] at hQ8
              have HRe : Hid (R = .bad i2) := by unfold Hid; rw [HR3.out, if_neg (by omega), if_neg (ahd_false hah)]
              clear hmap
              go_wp2_with fail
              go_ret2
              exact OutT.no hQ8 (hL7.2.2.2.1.trans hO8) HRe.out
            | true =>
              rw [hah, stp_true] at hQ8
              have hbt := ahd_true hah
              have HR4 : Hid (R = if s.size ≤ i2 + 1 then .ok (xs.map (·.1) ++ [y]) (i2 + 1) else P.text s F g (i2 + 1) (xs.map (·.1) ++ [y])) := by unfold Hid; rw [HR3.out, if_neg (by omega), if_pos hbt]
              clear hbt
              have hL8 := hL7.moves hlt hO8 hQ8 (by omega) (by omega)
              go_wp2_with fail
              refine (ended_any b s (i2 + 1) 0 _ hL8.1).mono ?_
              rintro e w9 ⟨rfl, n9, rfl⟩
              have hL9 := hL8.moves hlt ((Only.refl b w8).drewN n9) hL8.1 (by omega) (Nat.le_refl _)
              by_cases hend2 : i2 + 1 = s.size
              · have hend2' : (i2 + 1 == s.size) = true := by simp [hend2]
                have HRe : Hid (R = .ok ((xs ++ [(y, d)]).map (·.1)) (i2 + 1)) := by unfold Hid; rw [HR4.out, if_pos (by omega), hmap]
                rw [hend2']
                clear hmap
                go_wp2_with fail
                go_ret2
                exact hL9.out hs HRe.out
              · have hend2' : (i2 + 1 == s.size) = false := beq_false_of_ne hend2
                have HRe : Hid (R = P.text s F g (i2 + 1) ((xs ++ [(y, d)]).map (·.1))) := by unfold Hid; rw [HR4.out, if_neg (by omega), hmap]
                rw [hend2']
                clear hmap
                go_wp2_with fail
                go_roundg g
                case measure => omega
                case rel => exact ⟨i2 + 1, _, hL9, HRe⟩
end Go.Proofs.YtjhmlcilabnlbaaDoor
/- The whole of P3: what Check answers. -/
namespace Go.Proofs.YtjhmlcilabnlbaaDoor.P

/-- The rules in their order, behind those that were judged: the first fault and its place. -/
def judge : List Rl → Nat → List Rl → Option (Int × Nat)
  | _, _, [] => none
  | done, size, r :: rest =>
    if 7 < done.length ∨ 60 < size + r.t.sz then some (2, r.pos)
    else if done.any (fun d => d.name.toList == r.name.toList) then some (3, r.pos)
    else if r.t.em then some (4, r.pos)
    else judge (done ++ [r]) (size + r.t.sz) rest

/-- Behind the reading: how many rules, or the error, and the place. -/
def verdict (l : List Rl) : Nat × Int × Nat :=
  match judge [] 0 l with
  | none => (l.length, 0, 0)
  | some x => (0, x.1, x.2)

def outcome (r : PR (List Rl)) : Nat × Int × Nat :=
  match r with
  | .ok l _ => verdict l
  | .bad p => (0, 1, p)
  | .out => (0, 0, 0)

def check (s : ByteArray) : Nat × Int × Nat := if 400 < s.size then (0, 1, 0) else outcome (text s 3210 401 0 [])

end Go.Proofs.YtjhmlcilabnlbaaDoor.P
/- The program: Read. -/
namespace Go.Proofs.YtjhmlcilabnlbaaDoor
open Go.RowKit

/-- What the reading of a whole text comes to. -/
def readP (s : ByteArray) : P.PR (List P.Rl) := if 400 < s.size then .bad 0 else P.text s 3210 401 0 []
theorem check_read (s : ByteArray) : P.check s = P.outcome (readP s) := by unfold P.check readP; split <;> rfl

/-- What Read hands back. -/
def ReadF (R : P.PR (List P.Rl)) (n : Nat) (e : Ending) (w' : World) : Prop :=
  match R with
  | .ok l _ => ∃ (v : Value) (xs : List (P.Rl × Nd)), e = .returned (.tuple #[v, .int .i64 0, .bool true]) ∧ xs.map (·.1) = l ∧ xs.length ≤ 400 ∧ w'.ownsRow (n + 1) 51 10 v xs.length (rlCells xs) ∧ ∀ x, x ∈ xs → PN w' (· = n) x.2 x.1.t ∧ x.1.t.sz ≤ 400
  | .bad p => e = .returned (.tuple #[.slice none 0 0, .int .i64 (p : Int), .bool false])
  | .out => False

theorem below_of_only {w x y : World} {X : Obj} (hx : x = w.alloc X) (k : Only w.heap.size x y) : Below w.heap.size w y := by
  subst hx
  exact ⟨k.os, k.tape, k.output, Nat.le_trans (by simp) k.size, fun j hj => (k.block j (by simp; omega) (by omega)).trans (Below.heap_alloc _ _ _ hj)⟩

set_option maxHeartbeats 1000000 in
theorem pread_any (s : ByteArray) (w : World) :
    Calls Tryd.prog 11 #[.string s] w fun e w' => Below w.heap.size w w' ∧ ReadF (readP s) w.heap.size e w' := by
  by_cases hs : s.size ≤ 400
  · have HR : Hid (readP s = P.text s 3210 401 0 []) := by unfold Hid readP; rw [if_neg (by omega)]
    have HT := hid (P.text_enough s hs 401 0 [] (by omega))
    have HP := hid (P.alt_enough s hs 0)
    have hs' : decide ((400 : Int) < (s.size : Int)) = false := by simp; omega
    have hqX : QB (w.alloc (.cells #[.string s, .int .i64 0, .int .i64 0] 69)) w.heap.size s 0 0 := heap_alloc_at _ _
    go_enter Tryd.func11, Tryd.ntmps11
    go_wp2_with fail
    refine (ptext_any s 3210 401 w.heap.size _ hs hqX HP.out HT.out).mono ?_
    rintro e w2 ⟨v, i2, o2, k2, rfl, hR2, hO2, hf2⟩
    rw [← HR.out] at hf2
    have hB := below_of_only rfl hO2
    have c1 := hR2.c1
    have HF := hid hf2
    clear hf2
    cases k2 with
    | false =>
      go_wp2_with fail
      go_quiet (fail)
      go_wp2_with fail
      go_ret3
      refine ⟨hB.trans ⟨rfl, rfl, rfl, Nat.le_refl _, fun _ _ => rfl⟩, ?_⟩
      have hF := HF.out
      cases hx : readP s with
      | out => rw [hx] at hF; exact hF.elim
      | bad p => rw [hx] at hF; obtain ⟨-, rfl, -⟩ := hF; exact rfl
      | ok l j => rw [hx] at hF; exact absurd hF.1 (by simp)
    | true =>
      go_wp2_with fail
      go_ret3
      refine ⟨hB, ?_⟩
      have hF := HF.out
      cases hx : readP s with
      | out => rw [hx] at hF; exact hF.elim
      | bad p => rw [hx] at hF; exact absurd hF.1 (by simp)
      | ok l j =>
        rw [hx] at hF
        obtain ⟨-, xs, h1, h2, h3, h4⟩ := hF
        rw [show (w.alloc (.cells #[.string s, .int .i64 0, .int .i64 0] 69)).heap.size = w.heap.size + 1 from by simp] at h3 h4
        exact ⟨v, xs, rfl, h1, h2, h3, fun x hx => ⟨(h4 x hx).1.bars (fun j _ hj => by show j < w.heap.size + 1; omega), (h4 x hx).2⟩⟩
  · have HR : Hid (readP s = .bad 0) := by unfold Hid readP; rw [if_pos (by omega)]
    have hs' : (400 : Int) < (s.size : Int) := by omega
    go_enter Tryd.func11, Tryd.ntmps11
    go_wp2_with fail
    go_ret3
    refine ⟨Below.refl _ _, ?_⟩
    rw [HR.out]
    exact rfl
end Go.Proofs.YtjhmlcilabnlbaaDoor
/- The program: judge. -/
namespace Go.Proofs.YtjhmlcilabnlbaaDoor
open Go.RowKit

set_option maxHeartbeats 1000000 in
theorem same_any (nm nm0 : ByteArray) (p : Int) (d : Nd) (bx : Nat) (w : World) (hb : w.cell? ⟨bx, 0, none⟩ = some (.string nm0)) (hbl : bx < w.heap.size) :
    Calls Tryd.prog 21 #[.agg #[.string nm, .int .i64 p, .int .i64 d.k, .int .u64 d.x0, .int .u64 d.x1, .int .u64 d.x2, .int .u64 d.x3, .slice d.pa d.pn d.pc, .bool d.no, .bool d.ag], .pointer (some ⟨bx, 0, none⟩)] w fun e w' => e = .returned (.bool (nm.toList == nm0.toList)) ∧ Below w.heap.size w w' := by
  go_enter Tryd.func21, Tryd.ntmps21
  go_wp2_with fail
  go_ret
  exact ⟨rfl, (Below.refl _ _).alloc (Nat.le_refl _) _⟩

/-- Rules that lie one behind the other. -/
def RlIn (w : World) (g : Nat) (xs : List (P.Rl × Nd)) : Prop := ∃ cur fz, w.heap[g]? = some (.cells cur 51 fz) ∧ cur.toList.take (xs.length * 10) = rlCells xs
theorem RlIn.lt {w : World} {g : Nat} {xs : List (P.Rl × Nd)} (h : RlIn w g xs) : g < w.heap.size := by
  obtain ⟨cur, fz, hc, -⟩ := h
  exact (Array.getElem?_eq_some_iff.1 hc).1
theorem RlIn.below {B : Nat} {w w' : World} {g : Nat} {xs : List (P.Rl × Nd)} (h : RlIn w g xs) (k : Below B w w') (hg : g < B) : RlIn w' g xs := by
  obtain ⟨cur, fz, hc, ht⟩ := h
  exact ⟨cur, fz, (k.block g hg).trans hc, ht⟩
theorem rlCells_get (l : List (P.Rl × Nd)) (i : Nat) (x : P.Rl × Nd) (h : l[i]? = some x) (j : Nat) (hj : j < 10) : (rlCells l)[i * 10 + j]? = (ruleCells x.1.name (x.1.pos : Int) x.2)[j]? := by
  induction l generalizing i with
  | nil => simp at h
  | cons y ys ih =>
    have e : rlCells (y :: ys) = ruleCells y.1.name (y.1.pos : Int) y.2 ++ rlCells ys := rfl
    rw [e]
    cases i with
    | zero =>
      simp at h; subst h
      rw [List.getElem?_append_left (by simp [ruleCells]; omega)]
      simp
    | succ i =>
      rw [List.getElem?_append_right (by simp [ruleCells]; omega)]
      rw [show (i + 1) * 10 + j - (ruleCells y.1.name (y.1.pos : Int) y.2).length = i * 10 + j from by simp [ruleCells]; omega]
      exact ih i (by simpa using h)
theorem RlIn.cell {w : World} {g : Nat} {l : List (P.Rl × Nd)} (h : RlIn w g l) {i : Nat} {x : P.Rl × Nd} (hx : l[i]? = some x) {j : Nat} (hj : j < 10) : w.cell? ⟨g, i * 10 + j, none⟩ = (ruleCells x.1.name (x.1.pos : Int) x.2)[j]? := by
  obtain ⟨cur, fz, hc, ht⟩ := h
  have hi : i < l.length := by
    by_cases hl : i < l.length
    · exact hl
    · rw [List.getElem?_eq_none (by omega)] at hx; cases hx
  rw [← rlCells_get l i x hx j hj, ← ht, List.getElem?_take, if_pos (by omega)]
  simp [World.cell?, hc]

/-- Has one of these rules the name? -/
def named (xs : List (P.Rl × Nd)) (nm : ByteArray) : Bool := xs.any fun x => x.1.name.toList == nm.toList
theorem named_succ {xs : List (P.Rl × Nd)} {m : Nat} {x : P.Rl × Nd} (nm : ByteArray) (h : xs[m]? = some x) : named (xs.take (m + 1)) nm = (named (xs.take m) nm || (x.1.name.toList == nm.toList)) := by
  unfold named
  rw [List.take_add_one, h]; simp

set_option maxHeartbeats 1000000 in
theorem indexf_any (xs : List (P.Rl × Nd)) (k g cap bx : Nat) (nm0 : ByteArray) (w : World) (hk : k ≤ xs.length) (hl : xs.length ≤ 400) (hcap : k ≤ cap) (hr : RlIn w g xs) (hb : w.cell? ⟨bx, 0, none⟩ = some (.string nm0)) (hbl : bx < w.heap.size) :
    Calls Tryd.prog 33 #[.slice (some ⟨g, 0, none⟩) k cap, .func (.func 21) #[] #[.pointer (some ⟨bx, 0, none⟩)]] w fun e w' => (∃ r : Int, e = .returned (.int .i64 r) ∧ decide (0 ≤ r) = named (xs.take k) nm0) ∧ Below w.heap.size w w' := by
  have hgl := hr.lt
  go_enter Tryd.func33, Tryd.ntmps33
  go_wp2_with fail
  go_loopg [8] k (fun gk ix wr => ∃ m : Nat, m + gk = k ∧ ix = .int .i64 (m : Int) ∧ Below w.heap.size w wr ∧ Hid (named (xs.take m) nm0 = false))
  case atStart => exact ⟨0, by omega, rfl, Below.refl _ _, rfl⟩
  case round =>
    obtain ⟨m, hm, rfl, hBr, hno⟩ := hrel
    by_cases hlt : m < k
    · obtain ⟨x, hx⟩ : ∃ x, xs[m]? = some x := ⟨xs[m], List.getElem?_eq_getElem (by omega)⟩
      have hlt' : (m : Int) < (k : Int) := by omega
      have hrr := hr.below hBr hgl
      have e0 : wr.cell? ⟨g, m * 10, none⟩ = some (.string x.1.name) := hrr.cell hx (j := 0) (by omega)
      have e1 : wr.cell? ⟨g, m * 10 + 1, none⟩ = some (.int .i64 (x.1.pos : Int)) := hrr.cell hx (j := 1) (by omega)
      have e2 : wr.cell? ⟨g, m * 10 + 2, none⟩ = some (.int .i64 x.2.k) := hrr.cell hx (j := 2) (by omega)
      have e3 : wr.cell? ⟨g, m * 10 + 3, none⟩ = some (.int .u64 x.2.x0) := hrr.cell hx (j := 3) (by omega)
      have e4 : wr.cell? ⟨g, m * 10 + 4, none⟩ = some (.int .u64 x.2.x1) := hrr.cell hx (j := 4) (by omega)
      have e5 : wr.cell? ⟨g, m * 10 + 5, none⟩ = some (.int .u64 x.2.x2) := hrr.cell hx (j := 5) (by omega)
      have e6 : wr.cell? ⟨g, m * 10 + 6, none⟩ = some (.int .u64 x.2.x3) := hrr.cell hx (j := 6) (by omega)
      have e7 : wr.cell? ⟨g, m * 10 + 7, none⟩ = some (.slice x.2.pa x.2.pn x.2.pc) := hrr.cell hx (j := 7) (by omega)
      have e8 : wr.cell? ⟨g, m * 10 + 8, none⟩ = some (.bool x.2.no) := hrr.cell hx (j := 8) (by omega)
      have e9 : wr.cell? ⟨g, m * 10 + 9, none⟩ = some (.bool x.2.ag) := hrr.cell hx (j := 9) (by omega)
      have HN := hid (named_succ nm0 hx)
      have HM : Hid (x ∈ xs.take k) := List.mem_of_getElem? (i := m) (by rw [List.getElem?_take, if_pos hlt]; exact hx)
      have hb2 : wr.cell? ⟨bx, 0, none⟩ = some (.string nm0) := (World.cell?_of_block (a := ⟨bx, 0, none⟩) (hBr.block bx hbl)).trans hb
      have hws := hBr.size
      clear hrr hx
      go_wp2_with fail
      refine (same_any x.1.name nm0 _ x.2 bx wr hb2 (by omega)).mono ?_
      rintro e w3 ⟨rfl, hB3⟩
      have hB4 : Below w.heap.size w w3 := hBr.trans (hB3.mono hws)
      clear e0 e1 e2 e3 e4 e5 e6 e7 e8 e9
      cases heq : (x.1.name.toList == nm0.toList) with
      | true =>
        have HY : Hid (named (xs.take k) nm0 = true) := List.any_eq_true.2 ⟨x, HM.out, heq⟩
        go_wp2_with fail
        go_ret
        exact ⟨⟨(m : Int), rfl, by rw [HY.out]; simp⟩, hB4⟩
      | false =>
        have HN2 : Hid (named (xs.take (m + 1)) nm0 = false) := by unfold Hid; rw [HN.out, hno.out, heq]; rfl
        go_wp2_with fail
        go_roundg (gk - 1)
        case measure => omega
        case rel => exact ⟨m + 1, by omega, by go_num, hB4, HN2⟩
    · have hme : m = k := by omega
      subst hme
      go_wp2_with fail
      go_ret
      exact ⟨⟨-1, rfl, by rw [hno.out]; rfl⟩, hBr⟩

set_option maxHeartbeats 1000000 in
theorem contains_any (xs : List (P.Rl × Nd)) (k g cap bx : Nat) (nm0 : ByteArray) (w : World) (hk : k ≤ xs.length) (hl : xs.length ≤ 400) (hcap : k ≤ cap) (hr : RlIn w g xs) (hb : w.cell? ⟨bx, 0, none⟩ = some (.string nm0)) (hbl : bx < w.heap.size) :
    Calls Tryd.prog 22 #[.slice (some ⟨g, 0, none⟩) k cap, .func (.func 21) #[] #[.pointer (some ⟨bx, 0, none⟩)]] w fun e w' => e = .returned (.bool (named (xs.take k) nm0)) ∧ Below w.heap.size w w' := by
  go_enter Tryd.func22, Tryd.ntmps22
  go_wp2_with fail
  refine (indexf_any xs k g cap bx nm0 w hk hl hcap hr hb hbl).mono ?_
  rintro e w3 ⟨⟨r, rfl, hr0⟩, hB3⟩
  have HR := hid hr0
  clear hr0
  go_wp2_with fail
  go_ret
  exact ⟨ret_bool HR.out, hB3⟩

/-- What judge says of a rule. -/
def verd (k nodes : Nat) (nmd em : Bool) : Int := if 8 ≤ k ∨ 60 < nodes then 2 else if nmd then 3 else if em then 4 else 0
end Go.Proofs.YtjhmlcilabnlbaaDoor
/- The program: judge. -/
namespace Go.Proofs.YtjhmlcilabnlbaaDoor
open Go.RowKit

set_option maxHeartbeats 1000000 in
theorem pjudge_any (xs : List (P.Rl × Nd)) (k g cap nodes b : Nat) (nm : ByteArray) (p : Int) (d : Nd) (t : P.T) (w : World) (hk : k ≤ xs.length) (hl : xs.length ≤ 400) (hcap : k ≤ cap) (hn : nodes ≤ 1000000) (hr : RlIn w g xs) (hN : PN w (· = b) d t) :
    Calls Tryd.prog 13 #[.slice (some ⟨g, 0, none⟩) k cap, .agg #[.string nm, .int .i64 p, .int .i64 d.k, .int .u64 d.x0, .int .u64 d.x1, .int .u64 d.x2, .int .u64 d.x3, .slice d.pa d.pn d.pc, .bool d.no, .bool d.ag], .int .i64 (nodes : Int)] w fun e w' => e = .returned (.int .i64 (verd k nodes (named (xs.take k) nm) t.em)) ∧ Below w.heap.size w w' := by
  have hmf : ∀ (fn : Fn) (first cp : Array Value) (w : World), (Instr.makeFunc fn first cp).run Tryd.prog w = .ok (.func fn first cp) w := fun _ _ _ _ => rfl
  have hK : KB (w.alloc (.cells #[.string nm, .int .i64 p, .int .i64 d.k, .int .u64 d.x0, .int .u64 d.x1, .int .u64 d.x2, .int .u64 d.x3, .slice d.pa d.pn d.pc, .bool d.no, .bool d.ag] 51)) w.heap.size nm p d := heap_alloc_at _ _
  have hgl := hr.lt
  have hB0 : Below w.heap.size w (w.alloc (.cells #[.string nm, .int .i64 p, .int .i64 d.k, .int .u64 d.x0, .int .u64 d.x1, .int .u64 d.x2, .int .u64 d.x3, .slice d.pa d.pn d.pc, .bool d.no, .bool d.ag] 51)) := (Below.refl _ _).alloc (Nat.le_refl _) _
  have hrX : RlIn (w.alloc (.cells #[.string nm, .int .i64 p, .int .i64 d.k, .int .u64 d.x0, .int .u64 d.x1, .int .u64 d.x2, .int .u64 d.x3, .slice d.pa d.pn d.pc, .bool d.no, .bool d.ag] 51)) g xs := hr.below hB0 hgl
  have HN := hid hN
  clear hN
  by_cases hm : 8 ≤ k ∨ 60 < nodes
  · have HV : Hid (verd k nodes (named (xs.take k) nm) t.em = 2) := by unfold Hid verd; rw [if_pos hm]
    by_cases h8 : 8 ≤ k
    · have h8' : (8 : Int) ≤ (k : Int) := by omega
      clear hm
      go_enter Tryd.func13, Tryd.ntmps13
      go_wp2_with fail
      go_ret
      exact ⟨ret_int HV.out.symm, hB0⟩
    · have h8' : decide ((8 : Int) ≤ (k : Int)) = false := by simp; omega
      have h60 : (60 : Int) < (nodes : Int) := by omega
      clear hm
      go_enter Tryd.func13, Tryd.ntmps13
      go_wp2_with fail
      go_ret
      exact ⟨ret_int HV.out.symm, hB0⟩
  · have h8' : decide ((8 : Int) ≤ (k : Int)) = false := by simp; omega
    have h60' : decide ((60 : Int) < (nodes : Int)) = false := by simp; omega
    have HV : Hid (verd k nodes (named (xs.take k) nm) t.em = if named (xs.take k) nm then 3 else if t.em then 4 else 0) := by unfold Hid verd; rw [if_neg hm]
    clear hm
    have c0 := hK.c0
    go_enter Tryd.func13, Tryd.ntmps13
    go_wp2_with fail
    refine (contains_any xs k g cap w.heap.size nm _ hk hl hcap hrX c0 (by simp)).mono ?_
    rintro e w3 ⟨rfl, hB3⟩
    have hB4 : Below w.heap.size w w3 := hB0.trans (hB3.mono (by simp))
    have hK3 : KB w3 w.heap.size nm p d := (hB3.block _ (by simp)).trans hK
    cases hnm : named (xs.take k) nm with
    | true =>
      have HV2 : Hid (verd k nodes (named (xs.take k) nm) t.em = 3) := by have h := HV.out; rw [if_pos hnm] at h; exact h
      go_wp2_with fail
      go_ret
      exact ⟨ret_int HV2.out.symm, hB4⟩
    | false =>
      have HV2 : Hid (verd k nodes (named (xs.take k) nm) t.em = if t.em then 4 else 0) := by have h := HV.out; rw [if_neg (by rw [hnm]; exact Bool.false_ne_true)] at h; exact h
      clear c0
      have e2 := hK3.c2
      have e3 := hK3.c3
      have e4 := hK3.c4
      have e5 := hK3.c5
      have e6 := hK3.c6
      have e7 := hK3.c7
      have e8 := hK3.c8
      have e9 := hK3.c9
      go_wp2_with fail
      refine (pempty_any w b HN.out w3 (Only.ofBelow hB4)).mono ?_
      rintro e w5 ⟨rfl, hB5⟩
      have hB6 : Below w.heap.size w w5 := hB4.trans (hB5.mono hB4.size)
      cases hem : t.em with
      | true =>
        have HV3 : Hid (verd k nodes (named (xs.take k) nm) t.em = 4) := by have h := HV2.out; rw [if_pos hem] at h; exact h
        go_wp2_with fail
        go_ret
        exact ⟨ret_int HV3.out.symm, hB6⟩
      | false =>
        have HV3 : Hid (verd k nodes (named (xs.take k) nm) t.em = 0) := by have h := HV2.out; rw [if_neg (by rw [hem]; exact Bool.false_ne_true)] at h; exact h
        go_wp2_with fail
        go_ret
        exact ⟨ret_int HV3.out.symm, hB6⟩
end Go.Proofs.YtjhmlcilabnlbaaDoor
/- The program: Check. -/
namespace Go.Proofs.YtjhmlcilabnlbaaDoor
open Go.RowKit

theorem named_map (xs : List (P.Rl × Nd)) (m : Nat) (r : P.Rl) : ((xs.map (·.1)).take m).any (fun d => d.name.toList == r.name.toList) = named (xs.take m) r.name := by
  unfold named
  rw [← List.map_take, List.any_map]; rfl
theorem pjudge_step (l : List P.Rl) (m size : Nat) (r : P.Rl) (nmd : Bool) (h : l[m]? = some r) (hn : (l.take m).any (fun d => d.name.toList == r.name.toList) = nmd) :
    P.judge (l.take m) size (l.drop m) = if verd m (size + r.t.sz) nmd r.t.em = 0 then P.judge (l.take (m + 1)) (size + r.t.sz) (l.drop (m + 1)) else some (verd m (size + r.t.sz) nmd r.t.em, r.pos) := by
  have hm : m < l.length := by
    by_cases hl : m < l.length
    · exact hl
    · rw [List.getElem?_eq_none (by omega)] at h; cases h
  have hd : l.drop m = r :: l.drop (m + 1) := by
    rw [List.drop_eq_getElem_cons hm]
    rw [List.getElem?_eq_getElem hm] at h
    rw [Option.some.inj h]
  have ht : l.take (m + 1) = l.take m ++ [r] := by rw [List.take_add_one, h]; rfl
  have hlen : (l.take m).length = m := by rw [List.length_take]; omega
  rw [hd]
  conv => lhs; unfold P.judge
  rw [hlen, hn, ht]
  unfold verd
  by_cases h1 : 7 < m ∨ 60 < size + r.t.sz
  · rw [if_pos h1, if_pos (show 8 ≤ m ∨ 60 < size + r.t.sz by omega)]; rfl
  · rw [if_neg h1, if_neg (show ¬ (8 ≤ m ∨ 60 < size + r.t.sz) by omega)]
    cases nmd with
    | true => rfl
    | false =>
      cases r.t.em with
      | true => rfl
      | false => rfl

theorem pjudge_at (xs : List (P.Rl × Nd)) (k g cap nodes b : Nat) (nv : Int) (hv : nv = (nodes : Int)) (nm : ByteArray) (p : Int) (d : Nd) (t : P.T) (w : World) (hk : k ≤ xs.length) (hl : xs.length ≤ 400) (hcap : k ≤ cap) (hn : nodes ≤ 1000000) (hr : RlIn w g xs) (hN : PN w (· = b) d t) :
    Calls Tryd.prog 13 #[.slice (some ⟨g, 0, none⟩) k cap, .agg #[.string nm, .int .i64 p, .int .i64 d.k, .int .u64 d.x0, .int .u64 d.x1, .int .u64 d.x2, .int .u64 d.x3, .slice d.pa d.pn d.pc, .bool d.no, .bool d.ag], .int .i64 nv] w fun e w' => e = .returned (.int .i64 (verd k nodes (named (xs.take k) nm) t.em)) ∧ Below w.heap.size w w' := by
  subst hv
  exact pjudge_any xs k g cap nodes b nm p d t w hk hl hcap hn hr hN

theorem outcome_some {l : List P.Rl} {j p : Nat} {V : Int} (h : P.judge [] 0 l = some (V, p)) : P.outcome (.ok l j) = (0, V, p) := by show P.verdict l = _; unfold P.verdict; rw [h]
theorem outcome_none {l : List P.Rl} {j : Nat} (h : P.judge [] 0 l = none) : P.outcome (.ok l j) = (l.length, 0, 0) := by show P.verdict l = _; unfold P.verdict; rw [h]

/-- What Check hands back. -/
def CheckOut (r : Nat × Int × Nat) (e : Ending) : Prop := e = .returned (.tuple #[.int .i64 (r.1 : Int), .int .i64 r.2.1, .int .i64 (r.2.2 : Int)])

set_option maxHeartbeats 2000000 in
theorem pcheck_any (s : ByteArray) (w : World) :
    Calls Tryd.prog 6 #[.string s] w fun e w' => CheckOut (P.check s) e ∧ Below w.heap.size w w' := by
  rw [check_read]
  have hRd := pread_any s w
  generalize readP s = R at hRd ⊢
  go_enter Tryd.func6, Tryd.ntmps6
  go_wp2_with fail
  refine hRd.mono ?_
  rintro e w1 ⟨hB1, hF⟩
  clear hRd
  cases R with
  | out => exact hF.elim
  | bad p =>
    have hF' : e = .returned (.tuple #[.slice none 0 0, .int .i64 (p : Int), .bool false]) := hF
    subst hF'
    clear hF
    go_wp2_with fail
    go_ret3
    exact ⟨rfl, hB1⟩
  | ok l j =>
    obtain ⟨v, xs, rfl, hl, hlen, hown, hN⟩ := hF
    have HN := hid hN
    have HL := hid hl
    clear hN hl
    have hw1 := hB1.size
    cases hxs : xs with
    | nil =>
      obtain ⟨ad, cap, hv⟩ := powns_shape hown
      subst hv
      have HL0 : Hid (l = []) := by unfold Hid; rw [← HL.out, hxs]; rfl
      rw [show xs.length = 0 from by rw [hxs]; rfl] at *
      clear hown hxs
      go_wp2_with fail
      go_loopg [8, 23] 1 (fun gk nd ix wr => gk = 1 ∧ nd = .int .i64 0 ∧ ix = .int .i64 0 ∧ wr = w1)
      case atStart => exact ⟨rfl, rfl, rfl, rfl⟩
      case round =>
        obtain ⟨rfl, rfl, rfl, rfl⟩ := hrel
        go_wp2_with fail
        go_ret3
        refine ⟨?_, hB1⟩
        rw [HL0.out]
        rfl
    | cons x0 xr =>
      obtain ⟨g, cap, hv, hcap, hrl⟩ : ∃ g cap, v = .slice (some ⟨g, 0, none⟩) xs.length cap ∧ xs.length ≤ cap ∧ RlIn w1 g xs := by
        rcases hown.2 with ⟨_, h0⟩ | ⟨g, cap, cur, hv, hge, hh, hc, -, -, ht⟩
        · rw [hxs] at h0; simp at h0
        · exact ⟨g, cap, hv, hc, cur, _, hh, ht⟩
      subst hv
      clear hxs hown
      have hgl := hrl.lt
      go_wp2_with fail
      go_loopg [8, 23] xs.length (fun gk nd ix wr => ∃ m size : Nat, m + gk = xs.length ∧ nd = .int .i64 (size : Int) ∧ ix = .int .i64 (m : Int) ∧ size ≤ m * 400 ∧ Below w1.heap.size w1 wr ∧ Hid (P.judge [] 0 l = P.judge (l.take m) size (l.drop m)))
      case atStart => exact ⟨0, 0, by omega, rfl, rfl, by omega, Below.refl _ _, by simp [Hid]⟩
      case round =>
        obtain ⟨m, size, hm, rfl, rfl, hsz, hBr, hJ⟩ := hrel
        by_cases hlt : m < xs.length
        · obtain ⟨x, hx⟩ : ∃ x, xs[m]? = some x := ⟨xs[m], List.getElem?_eq_getElem hlt⟩
          have hlt' : (m : Int) < (xs.length : Int) := by omega
          have hrr := hrl.below hBr hgl
          have e0 : wr.cell? ⟨g, m * 10, none⟩ = some (.string x.1.name) := hrr.cell hx (j := 0) (by omega)
          have e1 : wr.cell? ⟨g, m * 10 + 1, none⟩ = some (.int .i64 (x.1.pos : Int)) := hrr.cell hx (j := 1) (by omega)
          have e2 : wr.cell? ⟨g, m * 10 + 2, none⟩ = some (.int .i64 x.2.k) := hrr.cell hx (j := 2) (by omega)
          have e3 : wr.cell? ⟨g, m * 10 + 3, none⟩ = some (.int .u64 x.2.x0) := hrr.cell hx (j := 3) (by omega)
          have e4 : wr.cell? ⟨g, m * 10 + 4, none⟩ = some (.int .u64 x.2.x1) := hrr.cell hx (j := 4) (by omega)
          have e5 : wr.cell? ⟨g, m * 10 + 5, none⟩ = some (.int .u64 x.2.x2) := hrr.cell hx (j := 5) (by omega)
          have e6 : wr.cell? ⟨g, m * 10 + 6, none⟩ = some (.int .u64 x.2.x3) := hrr.cell hx (j := 6) (by omega)
          have e7 : wr.cell? ⟨g, m * 10 + 7, none⟩ = some (.slice x.2.pa x.2.pn x.2.pc) := hrr.cell hx (j := 7) (by omega)
          have e8 : wr.cell? ⟨g, m * 10 + 8, none⟩ = some (.bool x.2.no) := hrr.cell hx (j := 8) (by omega)
          have e9 : wr.cell? ⟨g, m * 10 + 9, none⟩ = some (.bool x.2.ag) := hrr.cell hx (j := 9) (by omega)
          have hxm := HN.out x (List.mem_of_getElem? hx)
          have hz := hxm.2
          have HNx := hid hxm.1
          have hlm : l[m]? = some x.1 := by rw [← HL.out]; simp [hx]
          have hnmd : (l.take m).any (fun d => d.name.toList == x.1.name.toList) = named (xs.take m) x.1.name := by rw [← HL.out]; exact named_map xs m x.1
          have HS := hid (pjudge_step l m size x.1 _ hlm hnmd)
          clear hlm hnmd
          clear hx hxm
          have hws := hBr.size
          have hK : KB (wr.alloc (.cells #[.string x.1.name, .int .i64 (x.1.pos : Int), .int .i64 x.2.k, .int .u64 x.2.x0, .int .u64 x.2.x1, .int .u64 x.2.x2, .int .u64 x.2.x3, .slice x.2.pa x.2.pn x.2.pc, .bool x.2.no, .bool x.2.ag] 51)) wr.heap.size x.1.name (x.1.pos : Int) x.2 := heap_alloc_at _ _
          have hO2 : Only w.heap.size w1 (wr.alloc (.cells #[.string x.1.name, .int .i64 (x.1.pos : Int), .int .i64 x.2.k, .int .u64 x.2.x0, .int .u64 x.2.x1, .int .u64 x.2.x2, .int .u64 x.2.x3, .slice x.2.pa x.2.pn x.2.pc, .bool x.2.no, .bool x.2.ag] 51)) := Only.ofBelow (hBr.alloc hws _)
          go_wp2_with fail
          refine (count_any w1 w.heap.size HNx.out (by omega) _ hO2).mono ?_
          rintro e w3 ⟨rfl, hB3⟩
          have hB4 : Below w1.heap.size w1 w3 := (hBr.alloc hws _).trans (hB3.mono (by simp; omega))
          have hK3 : KB w3 wr.heap.size x.1.name (x.1.pos : Int) x.2 := (hB3.block _ (by simp)).trans hK
          have hr3 := hrl.below hB4 hgl
          have HN3 := hid (HNx.out.only (Only.ofBelow (b := w.heap.size) hB4).toS)
          clear e0 e1 e2 e3 e4 e5 e6 e7 e8 e9 hrr
          have c0 := hK3.c0
          have c1 := hK3.c1
          have c2 := hK3.c2
          have c3 := hK3.c3
          have c4 := hK3.c4
          have c5 := hK3.c5
          have c6 := hK3.c6
          have c7 := hK3.c7
          have c8 := hK3.c8
          have c9 := hK3.c9
          go_wp2_with fail
          go_cut [11] (fun f wx => f = .int .i64 (verd m (size + x.1.t.sz) (named (xs.take m) x.1.name) x.1.t.em) ∧ Below w1.heap.size w1 wx ∧ KB wx wr.heap.size x.1.name (x.1.pos : Int) x.2)
          case first =>
            have hr3d : RlIn w3.drew g xs := hr3
            have HN3d : Hid (PN w3.drew (· = w.heap.size) x.2 x.1.t) := HN3.out.only (fun _ _ _ => rfl)
            have hB4d : Below w1.heap.size w1 w3.drew := hB4.trans ⟨rfl, rfl, rfl, Nat.le_refl _, fun _ _ => rfl⟩
            have hlt3 : wr.heap.size < w3.drew.heap.size := Nat.lt_of_lt_of_le (by simp) hB3.size
            have hK3d : KB w3.drew wr.heap.size x.1.name (x.1.pos : Int) x.2 := hK3
            go_region_with (go_at_call 13; refine (pjudge_at xs m g cap (size + x.1.t.sz) w.heap.size _ (by omega) x.1.name (x.1.pos : Int) x.2 x.1.t _ (by omega) hlen (by omega) (by omega) hr3d HN3d.out).mono ?_; rintro e w5 ⟨rfl, hB5⟩)
            all_goals
              go_wp2_with fail
              go_meet
              exact ⟨rfl, hB4d.trans (hB5.mono hB4d.size), (hB5.block _ hlt3).trans hK3d⟩
          case rest =>
            obtain ⟨rfl, hBx, hKx⟩ := hcut
            have HV : Hid (P.judge [] 0 l = if verd m (size + x.1.t.sz) (named (xs.take m) x.1.name) x.1.t.em = 0 then P.judge (l.take (m + 1)) (size + x.1.t.sz) (l.drop (m + 1)) else some (verd m (size + x.1.t.sz) (named (xs.take m) x.1.name) x.1.t.em, x.1.pos)) := hJ.out.trans HS.out
            clear HS c0 c1 c2 c3 c4 c5 c6 c7 c8 c9
            generalize verd m (size + x.1.t.sz) (named (xs.take m) x.1.name) x.1.t.em = V at *
            by_cases hV : V = 0
            · subst hV
              have HJ2 : Hid (P.judge [] 0 l = P.judge (l.take (m + 1)) (size + x.1.t.sz) (l.drop (m + 1))) := by have h := HV.out; rw [if_pos rfl] at h; exact h
              go_wp2_with fail
              go_roundg (gk - 1)
              case measure => omega
              case rel => exact ⟨m + 1, size + x.1.t.sz, by omega, by go_num, by go_num, by omega, hBx, HJ2⟩
            · have hV' : (V == 0) = false := beq_false_of_ne hV
              have HJ2 : Hid (P.judge [] 0 l = some (V, x.1.pos)) := by have h := HV.out; rw [if_neg hV] at h; exact h
              have c1 := hKx.c1
              go_wp2_with fail
              go_quiet (fail)
              go_wp2_with fail
              go_ret3
              refine ⟨?_, (hB1.trans (hBx.mono hw1)).trans ⟨rfl, rfl, rfl, Nat.le_refl _, fun _ _ => rfl⟩⟩
              rw [outcome_some HJ2.out]
              rfl
        · have hme : m = xs.length := by omega
          subst hme
          have HJ2 : Hid (P.judge [] 0 l = none) := by
            have h := hJ.out
            have hll : l.length = xs.length := by rw [← HL.out]; simp
            rw [← hll, List.drop_length] at h
            unfold Hid
            rw [h]
            unfold P.judge
            rfl
          have HLL : Hid (l.length = xs.length) := by unfold Hid; rw [← HL.out]; simp
          go_wp2_with fail
          go_ret3
          refine ⟨?_, hB1.trans (hBr.mono hw1)⟩
          rw [outcome_none HJ2.out, HLL.out]
          rfl
end Go.Proofs.YtjhmlcilabnlbaaDoor
/- States: the plan of all rules: the pure side, a plan's list of beginnings, its ends. -/
namespace Go.Proofs.YtjhmlcilabnlbaaDoor
open Go.RowKit Go.Shelf

/-- append to a row of the call's own, as one step of a region that draws. -/
theorem step_append_own_at {P : Program} {ops : Array Oper} {o : Oper} {a : Act} {w : World} {K : Act → World → Prop} {Q : Exit → Act → World → Prop} {E : Prop}
    (hgd : o.guard = none) (s x : Operand) (t : TypeId) (ho : o.op = .call { callee := .builtin .append, args := #[s, x], argTypes := #[t, t] })
    (base : Nat) (e : TypeId) (i : TypeInfo) (z : Value) (size bytes : Nat) (ht : P.underlying t = some (.slice e)) (hi : P.info? e = some i) (hz : i.zero = some z)
    (hsize : i.size = size) (hby : i.bytes = bytes) (hzs : z.cells.size = size) (hsz : 0 < size)
    (v : Value) (n : Nat) (xs : List Value) (hs : a.eval s = v) (hown : w.ownsRow base e size v n xs)
    (ad : Addr) (m c : Nat) (news : List Value) (hx : a.eval x = .slice (some ad) m c) (hl : news.length = m * size) (hnews : ∀ j u, news[j]? = some u → w.cell? (ad.add j) = some u) (h1 : ∀ u ∈ news, u.oneCell' = true)
    (h63 : n + m ≤ maxLen) (hbytes : (n + m) * bytes ≤ 140737488355328) (hbase : base ≤ w.heap.size)
    (h : ∀ v' w', w'.ownsRow base e size v' (n + m) (xs ++ news) → w.grownBy w' v.ownBlock → (v'.ownBlock = v.ownBlock ∨ v'.ownBlock = some w.heap.size) → K (a.put o.dst v') w') :
    if Region.wanted o (yielded ops a.tmps) = true then Oper.wp P o a w K Q else E := by
  have hw : Region.wanted o (yielded ops a.tmps) = true := by simp [Region.wanted, hgd]
  rw [if_pos hw]
  obtain ⟨v', w', hr, h2, h3, h4, h5⟩ := run_append_own_at (P := P) w base t o.type e i z size bytes ht hi hz hsize hby hzs hsz v n xs hown ad m c news hl hnews h1 h63 hbytes hbase
  unfold Oper.wp execOp
  simp only [ho, resolve, invoke, builtin, Sem.run_bind, Sem.run_pure, Result.andThen_ok, List.map_toArray, List.map_cons, List.map_nil, hs, hx, hr]
  exact h v' w' h2 h3 h5

/-- Another list of beginnings; other ends. -/
def PlD.beg (D : PlD) (l : List S2) : PlD := { D with bg := l }
def PlD.end (D : PlD) (e : S2) : PlD := { D with en := e }

theorem PlanIn.begins {B p : Nat} {W w6 : World} {vb vn v' : Value} {D : PlD} {a : S2} (h : PlanIn B W p vb vn D) (hown : w6.ownsRow B 58 2 v' (D.bg.length + 1) (setCells D.bg ++ [.int .u64 (a.1 : Int), .int .u64 (a.2 : Int)])) (hg : W.grownBy w6 vb.ownBlock) (hat : v'.ownBlock = vb.ownBlock ∨ v'.ownBlock = some W.heap.size) :
    PlanIn B (w6.setCell ⟨p, 0, none⟩ v') p v' vn (D.beg (D.bg ++ [a])) := by
  have hlt := h.lt
  have hp : v'.ownBlock ≠ some p := by
    rcases hat with e | e
    · rw [e]; exact h.ab
    · rw [e]; intro e2; have := Option.some.inj e2; omega
  have other : ∀ j, j ≠ p → j < W.heap.size → vb.ownBlock ≠ some j → (w6.setCell ⟨p, 0, none⟩ v').heap[j]? = W.heap[j]? := fun j hj hjl hv => (Below.heap_setCell _ _ _ _ hj).trans (hg.block j hjl (fun e => hv e.symm))
  have hl : RowS w6 B v' (D.bg ++ [a]) := by unfold RowS; rw [List.length_append, setCells_snoc]; exact hown
  obtain ⟨cs, hc, h1, h2, h3, h4, h5, h6⟩ := h.blk
  have hc6 := (hg.block p hlt (fun e => h.ab e.symm)).trans hc
  refine ⟨h.pge, ⟨cs.setIfInBounds 0 v', hset hc6 _, by simpa using h1, ?_, ?_, ?_, ?_, ?_⟩, hl.keep (fun j hj => Below.heap_setCell _ _ _ _ (show j ≠ p from fun e => hp (e ▸ hj))), h.on.keep (fun j hj => other j (fun e => h.an (e ▸ hj)) (h.on.lt hj).1 (fun e => h.abn j e hj)), hp, h.an, ?_⟩
  · rw [Array.getElem?_setIfInBounds_self_of_lt (by omega)]
  · rw [Array.getElem?_setIfInBounds_ne (by omega)]; exact h3
  · intro b hb
    exact ⟨by rw [Array.getElem?_setIfInBounds_ne (by omega)]; exact (h4 b hb).1, by rw [Array.getElem?_setIfInBounds_ne (by omega)]; exact (h4 b hb).2⟩
  · rw [Array.getElem?_setIfInBounds_ne (by omega)]; exact h5
  · rw [Array.getElem?_setIfInBounds_ne (by omega)]; exact h6
  · intro g hgb
    rcases hat with e | e
    · rw [e] at hgb; exact h.abn g hgb
    · rw [e] at hgb; have := Option.some.inj hgb; intro e2; have := (h.on.lt e2).1; omega
theorem PlanIn.ends {B p : Nat} {w : World} {vb vn : Value} {D : PlD} (h : PlanIn B w p vb vn D) (z : S2) :
    PlanIn B ((w.setCell ⟨p, 514, none⟩ (.int .u64 (z.1 : Int))).setCell ⟨p, 515, none⟩ (.int .u64 (z.2 : Int))) p vb vn (D.end z) := by
  have other : ∀ j, j ≠ p → ((w.setCell ⟨p, 514, none⟩ (.int .u64 (z.1 : Int))).setCell ⟨p, 515, none⟩ (.int .u64 (z.2 : Int))).heap[j]? = w.heap[j]? := fun j hj => (Below.heap_setCell _ _ _ _ hj).trans (Below.heap_setCell _ _ _ _ hj)
  obtain ⟨cs, hc, h1, h2, h3, h4, h5, h6⟩ := h.blk
  refine ⟨h.pge, ⟨(cs.setIfInBounds 514 (.int .u64 (z.1 : Int))).setIfInBounds 515 (.int .u64 (z.2 : Int)), hset (hset hc _) _, by simpa using h1, ?_, ?_, ?_, ?_, ?_⟩, h.ob.keep (fun j hj => other j (fun e => h.ab (e ▸ hj))), h.on.keep (fun j hj => other j (fun e => h.an (e ▸ hj))), h.ab, h.an, h.abn⟩
  · rw [Array.getElem?_setIfInBounds_ne (by omega), Array.getElem?_setIfInBounds_ne (by omega)]; exact h2
  · rw [Array.getElem?_setIfInBounds_ne (by omega), Array.getElem?_setIfInBounds_ne (by omega)]; exact h3
  · intro b hb
    exact ⟨by rw [Array.getElem?_setIfInBounds_ne (by omega), Array.getElem?_setIfInBounds_ne (by omega)]; exact (h4 b hb).1, by rw [Array.getElem?_setIfInBounds_ne (by omega), Array.getElem?_setIfInBounds_ne (by omega)]; exact (h4 b hb).2⟩
  · rw [Array.getElem?_setIfInBounds_ne (by omega), Array.getElem?_setIfInBounds_self_of_lt (by omega)]; rfl
  · rw [Array.getElem?_setIfInBounds_self_of_lt (by simp; omega)]; rfl

/-- The plan of no rules. -/
def PlD.none : PlD := ⟨[], [], fun _ => (0, 0), (0, 0)⟩
theorem zero81 : Tryd.zeroCells81.size = 516 ∧ Tryd.zeroCells81[0]? = some (.slice none 0 0) ∧ Tryd.zeroCells81[1]? = some (.slice none 0 0) ∧ (∀ j, 2 ≤ j → j < 516 → Tryd.zeroCells81[j]? = some (.int .u64 0)) := by
  have e : Tryd.zeroCells81.toList = .slice none 0 0 :: .slice none 0 0 :: List.replicate 514 (.int .u64 0) := by kernel_rfl
  have g : ∀ j : Nat, Tryd.zeroCells81[j]? = (Value.slice none 0 0 :: Value.slice none 0 0 :: List.replicate 514 (Value.int .u64 0))[j]? := fun j => by rw [← e, Array.getElem?_toList]
  refine ⟨by rw [← Array.length_toList, e, List.length_cons, List.length_cons, List.length_replicate], by rw [g]; rfl, by rw [g]; rfl, ?_⟩
  intro j h2 h5
  obtain ⟨k, rfl⟩ : ∃ k, j = k + 1 + 1 := ⟨j - 2, by omega⟩
  rw [g, List.getElem?_cons_succ, List.getElem?_cons_succ, List.getElem?_replicate, if_pos (by omega)]
theorem PlanIn.start (w : World) : PlanIn w.heap.size (w.alloc (.cells Tryd.zeroCells81 81)) w.heap.size (.slice none 0 0) (.slice none 0 0) PlD.none := by
  obtain ⟨h1, h2, h3, h4⟩ := zero81
  refine ⟨Nat.le_refl _, ⟨Tryd.zeroCells81, heap_alloc_at _ _, h1, h2, h3, fun b hb => ⟨h4 _ (by omega) (by omega), h4 _ (by omega) (by omega)⟩, h4 514 (by omega) (by omega), h4 515 (by omega) (by omega)⟩, World.ownsRow_nil _ _ _ _, World.ownsRow_nil _ _ _ _, by simp [Value.ownBlock], by simp [Value.ownBlock], by simp [Value.ownBlock]⟩

/-- A rule added to a plan, as the rule of number i. -/
def mkStep (i : Nat) (t : Tr) (D : PlD) : PlD :=
  (((lay t D).1.beg ((lay t D).1.bg ++ [(lay t D).2.fst])).lnk (lay t D).2.lst (S2.bit (64 + i))).end ((lay t D).1.en.or (S2.bit (64 + i)))
def mkAll : Nat → List Tr → PlD → PlD
  | _, [], D => D
  | i, t :: ts, D => mkAll (i + 1) ts (mkStep i t D)

/-- A plan of i rules. -/
structure PlD.whole (D : PlD) (i : Nat) : Prop where
  good : D.good i
  len : D.bg.length = i
  bu : ∀ a, a ∈ D.bg → a.under D.nx.length ∧ a.2 = 0
  e1 : D.en.1 = 0
theorem S2.bit_two (i : Nat) : S2.bit (64 + i) = (0, 2 ^ i) := by
  unfold S2.bit
  rw [if_neg (by omega), show 64 + i - 64 = i by omega]
theorem PlD.good.mono {D : PlD} {n m : Nat} (h : D.good n) (hm : n ≤ m) : D.good m := ⟨h.fine, h.nu, fun a ha => Nat.lt_of_lt_of_le (h.ne a ha) (Nat.pow_le_pow_right (by decide) hm)⟩
theorem PlD.whole.none : PlD.none.whole 0 := by
  refine ⟨⟨⟨by simp [PlD.none], by simp [PlD.none], fun _ _ => S2.zero_ok, S2.zero_ok, fun _ _ => S2.under_zero _⟩, by simp [PlD.none], by simp [PlD.none]⟩, rfl, by simp [PlD.none], rfl⟩
theorem PlD.whole.step {D : PlD} {i : Nat} (h : D.whole i) (t : Tr) (hv : D.nx.length + t.lv ≤ 64) (hi : i < 64) : (mkStep i t D).whole (i + 1) ∧ (mkStep i t D).nx.length ≤ D.nx.length + t.lv := by
  have hl := lay_ok i t D h.good hv
  unfold mkStep
  generalize lay t D = r at *
  obtain ⟨D', pc⟩ := r
  have hg : D'.good i := hl.g
  have hp : pc.good D'.nx.length := hl.p
  have hL : Laid D D' t.lv := hl.l
  have hbk : (S2.bit (64 + i)).ok := S2.bit_ok (by omega)
  have hb2 := S2.bit_two i
  have g1 : (D'.beg (D'.bg ++ [pc.fst])).good (i + 1) := by
    refine ⟨⟨?_, hg.fine.nx, hg.fine.mt, hg.fine.en, hg.fine.fit⟩, hg.nu, (hg.mono (Nat.le_succ i)).ne⟩
    intro a ha
    rcases List.mem_append.1 ha with ha | ha
    · exact hg.fine.bg a ha
    · rw [List.mem_singleton] at ha; subst ha; exact hp.ok.fst
  have g2 := g1.lnk pc.lst (y := S2.bit (64 + i)) hbk (by rw [hb2]; intro k _ hk; simp at hk) (by rw [hb2]; exact Nat.pow_lt_pow_right (by decide) (Nat.lt_succ_self i))
  have hlen : ((D'.beg (D'.bg ++ [pc.fst])).lnk pc.lst (S2.bit (64 + i))).nx.length = D'.nx.length := PlD.lnk_len _ _ _
  refine ⟨⟨⟨⟨g2.fine.bg, g2.fine.nx, g2.fine.mt, S2.or_ok hg.fine.en hbk, g2.fine.fit⟩, g2.nu, g2.ne⟩, ?_, ?_, ?_⟩, ?_⟩
  · show (D'.bg ++ [pc.fst]).length = i + 1
    have e1 : D'.bg = D.bg := hL.bg
    rw [e1, List.length_append, h.len]; rfl
  · intro a ha
    show a.under ((D'.beg (D'.bg ++ [pc.fst])).lnk pc.lst (S2.bit (64 + i))).nx.length ∧ a.2 = 0
    rw [hlen]
    rcases List.mem_append.1 (show a ∈ D'.bg ++ [pc.fst] from ha) with ha | ha
    · have e1 : D'.bg = D.bg := hL.bg
      rw [e1] at ha
      exact ⟨S2.under_mono (h.bu a ha).1 hL.ge, (h.bu a ha).2⟩
    · rw [List.mem_singleton] at ha; subst ha; exact ⟨hp.ok.ff, hp.f2⟩
  · show (D'.en.or (S2.bit (64 + i))).1 = 0
    have e1 : D'.en = D.en := hL.en
    rw [e1, hb2]
    show D.en.1 ||| 0 = 0
    rw [h.e1]; rfl
  · show ((D'.beg (D'.bg ++ [pc.fst])).lnk pc.lst (S2.bit (64 + i))).nx.length ≤ _
    rw [hlen]; exact hL.le
end Go.Proofs.YtjhmlcilabnlbaaDoor
/- States: Make. -/
namespace Go.Proofs.YtjhmlcilabnlbaaDoor
open Go.RowKit Go.Shelf

attribute [local go_sem] Oper.semAt_some

theorem PlanIn.under {B p : Nat} {w w' : World} {vb vn : Value} {D : PlD} (h : PlanIn B w p vb vn D) (k : Below w.heap.size w w') : PlanIn B w' p vb vn D := h.below k (Nat.le_refl _)

theorem with_end (k : Nat) (hk : k < 64) (w : World) :
    Calls Tryd.prog 27 #[.agg #[.int .u64 0, .int .u64 0], .int .i64 (64 + (k : Int))] w fun e w' => e = .returned (.agg #[.int .u64 ((S2.bit (64 + k)).1 : Int), .int .u64 ((S2.bit (64 + k)).2 : Int)]) ∧ Below w.heap.size w w' := by
  have h := with_nat (0, 0) (64 + k) S2.zero_ok (by omega) w
  have e : S2.or (0, 0) (S2.bit (64 + k)) = S2.bit (64 + k) := by unfold S2.or; simp
  rw [e] at h
  have e2 : ((64 + k : Nat) : Int) = 64 + (k : Int) := by omega
  rw [e2] at h
  exact h

set_option maxRecDepth 100000 in
set_option maxHeartbeats 4000000 in
theorem make_any (xs : List (P.Rl × Nd)) (ts : List Tr) (hl : xs.length = ts.length) (h8 : xs.length ≤ 8) (g c : Nat) (w : World) (h1 : 1 ≤ w.heap.size) (hR : RlIn w g xs) (hT : ∀ (i : Nat) (x : P.Rl × Nd) (t : Tr), xs[i]? = some x → ts[i]? = some t → PT w (fun k => w.heap.size ≤ k) x.2 t) (hv : lvs ts ≤ 64) (hTab : TabIn w) :
    Calls Tryd.prog 17 #[.slice (some ⟨g, 0, none⟩) xs.length c] w fun e w' => ∃ p vb vn, e = .returned (.pointer (some ⟨p, 0, none⟩)) ∧ PlanIn w.heap.size w' p vb vn (mkAll 0 ts PlD.none) ∧ (mkAll 0 ts PlD.none).whole xs.length ∧ (mkAll 0 ts PlD.none).nx.length ≤ 64 ∧ Below w.heap.size w w' := by
  have HL := hid hl
  have HT := hid hT
  clear hl hT
  have hgl := hR.lt
  have hP0 := PlanIn.start w
  have hB0 : Below w.heap.size w (w.alloc (.cells Tryd.zeroCells81 81)) := (Below.refl _ _).alloc (Nat.le_refl _) _
  go_enter Tryd.func17, Tryd.ntmps17
  go_wp2_with fail
  generalize w.alloc (.cells Tryd.zeroCells81 81) = V at *
  go_loopg [12, 4] xs.length (fun gk ix _i wr => ∃ m : Nat, m + gk = xs.length ∧ ix = .int .i64 (m : Int) ∧ ∃ vb vn D, PlanIn w.heap.size wr w.heap.size vb vn D ∧ D.whole m ∧ D.nx.length + lvs (ts.drop m) ≤ 64 ∧ mkAll m (ts.drop m) D = mkAll 0 ts PlD.none ∧ Below w.heap.size w wr)
  case atStart => exact ⟨0, by omega, rfl, _, _, _, hP0, PlD.whole.none, by simpa [PlD.none] using hv, rfl, hB0⟩
  case round =>
    obtain ⟨m, hm, rfl, vb, vn, D, hP, hW, hlv, hmk, hBr⟩ := hrel
    have HMK := hid hmk
    clear hmk
    by_cases hlt : m < xs.length
    · obtain ⟨x, hx⟩ : ∃ x, xs[m]? = some x := ⟨xs[m], List.getElem?_eq_getElem hlt⟩
      obtain ⟨t, ht⟩ : ∃ t, ts[m]? = some t := ⟨ts[m]'(by have := HL.out; omega), List.getElem?_eq_getElem _⟩
      have hlt' : (m : Int) < (xs.length : Int) := by omega
      have hPx := hR.below hBr hgl
      have e0 : wr.cell? ⟨g, m * 10, none⟩ = some (.string x.1.name) := hPx.cell hx (j := 0) (by omega)
      have e1 : wr.cell? ⟨g, m * 10 + 1, none⟩ = some (.int .i64 (x.1.pos : Int)) := hPx.cell hx (j := 1) (by omega)
      have e2 : wr.cell? ⟨g, m * 10 + 2, none⟩ = some (.int .i64 x.2.k) := hPx.cell hx (j := 2) (by omega)
      have e3 : wr.cell? ⟨g, m * 10 + 3, none⟩ = some (.int .u64 x.2.x0) := hPx.cell hx (j := 3) (by omega)
      have e4 : wr.cell? ⟨g, m * 10 + 4, none⟩ = some (.int .u64 x.2.x1) := hPx.cell hx (j := 4) (by omega)
      have e5 : wr.cell? ⟨g, m * 10 + 5, none⟩ = some (.int .u64 x.2.x2) := hPx.cell hx (j := 5) (by omega)
      have e6 : wr.cell? ⟨g, m * 10 + 6, none⟩ = some (.int .u64 x.2.x3) := hPx.cell hx (j := 6) (by omega)
      have e7 : wr.cell? ⟨g, m * 10 + 7, none⟩ = some (.slice x.2.pa x.2.pn x.2.pc) := hPx.cell hx (j := 7) (by omega)
      have e8 : wr.cell? ⟨g, m * 10 + 8, none⟩ = some (.bool x.2.no) := hPx.cell hx (j := 8) (by omega)
      have e9 : wr.cell? ⟨g, m * 10 + 9, none⟩ = some (.bool x.2.ag) := hPx.cell hx (j := 9) (by omega)
      have HPT := hid (HT.out m x t hx ht)
      have hdrop : ts.drop m = t :: ts.drop (m + 1) := by
        rw [List.getElem?_eq_some_iff] at ht
        obtain ⟨h1, h2⟩ := ht
        rw [List.drop_eq_getElem_cons h1, h2]
      have hl1 : lvs (ts.drop m) = t.lv + lvs (ts.drop (m + 1)) := by rw [hdrop]; conv => lhs; unfold lvs
      have HL1 : Hid (mkAll m (ts.drop m) D = mkAll (m + 1) (ts.drop (m + 1)) (mkStep m t D)) := by unfold Hid; rw [hdrop]; rfl
      clear hx ht hPx hdrop
      go_wp2_with fail
      clear e0 e1 e2 e3 e4 e5 e6 e7 e8 e9
      have hBx : Below wr.heap.size wr (wr.alloc (.cells #[.string x.1.name, .int .i64 (x.1.pos : Int), .int .i64 x.2.k, .int .u64 x.2.x0, .int .u64 x.2.x1, .int .u64 x.2.x2, .int .u64 x.2.x3, .slice x.2.pa x.2.pn x.2.pc, .bool x.2.no, .bool x.2.ag] 51)) := (Below.refl _ _).alloc (Nat.le_refl _) _
      generalize (wr.alloc (.cells #[.string x.1.name, .int .i64 (x.1.pos : Int), .int .i64 x.2.k, .int .u64 x.2.x0, .int .u64 x.2.x1, .int .u64 x.2.x2, .int .u64 x.2.x3, .slice x.2.pa x.2.pn x.2.pc, .bool x.2.no, .bool x.2.ag] 51)) = X at *
      have hPX := hP.under hBx
      have hBX : Below w.heap.size w X := hBr.trans (hBx.mono hBr.size)
      refine (lay_any w.heap.size h1 m t D x.2 w.heap.size vb vn X hW.good (by omega) hPX (HPT.out.only (fun k hk _ => hBX.block k hk)) (hTab.below hBX (by omega))).mono ?_
      rintro e w2 ⟨vn2, rfl, hP2, hT2, hM2⟩
      have hlay := lay_ok m t D hW.good (by omega)
      have hws := hW.step t (by omega) (by omega)
      have hB2 : Below w.heap.size w w2 := hBX.trans (hT2.toBelow hBX.size (fun j hj e => by
        rcases e with e | e
        · omega
        · have := (hPX.on.lt e).2; omega))
      have HS : Hid (mkStep m t D = (((lay t D).1.beg ((lay t D).1.bg ++ [(lay t D).2.fst])).lnk (lay t D).2.lst (S2.bit (64 + m))).end ((lay t D).1.en.or (S2.bit (64 + m)))) := rfl
      generalize mkStep m t D = MS at *
      generalize lay t D = res at *
      obtain ⟨D2, pc⟩ := res
      dsimp only at hP2 HS
      unfold Pc.val
      dsimp only
      have hY : Below w2.heap.size w2 (w2.alloc (.cells #[.int .u64 (pc.fst.1 : Int), .int .u64 (pc.fst.2 : Int), .int .u64 (pc.lst.1 : Int), .int .u64 (pc.lst.2 : Int), .bool pc.em] 83)) := (Below.refl _ _).alloc (Nat.le_refl _) _
      have pY : PB (w2.alloc (.cells #[.int .u64 (pc.fst.1 : Int), .int .u64 (pc.fst.2 : Int), .int .u64 (pc.lst.1 : Int), .int .u64 (pc.lst.2 : Int), .bool pc.em] 83)) w2.heap.size pc := heap_alloc_at _ _
      clear hT2 hM2 hBx hPX hBX hP
      go_wp2_with fail
      have hPY := hP2.under hY
      have hBY : Below w.heap.size w (w2.alloc (.cells #[.int .u64 (pc.fst.1 : Int), .int .u64 (pc.fst.2 : Int), .int .u64 (pc.lst.1 : Int), .int .u64 (pc.lst.2 : Int), .bool pc.em] 83)) := hB2.trans (hY.mono hB2.size)
      have hO : w.heap.size < w2.heap.size := hP2.lt
      have hon : ∀ k, w2.heap.size ≤ k → vb.ownBlock ≠ some k ∧ vn2.ownBlock ≠ some k := fun k hk => ⟨fun e => by have := (hP2.ob.lt e).1; omega, fun e => by have := (hP2.on.lt e).1; omega⟩
      clear hP2 hB2 hY
      generalize (w2.alloc (.cells #[.int .u64 (pc.fst.1 : Int), .int .u64 (pc.fst.2 : Int), .int .u64 (pc.lst.1 : Int), .int .u64 (pc.lst.2 : Int), .bool pc.em] 83)) = Y at *
      generalize w2.heap.size = O at *
      obtain ⟨i0, hi0, hz0, hz1, hz2⟩ := info_parts Tryd.info58
      have cb := hPY.cb
      have p0 := pY.c0
      have p1 := pY.c1
      have b1 : ∀ o, Below Y.heap.size Y (Y.alloc o).drew := fun o => ((Below.refl _ _).alloc (Nat.le_refl _) _).drew
      have cb2 : (Y.alloc (.cells #[.int .u64 (pc.fst.1 : Int), .int .u64 (pc.fst.2 : Int)] 58)).cell? ⟨w.heap.size, 0, none⟩ = some vb := ((b1 _).cell (p := ⟨w.heap.size, 0, none⟩) hPY.lt).trans cb
      have HOW : ∀ W, Below Y.heap.size Y W → RowS W w.heap.size vb D2.bg := fun W h => (hPY.under h).ob
      have HNW : ∀ (j : Nat) (u : Value), [Value.int .u64 (pc.fst.1 : Int), Value.int .u64 (pc.fst.2 : Int)][j]? = some u → (Y.alloc (.cells #[.int .u64 (pc.fst.1 : Int), .int .u64 (pc.fst.2 : Int)] 58)).cell? ((⟨Y.heap.size, 0, none⟩ : Addr).add j) = some u := two_cells rfl
      have hbl : D2.bg.length = m := by
        have e : D2.bg = D.bg := hlay.l.bg
        rw [e, hW.len]
      have HBL := hid hbl
      clear hbl
      have kp : ∀ W w6, Below Y.heap.size Y W → W.grownBy w6 vb.ownBlock → w6.cell? ⟨w.heap.size, 0, none⟩ = some vb ∧ w6.frozen? ⟨w.heap.size, 0, none⟩ = false ∧ w6.heap[O]? = Y.heap[O]? ∧ Below w.heap.size w w6 := fun W w6 h hg => by
        have hpl := hPY.lt
        have hs := h.size
        have e1 : w6.heap[w.heap.size]? = Y.heap[w.heap.size]? := (hg.block _ (by omega) (fun e => hPY.ab e.symm)).trans (h.block _ hpl)
        refine ⟨(World.cell?_of_block (a := ⟨w.heap.size, 0, none⟩) e1).trans cb, (World.frozen?_of_block (a := ⟨w.heap.size, 0, none⟩) e1).trans (hPY.fz 0), (hg.block _ (by have := pY.lt; omega) (fun e => (hon O (Nat.le_refl _)).1 e.symm)).trans (h.block _ pY.lt), ?_⟩
        exact (hBY.trans (h.mono hBY.size)).grown hg (by have := hBY.size; omega) (fun k e => (hPY.ob.lt e).2)
      have HKP := hid kp
      clear kp
      go_region_law (refine step_append_own_at rfl (.tmp 25) (.tmp 28) 75 rfl w.heap.size 58 i0 _ 2 16 Tryd.underlying75 hi0 hz0 hz1 hz2 rfl (by decide) vb D2.bg.length (setCells D2.bg) (by simp [Act.eval]) (HOW _ (b1 _)) ⟨Y.heap.size, 0, none⟩ 1 1 [Value.int .u64 (pc.fst.1 : Int), Value.int .u64 (pc.fst.2 : Int)] (by simp [Act.eval]) rfl HNW (by intro u hu; simp at hu; rcases hu with rfl | rfl <;> rfl) (by have := HBL.out; unfold maxLen; omega) (by have := HBL.out; omega) (by have := hBY.size; simp; omega) ?_; intro v' w6 hown6 hg6 hat6; obtain ⟨ad', c', rfl⟩ := powns_shape hown6; obtain ⟨q1, q2, q3, q4⟩ := HKP.out _ _ (b1 _) hg6)
      all_goals
        have hP7 := (hPY.under (b1 _)).begins (a := pc.fst) hown6 hg6 hat6
        have hB7 := q4.setCell (p := ⟨w.heap.size, 0, none⟩) (Nat.le_refl _) (.slice ad' (D2.bg.length + 1) c')
        have p7 : PB (w6.setCell ⟨w.heap.size, 0, none⟩ (.slice ad' (D2.bg.length + 1) c')) O pc := ((Below.heap_setCell _ _ _ _ (show O ≠ w.heap.size by omega)).trans q3).trans pY
        clear hown6 hg6 hat6 q1 q2 q3 q4
        generalize (Value.slice ad' (D2.bg.length + 1) c') = vb7 at *
        generalize w6.setCell ⟨w.heap.size, 0, none⟩ vb7 = Z at *
        have hD3 : D2.good m := hlay.g
        have hpg : pc.good D2.nx.length := hlay.p
        have HD : Hid (MS = ((D2.beg (D2.bg ++ [pc.fst])).lnk pc.lst (S2.bit (64 + m))).end (D2.en.or (S2.bit (64 + m)))) := HS
        go_wp2_with fail
        refine (with_end m (by omega) Z).mono ?_
        rintro e w8 ⟨rfl, hB8⟩
        have hbk : (S2.bit (64 + m)).ok := S2.bit_ok (by omega)
        have hP8 := hP7.under hB8
        have hB8' : Below w.heap.size w w8 := hB7.trans (hB8.mono hB7.size)
        have p8 : PB w8 O pc := p7.below hB8
        have hE : Below w8.heap.size w8 (w8.alloc (.cells #[.int .u64 ((S2.bit (64 + m)).1 : Int), .int .u64 ((S2.bit (64 + m)).2 : Int)] 58)) := (Below.refl _ _).alloc (Nat.le_refl _) _
        have zE : ZB (w8.alloc (.cells #[.int .u64 ((S2.bit (64 + m)).1 : Int), .int .u64 ((S2.bit (64 + m)).2 : Int)] 58)) w8.heap.size (S2.bit (64 + m)) := heap_alloc_at _ _
        have pE : PB (w8.alloc (.cells #[.int .u64 ((S2.bit (64 + m)).1 : Int), .int .u64 ((S2.bit (64 + m)).2 : Int)] 58)) O pc := p8.below hE
        have c2 := pE.c2
        have c3 := pE.c3
        have z0 := zE.c0
        have z1 := zE.c1
        generalize S2.bit (64 + m) = bt at *
        go_wp2_with fail
        clear c2 c3 z0 z1
        have hPE := hP8.under hE
        have hBE : Below w.heap.size w (w8.alloc (.cells #[.int .u64 (bt.1 : Int), .int .u64 (bt.2 : Int)] 58)) := hB8'.trans (hE.mono hB8'.size)
        have hoE : vn2.ownBlock ≠ some w8.heap.size := fun e => by have := (hP8.on.lt e).1; omega
        have hpE : w8.heap.size ≠ w.heap.size := by have := hP8.lt; omega
        generalize (w8.alloc (.cells #[.int .u64 (bt.1 : Int), .int .u64 (bt.2 : Int)] 58)) = E at *
        generalize w8.heap.size = EB at *
        refine (link_any w.heap.size h1 (D2.beg (D2.bg ++ [pc.fst])) w.heap.size vb7 vn2 pc.lst bt hpg.ok.lst hbk hD3.fine.nx hpg.ok.lf E hPE (hTab.below hBE (by omega))).mono ?_
        rintro e w9 ⟨rfl, hP9, hT9⟩
        have zE9 : ZB w9 EB bt := (hT9.block _ zE.lt hoE).trans zE
        have hB9 : Below w.heap.size w w9 := hBE.trans (hT9.toBelow hBE.size (fun j hj e => by have := (hPE.on.lt e).2; omega))
        have mixed : Tryd.prog.follows .mixedOrders = true := by kernel_rfl
        have k0 : ∀ W', Below w9.heap.size w9 W' → ZB W' EB bt := fun W' h => (h.block _ zE9.lt).trans zE9
        have k1 : ∀ W', Below w9.heap.size w9 W' → PlanIn w.heap.size W' w.heap.size vb7 vn2 ((D2.beg (D2.bg ++ [pc.fst])).lnk pc.lst bt) := fun W' h => hP9.under h
        have hen : D2.en.ok := hD3.fine.en
        go_wp2_with fail
        refine (wpIn_wide (n := 5)).1 (region_tail (C := fun W' => Below w9.heap.size w9 W') 9 (by kernel_rfl) mixed (by kernel_rfl) ((Below.refl _ _).drew) rfl ?_)
        dsimp only [List.take]
        refine wpQuietIn_step (fun _ _ _ _ => trivial) (fun K hK => ?_)
        go_simp
        refine ⟨_, fun _ _ => rfl, hK _ ?_⟩
        clear hK K
        refine wpQuietIn_step (fun _ _ _ _ => trivial) (fun K hK => ?_)
        go_simp
        refine ⟨_, fun _ _ => rfl, hK _ ?_⟩
        clear hK K
        refine wpQuietIn_step (fun _ _ _ _ => trivial) (fun K hK => ?_)
        go_simp
        refine ⟨_, fun _ _ => rfl, hK _ ?_⟩
        clear hK K
        refine wpQuietIn_step (fun _ _ _ _ => trivial) (fun K hK => ?_)
        go_simp
        refine ⟨_, fun _ _ => rfl, hK _ ?_⟩
        clear hK K
        refine wpQuietIn_step (fun _ _ _ _ => trivial) (fun K hK => ?_)
        go_simp
        refine ⟨.agg #[.int .u64 (D2.en.1 : Int), .int .u64 (D2.en.2 : Int)], fun w' hC => by have h := (k1 w' hC).ce; have h1 : w'.cell? ⟨w.heap.size, 514, none⟩ = some (.int .u64 (D2.en.1 : Int)) := h.1; have h2 : w'.cell? ⟨w.heap.size, 515, none⟩ = some (.int .u64 (D2.en.2 : Int)) := h.2; simp [h1, h2], hK _ ?_⟩
        clear hK K
        refine wpQuietIn_step (fun _ _ _ _ => trivial) (fun K hK => ?_)
        go_simp
        refine ⟨.agg #[.int .u64 (bt.1 : Int), .int .u64 (bt.2 : Int)], fun w' hC => by simp [(k0 w' hC).c0, (k0 w' hC).c1], hK _ ?_⟩
        clear hK K
        refine wpQuietIn_step (fun _ _ _ _ => trivial) (fun K hK => ?_)
        go_simp
        refine ⟨_, fun w' hC => (callsIn_wide.2 (union_nat D2.en bt hen hbk w')).mono (fun e w'' hx => ⟨hx.1, hC.trans (hx.2.mono hC.size)⟩), hK _ ?_⟩
        clear hK K
        refine wpQuietIn_step (fun _ _ _ _ => trivial) (fun K hK => ?_)
        go_simp
        refine ⟨_, fun _ _ => rfl, hK _ ?_⟩
        clear hK K
        refine wpQuietIn_step (fun _ _ _ _ => trivial) (fun K hK => ?_)
        go_simp
        refine ⟨_, fun _ _ => rfl, hK _ ?_⟩
        clear hK K
        refine wpQuietIn_nil ?_
        intro w10 hB10
        have hP10 := k1 w10 hB10
        have d0 := hP10.ce.1
        have d1 := hP10.ce.2
        have df := hP10.fz
        have hB10' : Below w.heap.size w w10 := hB9.trans (hB10.mono hB9.size)
        clear k0 k1
        rw [wpOpsIn_cons]
        refine wpOpIn_step rfl (fun K hK => ?_)
        go_simp
        refine hK _ _ ?_
        clear hK K
        simp only [wpOpsIn]
        have hPe := hP10.ends (D2.en.or bt)
        have hBe := (hB10'.setCell (p := ⟨w.heap.size, 514, none⟩) (Nat.le_refl _) (.int .u64 ((D2.en.or bt).1 : Int))).setCell (p := ⟨w.heap.size, 515, none⟩) (Nat.le_refl _) (.int .u64 ((D2.en.or bt).2 : Int))
        clear d0 d1 df hP10 hB10' hB10
        go_wp2_with fail
        go_roundg (gk - 1)
        case measure => omega
        case rel =>
          refine ⟨m + 1, by omega, by go_num, vb7, vn2, MS, by rw [HD.out]; exact hPe, hws.1, ?_, ?_, hBe⟩
          · have := hws.2; omega
          · rw [← HMK.out, HL1.out]
    · have hme : m = xs.length := by omega
      subst hme
      have hE : mkAll 0 ts PlD.none = D := by
        rw [← HMK.out, List.drop_eq_nil_of_le (by have := HL.out; omega)]; rfl
      have HE := hid hE
      clear hE
      go_wp2_with fail
      go_ret
      have hlen : D.nx.length ≤ 64 := by omega
      exact ⟨_, _, _, rfl, by rw [HE.out]; exact hP, by rw [HE.out]; exact hW, by rw [HE.out]; exact hlen, hBr⟩
end Go.Proofs.YtjhmlcilabnlbaaDoor
/- States: a map whose keys are sets and whose values point to rows. -/
namespace Go.Proofs.YtjhmlcilabnlbaaDoor
open Go.RowKit Go.Shelf

theorem Tryd.pw0 (w : World) (a0 a1 : Int) : (part 44 #[.int .u64 a0, .int .u64 a1] 0).run Tryd.prog w = .ok (.int .u64 a0) w := by kernel_rfl
theorem Tryd.pw1 (w : World) (a0 a1 : Int) : (part 44 #[.int .u64 a0, .int .u64 a1] 1).run Tryd.prog w = .ok (.int .u64 a1) w := by kernel_rfl
theorem run_equal2 (w : World) (a0 a1 b0 b1 : Int) : (Op.equalIn 10000 58 (.agg #[.int .u64 a0, .int .u64 a1]) (.agg #[.int .u64 b0, .int .u64 b1])).run Tryd.prog w = .ok (a0 == b0 && a1 == b1) w := by
  obtain ⟨i, hi⟩ := Tryd.info33
  rw [run_equalIn_array w 9999 _ _ Tryd.underlying58 hi, Tryd.cells33]
  have e : ∀ (w : World) (a b : Int), (Op.equalIn 9999 44 (.int .u64 a) (.int .u64 b)).run Tryd.prog w = .ok (a == b) w := fun w a b => run_equalIn_int w 9998 44 .u64 .u64 a b Tryd.underlying44
  have p0 := Tryd.pw0
  have p1 := Tryd.pw1
  rw [show List.range 2 = [0, 1] from rfl]
  simp only [Op.eqItems, Sem.run_bind, p0, e, Result.andThen_ok, Nat.zero_mul]
  cases h0 : (a0 == b0) <;> cases h1 : (a1 == b1) <;> simp [h1, p1, e]
def keyV (a : S2) : Value := .agg #[.int .u64 (a.1 : Int), .int .u64 (a.2 : Int)]
theorem key_eq (a b : S2) : (((a.1 : Int) == (b.1 : Int)) && ((a.2 : Int) == (b.2 : Int))) = decide (a = b) := by
  obtain ⟨a0, a1⟩ := a
  obtain ⟨b0, b1⟩ := b
  rw [Bool.eq_iff_iff]
  simp
  omega
theorem run_check2 (e : Bool) (w : World) (a0 a1 : Int) : (Instr.checkKey e 10000 58 (.agg #[.int .u64 a0, .int .u64 a1])).run Tryd.prog w = .ok () w := by
  cases e <;> kernel_rfl

/-- The row of a set. -/
def lookM (l : List (S2 × Nat)) (a : S2) : Option Nat := (l.find? (fun x => decide (a = x.1))).map (·.2)
def entV (x : S2 × Nat) : Value × Value := (keyV x.1, .pointer (some ⟨x.2, 0, none⟩))
/-- The map in memory. -/
def MapAt (w : World) (mb : Nat) (l : List (S2 × Nat)) : Prop := ∃ es clock, w.heap[mb]? = some (.map es clock) ∧ es.toList.map (fun e => (e.key, e.val)) = l.map entV

theorem find_asking (w : World) (a : S2) (es : List MapEntry) : ∀ (l : List (S2 × Nat)) (i : Nat), es.map (fun e => (e.key, e.val)) = l.map entV →
    ∃ r, (Instr.findAsking 58 (keyV a) es i).run Tryd.prog w = .ok r w ∧ r.map (·.2) = (lookM l a).map (fun n => Value.pointer (some ⟨n, 0, none⟩)) := by
  induction es with
  | nil =>
    intro l i h
    cases l with
    | nil => exact ⟨none, by simp [Instr.findAsking], rfl⟩
    | cons x xs => simp at h
  | cons e es ih =>
    intro l i h
    cases l with
    | nil => simp at h
    | cons x xs =>
      simp only [List.map_cons, List.cons.injEq] at h
      obtain ⟨h0, h1⟩ := h
      have hk : e.key = keyV x.1 := congrArg Prod.fst h0
      have hv : e.val = .pointer (some ⟨x.2, 0, none⟩) := congrArg Prod.snd h0
      have he : (Op.equal 58 (keyV a) e.key).run Tryd.prog w = .ok (decide (a = x.1)) w := by
        rw [hk, ← key_eq]
        exact run_equal2 w _ _ _ _
      by_cases hax : a = x.1
      · refine ⟨some (i, e.val), ?_, ?_⟩
        · rw [decide_eq_true hax] at he
          simp [Instr.findAsking, he, Result.andThen]
        · simp [lookM, hax, hv]
      · obtain ⟨r, hr, hr2⟩ := ih xs (i + 1) h1
        refine ⟨r, ?_, ?_⟩
        · rw [decide_eq_false hax] at he
          simp [Instr.findAsking, he, Result.andThen, hr]
        · rw [hr2]; simp [lookM, hax]

theorem find_key (w : World) (a : S2) (es : List MapEntry) (l : List (S2 × Nat)) (h : es.map (fun e => (e.key, e.val)) = l.map entV) :
    ∃ r, (Instr.findKey 58 (keyV a) es).run Tryd.prog w = .ok r w ∧ r.map (·.2) = (lookM l a).map (fun n => Value.pointer (some ⟨n, 0, none⟩)) := by
  cases es with
  | nil =>
    cases l with
    | nil => exact ⟨none, by simp [Instr.findKey, run_underlying Tryd.underlying58, Instr.findNow], rfl⟩
    | cons x xs => simp at h
  | cons e es =>
    obtain ⟨r, hr, hr2⟩ := find_asking w a (e :: es) l 0 h
    exact ⟨r, by simp [Instr.findKey, run_underlying Tryd.underlying58, Instr.findNow, Instr.sameNow, hr], hr2⟩

theorem look_run {w : World} {mb : Nat} {l : List (S2 × Nat)} (h : MapAt w mb l) (a : S2) :
    (Instr.lookup 88 (.map (some mb)) (.agg #[.int .u64 (a.1 : Int), .int .u64 (a.2 : Int)]) false).run Tryd.prog w = .ok (.pointer ((lookM l a).map fun n => ⟨n, 0, none⟩)) w := by
  obtain ⟨es, clock, hb, he⟩ := h
  obtain ⟨r, hr, hr2⟩ := find_key w a es.toList l he
  have hc := run_check2 es.isEmpty w (a.1 : Int) (a.2 : Int)
  unfold keyV at hr
  have hz : (zeroValue 124).run Tryd.prog w = .ok (.pointer none) w := by kernel_rfl
  cases r with
  | none =>
    have hn : lookM l a = none := by simpa using hr2.symm
    simp [Instr.lookup, run_underlying Tryd.underlying88, MapKept.run_getObj_map hb, hc, hr, hz, Result.andThen, hn]
  | some r =>
    obtain ⟨i, v⟩ := r
    obtain ⟨n, hn, hn2⟩ : ∃ n, lookM l a = some n ∧ v = .pointer (some ⟨n, 0, none⟩) := by
      cases hl : lookM l a with
      | none => rw [hl] at hr2; simp at hr2
      | some n => rw [hl] at hr2; exact ⟨n, rfl, by simpa using hr2⟩
    simp [Instr.lookup, run_underlying Tryd.underlying88, MapKept.run_getObj_map hb, hc, hr, Result.andThen, hn, hn2]
end Go.Proofs.YtjhmlcilabnlbaaDoor
/- States: hold. -/
namespace Go.Proofs.YtjhmlcilabnlbaaDoor
open Go.RowKit Go.Shelf

attribute [local go_sem] Oper.semAt_some

theorem run_zero2 (w : World) (a : S2) : (Op.equalIn 10000 58 (.agg #[.int .u64 (a.1 : Int), .int .u64 (a.2 : Int)]) (.agg #[.int .u64 0, .int .u64 0])).run Tryd.prog w = .ok (decide (a = (0, 0))) w := by
  have h := run_equal2 w (a.1 : Int) (a.2 : Int) 0 0
  have hk : (((a.1 : Int) == 0) && ((a.2 : Int) == 0)) = decide (a = (0, 0)) := key_eq a (0, 0)
  rw [hk] at h
  exact h
theorem upd_run {w : World} {mb : Nat} {l : List (S2 × Nat)} (h : MapAt w mb l) (a : S2) (hn : lookM l a = none) (r : Nat) :
    ∃ o, (Instr.mapUpdate 88 (.map (some mb)) (.agg #[.int .u64 (a.1 : Int), .int .u64 (a.2 : Int)]) (.pointer (some ⟨r, 0, none⟩))).run Tryd.prog w = .ok () { w with heap := w.heap.setIfInBounds mb o } ∧ MapAt { w with heap := w.heap.setIfInBounds mb o } mb (l ++ [(a, r)]) := by
  obtain ⟨es, clock, hb, he⟩ := h
  obtain ⟨f, hf, hf2⟩ := find_key w a es.toList l he
  have hc := run_check2 false w (a.1 : Int) (a.2 : Int)
  unfold keyV at hf
  rw [hn] at hf2
  have hfn : f = none := by cases f with
    | none => rfl
    | some x => simp at hf2
  subst hfn
  refine ⟨.map (es.push ⟨keyV a, .pointer (some ⟨r, 0, none⟩), clock⟩) (clock + 1), ?_, es.push ⟨keyV a, .pointer (some ⟨r, 0, none⟩), clock⟩, clock + 1, ?_, ?_⟩
  · simp [Instr.mapUpdate, run_underlying Tryd.underlying88, MapKept.run_getObj_map hb, hc, hf, Result.andThen, MapKept.run_setObj_map _ hb, keyV]
  · have := (Array.getElem?_eq_some_iff.1 hb).1
    simp [this]
  · simp [he, entV]

/-- The table's own block: the plan, the room, once's words, the first state, the lock's words, the map. -/
def TB (w : World) (t p room : Nat) (dn s1 : Int) (f : S2) (s2 : Int) (mb : Nat) : Prop :=
  w.heap[t]? = some (.cells #[.pointer (some ⟨p, 0, none⟩), .int .i64 (room : Int), .int .u32 dn, .int .i32 s1, .int .u32 0, .int .u64 (f.1 : Int), .int .u64 (f.2 : Int), .int .i32 s2, .int .u32 0, .map (some mb)] 102 (0, 0))
theorem TB.lt {w : World} {t p room : Nat} {dn s1 : Int} {f : S2} {s2 : Int} {mb : Nat} (h : TB w t p room dn s1 f s2 mb) : t < w.heap.size := (Array.getElem?_eq_some_iff.1 h).1
theorem TB.cell {w : World} {t p room : Nat} {dn s1 : Int} {f : S2} {s2 : Int} {mb : Nat} (h : TB w t p room dn s1 f s2 mb) (j : Nat) : w.cell? ⟨t, j, none⟩ = #[Value.pointer (some ⟨p, 0, none⟩), .int .i64 (room : Int), .int .u32 dn, .int .i32 s1, .int .u32 0, .int .u64 (f.1 : Int), .int .u64 (f.2 : Int), .int .i32 s2, .int .u32 0, .map (some mb)][j]? := by
  unfold World.cell?
  rw [show w.heap[t]? = _ from h]
  rfl
theorem TB.fz {w : World} {t p room : Nat} {dn s1 : Int} {f : S2} {s2 : Int} {mb : Nat} (h : TB w t p room dn s1 f s2 mb) (j : Nat) : w.frozen? ⟨t, j, none⟩ = false := by
  simp [World.frozen?, show w.heap[t]? = _ from h]
theorem MapAt.lt {w : World} {mb : Nat} {l : List (S2 × Nat)} (h : MapAt w mb l) : mb < w.heap.size := by
  obtain ⟨es, clock, hb, -⟩ := h
  exact (Array.getElem?_eq_some_iff.1 hb).1
theorem MapAt.keep {w w' : World} {mb : Nat} {l : List (S2 × Nat)} (h : MapAt w mb l) (k : w'.heap[mb]? = w.heap[mb]?) : MapAt w' mb l := by
  obtain ⟨es, clock, hb, he⟩ := h
  exact ⟨es, clock, k.trans hb, he⟩

theorem len_run {w : World} {mb : Nat} {l : List (S2 × Nat)} (h : MapAt w mb l) : (Builtin.len_ #[88] 3 #[.map (some mb)]).run Tryd.prog w = .ok (.int .i64 (l.length : Int)) w := by
  obtain ⟨es, clock, hb, he⟩ := h
  have hsz : es.size = l.length := by have := congrArg List.length he; simpa using this
  simp [Builtin.len_, run_underlying Tryd.underlying88, MapKept.run_getObj_map hb, Result.andThen, goInt, hsz]

/-- A row in which nothing is known. -/
def RowZ (w : World) (r : Nat) : Prop := w.heap[r]? = some (.cells Tryd.zeroCells130 130 (0, 0))
/-- What hold comes to: nothing, or a new row. -/
def HoldO (l : List (S2 × Nat)) (a : S2) (room mb : Nat) (w w' : World) : Prop :=
  (((a = (0, 0) ∨ lookM l a ≠ none ∨ room ≤ l.length) ∧ MapAt w' mb l ∧ Below w.heap.size w w') ∨
   (a ≠ (0, 0) ∧ lookM l a = none ∧ l.length < room ∧ ∃ r, w.heap.size ≤ r ∧ MapAt w' mb (l ++ [(a, r)]) ∧ RowZ w' r ∧ Turn (fun k => k = mb) w w'))

set_option maxRecDepth 100000 in
set_option maxHeartbeats 4000000 in
theorem hold_any (t p room : Nat) (dn s1 : Int) (f : S2) (s2 : Int) (mb : Nat) (l : List (S2 × Nat)) (a : S2) (w : World) (hB : TB w t p room dn s1 f s2 mb) (hM : MapAt w mb l) :
    Calls Tryd.prog 53 #[.pointer (some ⟨t, 0, none⟩), .agg #[.int .u64 (a.1 : Int), .int .u64 (a.2 : Int)]] w fun e w' => e = .returned (.tuple #[]) ∧ HoldO l a room mb w w' := by
  have hW : Below w.heap.size w (w.alloc (.cells #[.int .u64 (a.1 : Int), .int .u64 (a.2 : Int)] 58)) := (Below.refl _ _).alloc (Nat.le_refl _) _
  have hMl := hM.lt
  have hTl := hB.lt
  have HA : Hid ((a = (0, 0) ∨ lookM l a ≠ none ∨ room ≤ l.length) → ∀ w', Below w.heap.size w w' → HoldO l a room mb w w') := fun h w' hb => Or.inl ⟨h, hM.keep (hb.block _ hMl), hb⟩
  go_enter Tryd.func53, Tryd.ntmps53
  go_wp2_with fail
  have zb : ZB (w.alloc (.cells #[.int .u64 (a.1 : Int), .int .u64 (a.2 : Int)] 58)) w.heap.size a := heap_alloc_at _ _
  have hB1 : TB (w.alloc (.cells #[.int .u64 (a.1 : Int), .int .u64 (a.2 : Int)] 58)) t p room dn s1 f s2 mb := heap_alloc_old hB hTl
  have hM1 : MapAt (w.alloc (.cells #[.int .u64 (a.1 : Int), .int .u64 (a.2 : Int)] 58)) mb l := hM.keep (Below.heap_alloc _ _ _ hMl)
  generalize (w.alloc (.cells #[.int .u64 (a.1 : Int), .int .u64 (a.2 : Int)] 58)) = V at *
  have z0 := zb.c0
  have z1 := zb.c1
  have t1 := hB1.cell 1
  have t9 := hB1.cell 9
  simp only [List.getElem?_toArray, List.getElem?_cons_succ, List.getElem?_cons_zero] at t1 t9
  have hne : ∀ w, (Op.equalIn 10000 58 (.agg #[.int .u64 (a.1 : Int), .int .u64 (a.2 : Int)]) (.agg #[.int .u64 0, .int .u64 0])).run Tryd.prog w = .ok (decide (a = (0, 0))) w := fun w => run_zero2 w a
  have hlen : ∀ n, (Builtin.len_ #[88] 3 #[.map (some mb)]).run Tryd.prog (V.drewN n) = .ok (.int .i64 (l.length : Int)) (V.drewN n) := fun n => len_run (w := V.drewN n) (hM1.keep rfl)
  have hlook : ∀ n, (Instr.lookup 88 (.map (some mb)) (.agg #[.int .u64 (a.1 : Int), .int .u64 (a.2 : Int)]) false).run Tryd.prog (V.drewN n) = .ok (.pointer ((lookM l a).map fun n => ⟨n, 0, none⟩)) (V.drewN n) := fun n => look_run (w := V.drewN n) (hM1.keep rfl) a
  by_cases ha : a = (0, 0)
  · have HF := hid (HA.out (Or.inl ha))
    have hd : decide (a = (0, 0)) = true := decide_eq_true ha
    rw [hd] at hne
    clear ha hd HA
    go_quiet (fail)
    go_wp2_with fail
    go_end0
    exact ⟨rfl, HF.out _ (hW.trans ⟨rfl, rfl, rfl, Nat.le_refl _, fun _ _ => rfl⟩)⟩
  · have hd : decide (a = (0, 0)) = false := decide_eq_false ha
    rw [hd] at hne
    have HNA := hid ha
    clear ha hd
    cases hlk : lookM l a with
    | some r =>
      have HF := hid (HA.out (Or.inr (Or.inl (by rw [hlk]; simp))))
      rw [hlk] at hlook
      clear hlk HA
      simp only [Option.map_some] at hlook
      go_quiet (fail)
      go_wp2_with fail
      go_end0
      exact ⟨rfl, HF.out _ (hW.trans ⟨rfl, rfl, rfl, Nat.le_refl _, fun _ _ => rfl⟩)⟩
    | none =>
      have HLK := hid hlk
      rw [hlk] at hlook
      simp only [Option.map_none] at hlook
      by_cases hroom : l.length < room
      · have hrI : (l.length : Int) < (room : Int) := by omega
        clear hlk HA
        go_quiet (fail)
        go_wp2_with fail
        have hU : Below w.heap.size w (V.drewN nq) := hW.trans ⟨rfl, rfl, rfl, Nat.le_refl _, fun _ _ => rfl⟩
        have zbU : ZB (V.drewN nq) w.heap.size a := zb
        have hBU : TB (V.drewN nq) t p room dn s1 f s2 mb := hB1
        have hMU : MapAt (V.drewN nq) mb l := hM1.keep rfl
        clear z0 z1 t1 t9 hne hlen hlook zb hB1 hM1 hW
        generalize V.drewN nq = U at *
        have hA : Below U.heap.size U (U.alloc (.cells Tryd.zeroCells130 130)) := (Below.refl _ _).alloc (Nat.le_refl _) _
        have z0 := zbU.c0
        have z1 := zbU.c1
        have t9 := hBU.cell 9
        simp only [List.getElem?_toArray, List.getElem?_cons_succ, List.getElem?_cons_zero] at t9
        have y0 := (hA.cell (p := ⟨w.heap.size, 0, none⟩) zbU.lt).trans z0
        have y1 := (hA.cell (p := ⟨w.heap.size, 1, none⟩) zbU.lt).trans z1
        have y9 := (hA.cell (p := ⟨t, 9, none⟩) hBU.lt).trans t9
        have hMA : MapAt (U.alloc (.cells Tryd.zeroCells130 130)).drew mb l := hMU.keep (hA.block _ hMU.lt)
        obtain ⟨o, ho, hMo⟩ := upd_run hMA a HLK.out U.heap.size
        go_region
        all_goals
          go_wp2_with fail
          go_end0
          refine ⟨rfl, Or.inr ⟨HNA.out, HLK.out, hroom, U.heap.size, hU.size, hMo, ?_, ?_⟩⟩
          · have hml := hMU.lt
            show (_ : Array Obj)[U.heap.size]? = _
            rw [Array.getElem?_setIfInBounds_ne (by omega)]
            exact heap_alloc_at _ _
          · refine ⟨hU.os, hU.tape, hU.output, ?_, fun k hk hne => ?_⟩
            · have := hU.size
              simp
              omega
            · show (_ : Array Obj)[k]? = _
              rw [Array.getElem?_setIfInBounds_ne (fun e => hne e.symm)]
              exact (hA.block k (Nat.lt_of_lt_of_le hk hU.size)).trans (hU.block k hk)
      · have hrI : ¬ (l.length : Int) < (room : Int) := by omega
        have HF := hid (HA.out (Or.inr (Or.inr (by omega))))
        clear hlk HA
        go_quiet (fail)
        go_wp2_with fail
        go_end0
        exact ⟨rfl, HF.out _ (hW.trans ⟨rfl, rfl, rfl, Nat.le_refl _, fun _ _ => rfl⟩)⟩
end Go.Proofs.YtjhmlcilabnlbaaDoor
/- States: the lock, and once's marks, at this program's numbers. -/
namespace Go.Proofs.YtjhmlcilabnlbaaDoor
open Go.RowKit Go.Shelf

attribute [local go_sem] Oper.semAt_some

theorem mDisable (w : World) : (callFunc 70 #[]).run Tryd.prog w = .ok (.value (.tuple #[])) w := run_call_mark0 Tryd.func70 (by kernel_rfl) (by kernel_rfl) (by kernel_rfl) .disable (by kernel_rfl) w
theorem mEnable (w : World) : (callFunc 72 #[]).run Tryd.prog w = .ok (.value (.tuple #[])) w := run_call_mark0 Tryd.func72 (by kernel_rfl) (by kernel_rfl) (by kernel_rfl) .enable (by kernel_rfl) w
theorem mAcquire (a : Addr) (w : World) : (callFunc 73 #[.pointer (some a)]).run Tryd.prog w = .ok (.value (.tuple #[])) w := run_call_marked Tryd.func73 (by kernel_rfl) (by kernel_rfl) (by kernel_rfl) .acquire (by kernel_rfl) a w
theorem mRelease (a : Addr) (w : World) : (callFunc 75 #[.pointer (some a)]).run Tryd.prog w = .ok (.value (.tuple #[])) w := run_call_marked Tryd.func75 (by kernel_rfl) (by kernel_rfl) (by kernel_rfl) .releaseMerge (by kernel_rfl) a w

set_option maxRecDepth 100000 in
set_option maxHeartbeats 1600000 in
/-- Lock, at a lock that is free. -/
theorem lock_any (a : Addr) (w : World) (hc : w.cell? a = some (.int .i32 0)) (hz : w.frozen? a = false) :
    Calls Tryd.prog 50 #[.pointer (some a)] w fun e w' => e = .returned (.tuple #[]) ∧ w' = w.setCell a (.int .i32 1) := by
  have hd := mDisable
  have he := mEnable
  have ha := mAcquire
  have hcas := run_call_cas_hit (P := Tryd.prog) Tryd.func71 (by kernel_rfl) (by kernel_rfl) (by kernel_rfl) .i32 (by kernel_rfl) (y := 1) hc hz
  have hc' : (w.setCell a (.int .i32 1)).cell? a = some (.int .i32 1) := World.cell?_setCell_same w a _ hc
  have hcv := run_convert_to_unsafe (P := Tryd.prog) (src := 138) (dst := 142) Tryd.underlying138 Tryd.underlying142 (by kernel_rfl) hc'
  go_enter Tryd.func50, Tryd.ntmps50
  go_wp2
  first | go_end0 | (simp only [Exit.inBlock, Exit.then]; refine bodyPost_ret (results_none rfl _ _ _) rfl ?_) | refine bodyPost_ret (results_none rfl _ _ _) rfl ?_
  go_wp2
  go_end0
  exact ⟨rfl, rfl⟩

set_option maxRecDepth 100000 in
set_option maxHeartbeats 1600000 in
/-- Unlock as a deferred call, at a lock that is held and that nobody waits for. -/
theorem unlock_any (a : Addr) (u : FrameMode) (w : World) (hc : w.cell? a = some (.int .i32 1)) (hz : w.frozen? a = false) :
    CallsD Tryd.prog 51 #[.pointer (some a)] u w fun e u' w' => u' = u ∧ (e = .returned (.tuple #[]) ∧ w' = w.setCell a (.int .i32 0)) := by
  have hd := mDisable
  have he := mEnable
  have hr := mRelease
  have hadd := run_call_add (P := Tryd.prog) Tryd.func76 (by kernel_rfl) (by kernel_rfl) (by kernel_rfl) .i32 (by kernel_rfl) (y := -1) (s := 0) hc hz (by simp [go_sem]; rfl)
  have hcv := run_convert_to_unsafe (P := Tryd.prog) (src := 138) (dst := 142) Tryd.underlying138 Tryd.underlying142 (by kernel_rfl) hc
  go_enter_d Tryd.func51, Tryd.ntmps51
  go_wp2
  go_end0
  go_wp2
  go_end0
  exact ⟨rfl, rfl⟩

/-- Done is stored, as a deferred call. -/
theorem store_any (a : Addr) (x : Value) (u : FrameMode) (w : World) (hc : w.cell? a = some x) (hz : w.frozen? a = false) :
    CallsD Tryd.prog 69 #[.pointer (some a), .bool true] u w fun e u' w' => u' = u ∧ (e = .returned (.tuple #[]) ∧ w' = w.drew.setCell a (.int .u32 1)) := by
  have hc' : w.drew.cell? a = some x := by go_simp
  have hz' : w.drew.frozen? a = false := by go_simp
  have hst := run_call_store (P := Tryd.prog) Tryd.func85 (by kernel_rfl) (by kernel_rfl) (by kernel_rfl) (by kernel_rfl) (k := .u32) (y := 1) hc' hz'
  go_enter_d Tryd.func69, Tryd.ntmps69
  go_wp2
  go_region_calls
  all_goals (go_end0; exact ⟨rfl, rfl⟩)

/-- Do, done already: the function is not called. -/
theorem do_done (a : Addr) (fv : Value) (w : World) (h0 : w.cell? a = some (.int .u32 1)) :
    Calls Tryd.prog 48 #[.pointer (some a), fv] w fun e w' => e = .returned (.tuple #[]) ∧ w' = w := by
  have hl := run_call_load (P := Tryd.prog) Tryd.func68 (by kernel_rfl) (by kernel_rfl) (by kernel_rfl) .u32 (by kernel_rfl) h0
  have hnot : ∀ (x : Bool) (w : World), (Op.unary .not (.bool x)).run Tryd.prog w = .ok (.bool (!x)) w := fun _ _ => rfl
  go_enter Tryd.func48, Tryd.ntmps48
  go_wp2
  go_end0
  exact ⟨rfl, rfl⟩
end Go.Proofs.YtjhmlcilabnlbaaDoor
