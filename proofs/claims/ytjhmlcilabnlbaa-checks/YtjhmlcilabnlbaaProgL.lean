/- The program: the atom of any byte but one. -/
import Derived.Test.YtjhmlcilabnlbaaProgK
namespace Go.Proofs.Ytjhmlcilabnlbaa
open Go.RowKit
set_option maxHeartbeats 4000000 in
theorem patom_dot (F b : Nat) (s : ByteArray) (i o : Nat) (w : World) (hs : s.size ≤ 400) (hR : QB w b s i o) (hc : P.bt s i = 46) :
    Calls Try.prog 38 #[.pointer (some ⟨b, 0, none⟩)] w fun e w' => OutD s b o (P.atom s (F + 1) o i) w e w' := by
  have hlt := hR.lt
  have hl := lt_of_bt (s := s) (i := i) (by omega)
  have HA : Hid (P.atom s (F + 1) o i = .ok ⟨1, false⟩ (i + 1)) := by
    unfold Hid P.atom P.leafAt; simp only [hc]; rfl
  have b1 : (pk s i == 40) = false := by rw [pk_eq (by omega), hc]; rfl
  have b2 : (pk s i == 91) = false := by rw [pk_eq (by omega), hc]; rfl
  have b3 : (pk s i == 46) = true := by rw [pk_eq (by omega), hc]; rfl
  clear hc
  have hQ0 : QB ((w.alloc (.cells #[.int .i64 0, .int .u64 0, .int .u64 0, .int .u64 0, .int .u64 0, .slice none 0 0, .bool false, .bool false] 38)).alloc (.cells #[.int .u64 0, .int .u64 0, .int .u64 0, .int .u64 0] 35)) b s i o := heap_alloc_old (heap_alloc_old hR hlt) (by simp; omega)
  have c1 := hQ0.c1
  have f1 := hQ0.fz 1
  go_enter Try.func38, Try.ntmps38
  go_wp2_with fail
  refine (peek_any _ _ _ _ _ hQ0).mono ?_
  rintro e w1 ⟨rfl, n1, rfl⟩
  go_wp2_with fail
  refine (span_any 10 10 _ (by omega) (by omega) (by omega)).mono ?_
  rintro e w1 ⟨c0, c1', c2, c3, rfl, hW1, hB1⟩
  clear hW1
  go_wp2_with fail
  refine (rest_any _ _ _ _ _).mono ?_
  rintro e w2 ⟨rfl, hB2⟩
  have hO2 : Only b (((w.alloc (.cells #[.int .i64 0, .int .u64 0, .int .u64 0, .int .u64 0, .int .u64 0, .slice none 0 0, .bool false, .bool false] 38)).alloc (.cells #[.int .u64 0, .int .u64 0, .int .u64 0, .int .u64 0] 35)).drewN n1) w2 := (Only.setCell (p := ⟨b, 1, none⟩) (Only.refl _ _) rfl _).trans ((Only.ofBelow hB1).trans (Only.ofBelow hB2))
  have hq : QB ((((w.alloc (.cells #[.int .i64 0, .int .u64 0, .int .u64 0, .int .u64 0, .int .u64 0, .slice none 0 0, .bool false, .bool false] 38)).alloc (.cells #[.int .u64 0, .int .u64 0, .int .u64 0, .int .u64 0] 35)).drewN n1).setCell ⟨b, 1, none⟩ (.int .i64 ((i : Int) + 1))) b s (i + 1) o := (hQ0.drewN n1).set1 (by omega)
  have hq1 : QB w1 b s (i + 1) o := (hB1.block b hq.lt).trans hq
  have hR2 : QB w2 b s (i + 1) o := (hB2.block b hq1.lt).trans hq1
  have hw2 := hO2.size
  clear hq hq1
  generalize flipW c0 = a0 at *
  generalize flipW c1' = a1 at *
  generalize flipW c2 = a2 at *
  generalize flipW c3 = a3 at *
  have hS2 : SB w2 (w.heap.size + 1) 0 0 0 0 := by
    refine (hO2.block _ (by simp) (by omega)).trans ?_
    have := heap_alloc_at (w.alloc (.cells #[.int .i64 0, .int .u64 0, .int .u64 0, .int .u64 0, .int .u64 0, .slice none 0 0, .bool false, .bool false] 38)) (.cells #[.int .u64 0, .int .u64 0, .int .u64 0, .int .u64 0] 35)
    rw [show (w.alloc (.cells #[.int .i64 0, .int .u64 0, .int .u64 0, .int .u64 0, .int .u64 0, .slice none 0 0, .bool false, .bool false] 38)).heap.size = w.heap.size + 1 from by simp] at this
    exact this
  have hD2 : DB w2 w.heap.size nd0 := (hO2.block _ (by simp; omega) (by omega)).trans (heap_alloc_old (heap_alloc_at _ _) (by simp))
  have s0 := hS2.c0
  have s1 := hS2.c1
  have s2 := hS2.c2
  have s3 := hS2.c3
  have sf := hS2.fz
  have hD3 := hD2.put4 (g' := w.heap.size + 1) (by omega) (.int .u64 a0) (.int .u64 a1) (.int .u64 a2) (.int .u64 a3)
  have d0 := hD3.c0
  have d1 := hD3.c1
  have d2 := hD3.c2
  have d3 := hD3.c3
  have d4 := hD3.c4
  have d5 := hD3.c5
  have d6 := hD3.c6
  have d7 := hD3.c7
  have df := hD3.fz
  have hD4 := hD3.put8 ⟨0, a0, a1, a2, a3, none, 0, 0, false, false⟩
  have r0 := hD4.c0
  have r1 := hD4.c1
  have r2 := hD4.c2
  have r3 := hD4.c3
  have r4 := hD4.c4
  have r5 := hD4.c5
  have r6 := hD4.c6
  have r7 := hD4.c7
  have hR4 := (heap_put8 ⟨0, a0, a1, a2, a3, none, 0, 0, false, false⟩ (show b ≠ w.heap.size by omega)).trans (hR2.put4 (g := w.heap.size + 1) (by omega) (.int .u64 a0) (.int .u64 a1) (.int .u64 a2) (.int .u64 a3))
  have hO3 : Only b w w2 := ((((Only.refl _ _).alloc _).alloc _).drewN _).trans hO2
  have hO4 := (hO3.put4 (g := w.heap.size + 1) (by omega) (.int .u64 a0) (.int .u64 a1) (.int .u64 a2) (.int .u64 a3)).put8 (g := w.heap.size) (Nat.le_refl _) ⟨0, a0, a1, a2, a3, none, 0, 0, false, false⟩
  clear hD4
  have HR4 := hid hR4
  have HO4 := hid hO4
  clear hR4 hO4
  go_wp2_with fail
  refine bodyPost_ret (v := .tuple #[.agg #[.int .i64 0, .int .u64 a0, .int .u64 a1, .int .u64 a2, .int .u64 a3, .slice none 0 0, .bool false, .bool false], .bool true]) (by simp [results, Try.results38, go_sem, r0, r1, r2, r3, r4, r5, r6, r7]) rfl ⟨⟨0, a0, a1, a2, a3, none, 0, 0, false, false⟩, i + 1, o, true, rfl, HR4.out, fun _ => rfl, HO4.out, by omega, ?_⟩
  rw [HA.out]; exact ⟨rfl, rfl, .one _ _ _ _⟩
end Go.Proofs.Ytjhmlcilabnlbaa
