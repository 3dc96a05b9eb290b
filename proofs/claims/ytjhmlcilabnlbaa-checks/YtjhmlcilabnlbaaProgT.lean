/- The program: rule. -/
import Derived.Test.YtjhmlcilabnlbaaProgS
namespace Go.Proofs.Ytjhmlcilabnlbaa
open Go.RowKit

/-- A rule, handed back. -/
theorem OutR.made {s : ByteArray} {b i j n i2 o2 : Nat} {w w2 : World} {A : P.PR P.T} {R : P.PR P.Rl} {d : Nd} {k : Bool} (hlt : b < w.heap.size) (hO : Only b w w2) (hn : w.heap.size < n) (hQ : QB w2 b s i2 o2) (ho : k = true → o2 = 0) (hi2 : i2 ≤ s.size) (hF : NodeF A w2 n d i2 k) (hR : R = A.bind fun t q => .ok ⟨s.extract i j, i, t⟩ q) (X : Obj) :
    OutR s b R w (.returned (.tuple #[.agg #[.string (s.extract i j), .int .i64 (i : Int), .int .i64 d.k, .int .u64 d.x0, .int .u64 d.x1, .int .u64 d.x2, .int .u64 d.x3, .slice d.pa d.pn d.pc, .bool d.no, .bool d.ag], .bool k])) (put10 (w2.alloc X) w.heap.size (s.extract i j) (i : Int) d) := by
  have hq : QB (put10 (w2.alloc X) w.heap.size (s.extract i j) (i : Int) d) b s i2 o2 := (heap_put10 (by omega)).trans (heap_alloc_old hQ hQ.lt)
  have hO' : Only b w (put10 (w2.alloc X) w.heap.size (s.extract i j) (i : Int) d) := (hO.alloc X).put10 (Nat.le_refl _)
  have h2 : OnlyS (· < n) w2 (put10 (w2.alloc X) w.heap.size (s.extract i j) (i : Int) d) := OnlyS.put10 (S := (· < n)) (fun k hk _ => Below.heap_alloc _ _ _ hk) hn
  generalize put10 (w2.alloc X) w.heap.size (s.extract i j) (i : Int) d = Y at *
  subst hR
  refine ⟨s.extract i j, (i : Int), d, i2, o2, k, rfl, hq, ho, hO', hi2, ?_⟩
  cases A with
  | out => exact hF.elim
  | bad p => exact hF
  | ok t q =>
    obtain ⟨h1, h3, hN⟩ := hF
    exact ⟨h1, h3, rfl, rfl, (hN.only h2).bars (S' := (· < w.heap.size)) (fun j _ hj => by show j < n; have : j < w.heap.size := hj; omega)⟩

set_option maxHeartbeats 1000000 in
theorem prule_any (s : ByteArray) (F b i : Nat) (w : World) (hs : s.size ≤ 400) (hR : QB w b s i 0) (hi : i ≤ s.size) (hP : ∀ j, P.alt s F 0 j ≠ .out) :
    Calls Try.prog 19 #[.pointer (some ⟨b, 0, none⟩)] w fun e w' => OutR s b (P.rule s F i) w e w' := by
  have hlt := hR.lt
  obtain ⟨R, hRd⟩ : ∃ R, R = P.rule s F i := ⟨_, rfl⟩
  rw [← hRd]
  unfold P.rule at hRd
  have hj1 := pnameTo_ge s 8 i
  have hj2 := pnameTo_le s 8 i hi
  obtain ⟨j, hj⟩ : ∃ j, P.nameTo s 8 i = j := ⟨_, rfl⟩
  rw [hj] at hRd hj1 hj2
  have HRd := hid hRd
  have HP := hid hP
  have HJ := hid hj
  clear hRd hP hj
  have hqX : QB (w.alloc (.cells #[.string ⟨#[]⟩, .int .i64 0, .int .i64 0, .int .u64 0, .int .u64 0, .int .u64 0, .int .u64 0, .slice none 0 0, .bool false, .bool false] 40)) b s i 0 := heap_alloc_old hR hlt
  have c1 := hqX.c1
  go_enter Try.func19, Try.ntmps19
  go_wp2_with fail
  refine (name_any b s i 0 _ hs hqX hi).mono ?_
  rintro e w1 ⟨rfl, hR1, hO1⟩
  rw [HJ.out] at hR1 ⊢
  have hw1 := hO1.size
  rw [show (w.alloc (.cells #[.string ⟨#[]⟩, .int .i64 0, .int .i64 0, .int .u64 0, .int .u64 0, .int .u64 0, .int .u64 0, .slice none 0 0, .bool false, .bool false] 40)).heap.size = w.heap.size + 1 from by simp] at hw1
  have hK1 : KB w1 w.heap.size ⟨#[]⟩ 0 ⟨0, 0, 0, 0, 0, none, 0, 0, false, false⟩ := (hO1.block _ (by simp) (by omega)).trans (heap_alloc_at _ _)
  have hO2 : Only b w w1 := ((Only.refl _ _).alloc _).trans hO1
  clear c1 hqX hO1
  by_cases hij : i < j
  · have hij' : decide (i < j) = true := by simp [hij]
    have HR2 : Hid (R = if P.bt s j = 61 then (P.alt s F 0 (j + 1)).bind fun t k => .ok ⟨s.extract i j, i, t⟩ k else .bad j) := by
      unfold Hid; rw [HRd.out, if_neg (by omega)]
    rw [hij']
    go_wp2_with fail
    refine (take_any 61 b s j 0 _ hs hR1 (by omega)).mono ?_
    rintro e w2 ⟨rfl, hQ2, hO3⟩
    have hw2 := hO3.size
    have hK2 : KB w2 w.heap.size ⟨#[]⟩ 0 ⟨0, 0, 0, 0, 0, none, 0, 0, false, false⟩ := (hO3.block _ (by omega) (by omega)).trans hK1
    have hO4 : Only b w w2 := hO2.trans hO3
    cases hah : ahd s j 61 with
    | false =>
      rw [hah, stp_false] at hQ2
      have HRe : Hid (R = .bad j) := by unfold Hid; rw [HR2.out, if_neg (ahd_false hah)]
      have c0 := hK2.c0
      have c1 := hK2.c1
      have c2 := hK2.c2
      have c3 := hK2.c3
      have c4 := hK2.c4
      have c5 := hK2.c5
      have c6 := hK2.c6
      have c7 := hK2.c7
      have c8 := hK2.c8
      have c9 := hK2.c9
      have cf := hK2.fz
      have hC1 := hK2.put10 (nm := ⟨#[]⟩) (p := 0) (d := ⟨0, 0, 0, 0, 0, none, 0, 0, false, false⟩)
      have r0 := hC1.c0
      have r1 := hC1.c1
      have r2 := hC1.c2
      have r3 := hC1.c3
      have r4 := hC1.c4
      have r5 := hC1.c5
      have r6 := hC1.c6
      have r7 := hC1.c7
      have r8 := hC1.c8
      have r9 := hC1.c9
      go_wp2_with fail
      refine bodyPost_ret (v := .tuple #[.agg #[.string ⟨#[]⟩, .int .i64 0, .int .i64 0, .int .u64 0, .int .u64 0, .int .u64 0, .int .u64 0, .slice none 0 0, .bool false, .bool false], .bool false]) (by simp [results, Try.results19, go_sem, r0, r1, r2, r3, r4, r5, r6, r7, r8, r9]) rfl ?_
      exact OutR.zero hlt hO4 hQ2 hj2 HRe.out
    | true =>
      rw [hah, stp_true] at hQ2
      have hbt := ahd_true hah
      have hl := lt_of_bt (s := s) (i := j) (by omega)
      have HRe : Hid (R = (P.alt s F 0 (j + 1)).bind fun t k => .ok ⟨s.extract i j, i, t⟩ k) := by unfold Hid; rw [HR2.out, if_pos hbt]
      clear hbt
      go_wp2_with fail
      refine (peither_any s hs F b 0 (j + 1) _ hQ2 (by omega) (by omega) (HP.out _)).mono ?_
      rintro e w3 ⟨d, i3, o3, k3, rfl, hR3, ho3, hO5, hi3, hf3⟩
      have hw3 := hO5.size
      have hK3 : KB w3 w.heap.size ⟨#[]⟩ 0 ⟨0, 0, 0, 0, 0, none, 0, 0, false, false⟩ := (hO5.block _ (by omega) (by omega)).trans hK2
      have hO6 : Only b w w3 := hO4.trans hO5
      have hK4 : KB (w3.alloc (.cells #[.int .i64 d.k, .int .u64 d.x0, .int .u64 d.x1, .int .u64 d.x2, .int .u64 d.x3, .slice d.pa d.pn d.pc, .bool d.no, .bool d.ag] 38)) w.heap.size ⟨#[]⟩ 0 ⟨0, 0, 0, 0, 0, none, 0, 0, false, false⟩ := heap_alloc_old hK3 (by omega)
      have HF := hid hf3
      clear hf3
      unfold Nd.val
      have c0 := hK4.c0
      have c1 := hK4.c1
      have c2 := hK4.c2
      have c3 := hK4.c3
      have c4 := hK4.c4
      have c5 := hK4.c5
      have c6 := hK4.c6
      have c7 := hK4.c7
      have c8 := hK4.c8
      have c9 := hK4.c9
      have cf := hK4.fz
      have hC1 := hK4.put10 (nm := s.extract i j) (p := (i : Int)) (d := d)
      have r0 := hC1.c0
      have r1 := hC1.c1
      have r2 := hC1.c2
      have r3 := hC1.c3
      have r4 := hC1.c4
      have r5 := hC1.c5
      have r6 := hC1.c6
      have r7 := hC1.c7
      have r8 := hC1.c8
      have r9 := hC1.c9
      go_wp2_with fail
      refine bodyPost_ret (v := .tuple #[.agg #[.string (s.extract i j), .int .i64 (i : Int), .int .i64 d.k, .int .u64 d.x0, .int .u64 d.x1, .int .u64 d.x2, .int .u64 d.x3, .slice d.pa d.pn d.pc, .bool d.no, .bool d.ag], .bool k3]) (by simp [results, Try.results19, go_sem, r0, r1, r2, r3, r4, r5, r6, r7, r8, r9]) rfl ?_
      exact OutR.made hlt hO6 (by omega) hR3 ho3 hi3 HF.out HRe.out _
  · have hij' : decide (i < j) = false := by simp [hij]
    have HRe : Hid (R = .bad j) := by unfold Hid; rw [HRd.out, if_pos (by omega), show j = i from by omega]
    rw [hij']
    have c0 := hK1.c0
    have c1 := hK1.c1
    have c2 := hK1.c2
    have c3 := hK1.c3
    have c4 := hK1.c4
    have c5 := hK1.c5
    have c6 := hK1.c6
    have c7 := hK1.c7
    have c8 := hK1.c8
    have c9 := hK1.c9
    have cf := hK1.fz
    have hC1 := hK1.put10 (nm := ⟨#[]⟩) (p := 0) (d := ⟨0, 0, 0, 0, 0, none, 0, 0, false, false⟩)
    have r0 := hC1.c0
    have r1 := hC1.c1
    have r2 := hC1.c2
    have r3 := hC1.c3
    have r4 := hC1.c4
    have r5 := hC1.c5
    have r6 := hC1.c6
    have r7 := hC1.c7
    have r8 := hC1.c8
    have r9 := hC1.c9
    go_wp2_with fail
    refine bodyPost_ret (v := .tuple #[.agg #[.string ⟨#[]⟩, .int .i64 0, .int .i64 0, .int .u64 0, .int .u64 0, .int .u64 0, .int .u64 0, .slice none 0 0, .bool false, .bool false], .bool false]) (by simp [results, Try.results19, go_sem, r0, r1, r2, r3, r4, r5, r6, r7, r8, r9]) rfl ?_
    exact OutR.zero hlt hO2 hR1 hj2 HRe.out
end Go.Proofs.Ytjhmlcilabnlbaa
