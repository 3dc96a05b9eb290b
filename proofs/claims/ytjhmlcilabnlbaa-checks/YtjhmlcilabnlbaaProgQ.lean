/- The program: round brackets; atoms, rows and choices all together. -/
import Derived.Test.YtjhmlcilabnlbaaProgP
namespace Go.Proofs.Ytjhmlcilabnlbaa
open Go.RowKit

theorem patom_group_eq {s : ByteArray} {f o i : Nat} (h : P.bt s i = 40) : P.atom s (f + 1) o i = if o = 20 then .bad i else (P.alt s f (o + 1) (i + 1)).bind fun t j => if P.bt s j = 41 then .ok t (j + 1) else .bad j := by
  conv => lhs; unfold P.atom
  rw [if_pos h]

/-- A fault: the zero node, handed back. -/
theorem OutD.zero {s : ByteArray} {b o i2 o2 : Nat} {w w2 : World} {R : P.PR P.T} (hlt : b < w.heap.size) (hO : Only b w w2) (hQ : QB w2 b s i2 o2) (hi2 : i2 ≤ s.size) (hR : R = .bad i2) :
    OutD s b o R w (.returned (.tuple #[.agg #[.int .i64 0, .int .u64 0, .int .u64 0, .int .u64 0, .int .u64 0, .slice none 0 0, .bool false, .bool false], .bool false])) (put8 w2 w.heap.size ⟨0, 0, 0, 0, 0, none, 0, 0, false, false⟩) := by
  have hq : QB (put8 w2 w.heap.size ⟨0, 0, 0, 0, 0, none, 0, 0, false, false⟩) b s i2 o2 := (heap_put8 _ (by omega)).trans hQ
  have hO' : Only b w (put8 w2 w.heap.size ⟨0, 0, 0, 0, 0, none, 0, 0, false, false⟩) := hO.put8 (Nat.le_refl _) _
  generalize put8 w2 w.heap.size ⟨0, 0, 0, 0, 0, none, 0, 0, false, false⟩ = X at *
  subst hR
  exact ⟨⟨0, 0, 0, 0, 0, none, 0, 0, false, false⟩, i2, o2, false, rfl, hq, (by intro e; cases e), hO', hi2, rfl, rfl⟩

/-- What stood in the brackets, handed back. -/
theorem OutD.same {s : ByteArray} {b o i2 o2 n : Nat} {w w2 w3 : World} {R : P.PR P.T} {d : Nd} {t : P.T} {x : Int} (hlt : b < w.heap.size) (hO : Only b w w3) (h23 : Only b w2 w3) (hQ : QB w3 b s i2 o2) (hx : x = (o : Int)) (hi2 : i2 ≤ s.size) (hn : w.heap.size < n) (hN : PN w2 (· < n) d t) (hR : R = .ok t i2) :
    OutD s b o R w (.returned (.tuple #[.agg #[.int .i64 d.k, .int .u64 d.x0, .int .u64 d.x1, .int .u64 d.x2, .int .u64 d.x3, .slice d.pa d.pn d.pc, .bool d.no, .bool d.ag], .bool true])) (put8 (w3.setCell ⟨b, 2, none⟩ (.int .i64 x)) w.heap.size d) := by
  have hq : QB (put8 (w3.setCell ⟨b, 2, none⟩ (.int .i64 x)) w.heap.size d) b s i2 o := (heap_put8 _ (by omega)).trans (hQ.set2 hx)
  have hO' : Only b w (put8 (w3.setCell ⟨b, 2, none⟩ (.int .i64 x)) w.heap.size d) := (Only.setCell (p := ⟨b, 2, none⟩) hO rfl _).put8 (Nat.le_refl _) _
  have h1 : OnlyS (· < n) w2 (w3.setCell ⟨b, 2, none⟩ (.int .i64 x)) := (Only.setCell (p := ⟨b, 2, none⟩) h23 rfl _).toS.wide (fun k hk => by show k < n; omega)
  have h2 : OnlyS (· < n) w2 (put8 (w3.setCell ⟨b, 2, none⟩ (.int .i64 x)) w.heap.size d) := OnlyS.put8 (S := (· < n)) h1 hn d
  have hN2 := (hN.only h2).bars (S' := (· < w.heap.size)) (fun j _ hj => by show j < n; have : j < w.heap.size := hj; omega)
  clear h1 h2
  generalize put8 (w3.setCell ⟨b, 2, none⟩ (.int .i64 x)) w.heap.size d = X at *
  subst hR
  exact ⟨d, i2, o, true, rfl, hq, fun _ => rfl, hO', hi2, rfl, rfl, hN2⟩

set_option maxHeartbeats 1000000 in
theorem pgroup_any (s : ByteArray) (f : Nat) (hs : s.size ≤ 400) (hA : PAltC s f) (b o i : Nat) (w : World) (hR : QB w b s i o) (ho : o ≤ 20) (hb : P.bt s i = 40) (hP : P.atom s (f + 1) o i ≠ .out) :
    Calls Try.prog 44 #[.pointer (some ⟨b, 0, none⟩)] w fun e w' => OutD s b o (P.atom s (f + 1) o i) w e w' := by
  have hlt := hR.lt
  have hl := lt_of_bt (s := s) (i := i) (by omega)
  rw [patom_group_eq hb] at hP ⊢
  clear hb
  have c1 := hR.c1
  have c2 := hR.c2
  have cf := hR.fz
  by_cases h20 : o = 20
  · subst h20
    rw [if_pos rfl]
    clear hP hA
    go_enter Try.func44, Try.ntmps44
    go_wp2_with fail
    refine bodyPost_ret (v := .tuple #[.agg #[.int .i64 0, .int .u64 0, .int .u64 0, .int .u64 0, .int .u64 0, .slice none 0 0, .bool false, .bool false], .bool false]) (by simp [results, Try.results44, go_sem]) rfl ?_
    exact ⟨⟨0, 0, 0, 0, 0, none, 0, 0, false, false⟩, i, 20, false, rfl, heap_alloc_old hR hlt, (by intro e; cases e), (Only.refl _ _).alloc _, by omega, rfl, rfl⟩
  · rw [if_neg h20] at hP ⊢
    have h20' : ((o : Int) == 20) = false := beq_false_of_ne (by omega)
    obtain ⟨R, hRd⟩ : ∃ R, R = (P.alt s f (o + 1) (i + 1)).bind fun t j => if P.bt s j = 41 then .ok t (j + 1) else .bad j := ⟨_, rfl⟩
    rw [← hRd] at hP ⊢
    have HA := hid hA
    have HRd := hid hRd
    have HAo : Hid (P.alt s f (o + 1) (i + 1) ≠ .out) := by
      intro e
      rw [e] at hRd
      exact hP hRd
    clear hP hA hRd
    go_enter Try.func44, Try.ntmps44
    go_wp2_with fail
    have hqX : QB (((w.setCell ⟨b, 2, none⟩ (.int .i64 ((o : Int) + 1))).setCell ⟨b, 1, none⟩ (.int .i64 ((i : Int) + 1))).alloc (.cells #[.int .i64 0, .int .u64 0, .int .u64 0, .int .u64 0, .int .u64 0, .slice none 0 0, .bool false, .bool false] 38)) b s (i + 1) (o + 1) := heap_alloc_old ((hR.set2 (by omega)).set1 (by omega)) (by simp only [World.size_setCell]; exact hlt)
    have hOX : Only b w (((w.setCell ⟨b, 2, none⟩ (.int .i64 ((o : Int) + 1))).setCell ⟨b, 1, none⟩ (.int .i64 ((i : Int) + 1))).alloc (.cells #[.int .i64 0, .int .u64 0, .int .u64 0, .int .u64 0, .int .u64 0, .slice none 0 0, .bool false, .bool false] 38)) := (Only.setCell (p := ⟨b, 1, none⟩) (Only.setCell (p := ⟨b, 2, none⟩) (Only.refl _ _) rfl _) rfl _).alloc _
    have hDX : DB (((w.setCell ⟨b, 2, none⟩ (.int .i64 ((o : Int) + 1))).setCell ⟨b, 1, none⟩ (.int .i64 ((i : Int) + 1))).alloc (.cells #[.int .i64 0, .int .u64 0, .int .u64 0, .int .u64 0, .int .u64 0, .slice none 0 0, .bool false, .bool false] 38)) w.heap.size nd0 := by
      have h := heap_alloc_at ((w.setCell ⟨b, 2, none⟩ (.int .i64 ((o : Int) + 1))).setCell ⟨b, 1, none⟩ (.int .i64 ((i : Int) + 1))) (.cells #[.int .i64 0, .int .u64 0, .int .u64 0, .int .u64 0, .int .u64 0, .slice none 0 0, .bool false, .bool false] 38)
      simp only [World.size_setCell] at h
      exact h
    have hsX : (((w.setCell ⟨b, 2, none⟩ (.int .i64 ((o : Int) + 1))).setCell ⟨b, 1, none⟩ (.int .i64 ((i : Int) + 1))).alloc (.cells #[.int .i64 0, .int .u64 0, .int .u64 0, .int .u64 0, .int .u64 0, .slice none 0 0, .bool false, .bool false] 38)).heap.size = w.heap.size + 1 := by simp [World.size_setCell]
    refine (HA.out b (o + 1) (i + 1) _ hqX (by omega) (by omega) HAo.out).mono ?_
    generalize (((w.setCell ⟨b, 2, none⟩ (.int .i64 ((o : Int) + 1))).setCell ⟨b, 1, none⟩ (.int .i64 ((i : Int) + 1))).alloc (.cells #[.int .i64 0, .int .u64 0, .int .u64 0, .int .u64 0, .int .u64 0, .slice none 0 0, .bool false, .bool false] 38)) = X at *
    rintro e w2 ⟨d, i2, o2, k2, rfl, hR2, ho2, hO2, hi2, hf2⟩
    have hw2 := hO2.size
    have hD2 : DB w2 w.heap.size nd0 := (hO2.block _ (by omega) (by omega)).trans hDX
    have hO3 : Only b w w2 := hOX.trans hO2
    have hB1 : DB (w2.alloc (.cells #[.int .i64 d.k, .int .u64 d.x0, .int .u64 d.x1, .int .u64 d.x2, .int .u64 d.x3, .slice d.pa d.pn d.pc, .bool d.no, .bool d.ag] 38)) w.heap.size nd0 := heap_alloc_old hD2 (by omega)
    have hQ3 : QB (w2.alloc (.cells #[.int .i64 d.k, .int .u64 d.x0, .int .u64 d.x1, .int .u64 d.x2, .int .u64 d.x3, .slice d.pa d.pn d.pc, .bool d.no, .bool d.ag] 38)) b s i2 o2 := heap_alloc_old hR2 hR2.lt
    have hO4 : Only b w (w2.alloc (.cells #[.int .i64 d.k, .int .u64 d.x0, .int .u64 d.x1, .int .u64 d.x2, .int .u64 d.x3, .slice d.pa d.pn d.pc, .bool d.no, .bool d.ag] 38)) := hO3.alloc _
    have HF := hid hf2
    clear hf2 c1 c2 cf
    unfold Nd.val
    cases k2 with
    | false =>
      have HRe : Hid (R = .bad i2) := by
        have h := HRd.out
        have hF := HF.out
        unfold Hid
        cases hx : P.alt s f (o + 1) (i + 1) with
        | out => exact absurd hx HAo.out
        | bad p => rw [hx] at h hF; rw [h, hF.2]; rfl
        | ok t j => rw [hx] at hF; exact absurd hF.1 (by simp)
      have c0 := hB1.c0
      have c1 := hB1.c1
      have c2 := hB1.c2
      have c3 := hB1.c3
      have c4 := hB1.c4
      have c5 := hB1.c5
      have c6 := hB1.c6
      have c7 := hB1.c7
      have cf := hB1.fz
      have hC1 := hB1.put8 ⟨0, 0, 0, 0, 0, none, 0, 0, false, false⟩
      have r0 := hC1.c0
      have r1 := hC1.c1
      have r2 := hC1.c2
      have r3 := hC1.c3
      have r4 := hC1.c4
      have r5 := hC1.c5
      have r6 := hC1.c6
      have r7 := hC1.c7
      go_wp2_with fail
      refine bodyPost_ret (v := .tuple #[.agg #[.int .i64 0, .int .u64 0, .int .u64 0, .int .u64 0, .int .u64 0, .slice none 0 0, .bool false, .bool false], .bool false]) (by simp [results, Try.results44, go_sem, r0, r1, r2, r3, r4, r5, r6, r7]) rfl ?_
      exact OutD.zero hlt hO4 hQ3 hi2 HRe.out
    | true =>
      obtain ⟨t, hat, hNd⟩ := HF.out.yes
      have he2 := ho2 rfl
      subst he2
      have HR3 : Hid (R = if P.bt s i2 = 41 then .ok t (i2 + 1) else .bad i2) := by
        have h := HRd.out
        rw [hat] at h
        exact h
      have HNd := hid hNd
      have hDd : DB (w2.alloc (.cells #[.int .i64 d.k, .int .u64 d.x0, .int .u64 d.x1, .int .u64 d.x2, .int .u64 d.x3, .slice d.pa d.pn d.pc, .bool d.no, .bool d.ag] 38)) w2.heap.size d := heap_alloc_at _ _
      clear hat hNd HF HRd
      go_wp2_with fail
      refine (take_any 41 b s i2 (o + 1) _ hs hQ3 (by omega)).mono ?_
      rintro e w3 ⟨rfl, hQ5, hO5⟩
      have hw3 := hO5.size
      have hB5 : DB w3 w.heap.size nd0 := (hO5.block _ (by simp; omega) (by omega)).trans hB1
      have hDd5 : DB w3 w2.heap.size d := (hO5.block _ (by simp) (by omega)).trans hDd
      have hO6 : Only b w w3 := hO4.trans hO5
      have h26 : Only b w2 w3 := ((Only.refl b w2).alloc _).trans hO5
      cases hah : ahd s i2 41 with
      | false =>
        rw [hah, stp_false] at hQ5
        have HRe : Hid (R = .bad i2) := by unfold Hid; rw [HR3.out, if_neg (ahd_false hah)]
        have c0 := hB5.c0
        have c1 := hB5.c1
        have c2 := hB5.c2
        have c3 := hB5.c3
        have c4 := hB5.c4
        have c5 := hB5.c5
        have c6 := hB5.c6
        have c7 := hB5.c7
        have cf := hB5.fz
        have hC1 := hB5.put8 ⟨0, 0, 0, 0, 0, none, 0, 0, false, false⟩
        have r0 := hC1.c0
        have r1 := hC1.c1
        have r2 := hC1.c2
        have r3 := hC1.c3
        have r4 := hC1.c4
        have r5 := hC1.c5
        have r6 := hC1.c6
        have r7 := hC1.c7
        go_wp2_with fail
        refine bodyPost_ret (v := .tuple #[.agg #[.int .i64 0, .int .u64 0, .int .u64 0, .int .u64 0, .int .u64 0, .slice none 0 0, .bool false, .bool false], .bool false]) (by simp [results, Try.results44, go_sem, r0, r1, r2, r3, r4, r5, r6, r7]) rfl ?_
        exact OutD.zero hlt hO6 hQ5 hi2 HRe.out
      | true =>
        rw [hah, stp_true] at hQ5
        have hbt := ahd_true hah
        have hl2 := lt_of_bt (s := s) (i := i2) (by omega)
        have HRe : Hid (R = .ok t (i2 + 1)) := by unfold Hid; rw [HR3.out, if_pos hbt]
        clear hbt
        have q2 := hQ5.c2
        have qf := hQ5.fz
        have hB6 : ∀ x : Value, DB (w3.setCell ⟨b, 2, none⟩ x) w.heap.size nd0 := fun x => (Below.heap_setCell _ _ _ _ (by show w.heap.size ≠ b; omega)).trans hB5
        have hD6 : ∀ x : Value, DB (w3.setCell ⟨b, 2, none⟩ x) w2.heap.size d := fun x => (Below.heap_setCell _ _ _ _ (by show w2.heap.size ≠ b; omega)).trans hDd5
        have c0 := fun x => (hB6 x).c0
        have c1 := fun x => (hB6 x).c1
        have c2 := fun x => (hB6 x).c2
        have c3 := fun x => (hB6 x).c3
        have c4 := fun x => (hB6 x).c4
        have c5 := fun x => (hB6 x).c5
        have c6 := fun x => (hB6 x).c6
        have c7 := fun x => (hB6 x).c7
        have cf := fun x => (hB6 x).fz
        have e0 := fun x => (hD6 x).c0
        have e1 := fun x => (hD6 x).c1
        have e2 := fun x => (hD6 x).c2
        have e3 := fun x => (hD6 x).c3
        have e4 := fun x => (hD6 x).c4
        have e5 := fun x => (hD6 x).c5
        have e6 := fun x => (hD6 x).c6
        have e7 := fun x => (hD6 x).c7
        have r0 := fun x => ((hB6 x).put8 d).c0
        have r1 := fun x => ((hB6 x).put8 d).c1
        have r2 := fun x => ((hB6 x).put8 d).c2
        have r3 := fun x => ((hB6 x).put8 d).c3
        have r4 := fun x => ((hB6 x).put8 d).c4
        have r5 := fun x => ((hB6 x).put8 d).c5
        have r6 := fun x => ((hB6 x).put8 d).c6
        have r7 := fun x => ((hB6 x).put8 d).c7
        go_wp2_with fail
        refine bodyPost_ret (v := .tuple #[.agg #[.int .i64 d.k, .int .u64 d.x0, .int .u64 d.x1, .int .u64 d.x2, .int .u64 d.x3, .slice d.pa d.pn d.pc, .bool d.no, .bool d.ag], .bool true]) (by simp [results, Try.results44, go_sem, r0, r1, r2, r3, r4, r5, r6, r7]) rfl ?_
        exact OutD.same hlt hO6 h26 hQ5 (by omega) (by omega) (by omega) HNd.out HRe.out
end Go.Proofs.Ytjhmlcilabnlbaa
