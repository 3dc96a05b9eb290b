/- The program: atoms of round brackets; atoms, rows and choices by one induction. -/
import Derived.Test.YtjhmlcilabnlbaaProgQ
namespace Go.Proofs.Ytjhmlcilabnlbaa
open Go.RowKit

/-- A node handed on, through a box of the call's own. -/
theorem OutD.pass {s : ByteArray} {b o i2 o2 n : Nat} {w w2 : World} {R : P.PR P.T} {d : Nd} {k : Bool} (hlt : b < w.heap.size) (hO : Only b w w2) (hn : w.heap.size < n) (hQ : QB w2 b s i2 o2) (ho : k = true → o2 = o) (hi2 : i2 ≤ s.size) (hF : NodeF R w2 n d i2 k) :
    OutD s b o R w (.returned (.tuple #[.agg #[.int .i64 d.k, .int .u64 d.x0, .int .u64 d.x1, .int .u64 d.x2, .int .u64 d.x3, .slice d.pa d.pn d.pc, .bool d.no, .bool d.ag], .bool k])) (put8 w2 w.heap.size d) := by
  have hq : QB (put8 w2 w.heap.size d) b s i2 o2 := (heap_put8 _ (by omega)).trans hQ
  have hO' : Only b w (put8 w2 w.heap.size d) := hO.put8 (Nat.le_refl _) _
  have h2 : OnlyS (· < n) w2 (put8 w2 w.heap.size d) := OnlyS.put8 (S := (· < n)) (fun _ _ _ => rfl) hn d
  generalize put8 w2 w.heap.size d = X at *
  refine ⟨d, i2, o2, k, rfl, hq, ho, hO', hi2, ?_⟩
  cases R with
  | out => exact hF.elim
  | bad p => exact hF
  | ok t j =>
    obtain ⟨h1, h3, hN⟩ := hF
    exact ⟨h1, h3, (hN.only h2).bars (S' := (· < w.heap.size)) (fun j _ hj => by show j < n; have : j < w.heap.size := hj; omega)⟩

set_option maxHeartbeats 1000000 in
theorem patom_group (s : ByteArray) (f : Nat) (hs : s.size ≤ 400) (hA : PAltC s f) (b o i : Nat) (w : World) (hR : QB w b s i o) (ho : o ≤ 20) (hb : P.bt s i = 40) (hP : P.atom s (f + 1) o i ≠ .out) :
    Calls Try.prog 38 #[.pointer (some ⟨b, 0, none⟩)] w fun e w' => OutD s b o (P.atom s (f + 1) o i) w e w' := by
  have hlt := hR.lt
  have b1 : (pk s i == 40) = true := by rw [pk_eq (by omega), hb]; rfl
  have HP := hid hP
  have HA := hid hA
  have HB := hid hb
  clear hP hA hb
  have hQ0 : QB ((w.alloc (.cells #[.int .i64 0, .int .u64 0, .int .u64 0, .int .u64 0, .int .u64 0, .slice none 0 0, .bool false, .bool false] 38)).alloc (.cells #[.int .u64 0, .int .u64 0, .int .u64 0, .int .u64 0] 35)) b s i o := heap_alloc_old (heap_alloc_old hR hlt) (by simp; omega)
  go_enter Try.func38, Try.ntmps38
  go_wp2_with fail
  refine (peek_any _ _ _ _ _ hQ0).mono ?_
  rintro e w1 ⟨rfl, n1, rfl⟩
  go_wp2_with fail
  refine (pgroup_any s f hs HA.out b o i _ (hQ0.drewN _) ho HB.out HP.out).mono ?_
  rintro e w2 ⟨d, i2, o2, k2, rfl, hR2, ho2, hO2, hi2, hf2⟩
  unfold Nd.val
  have hw2 := hO2.size
  have hD2 : DB w2 w.heap.size nd0 := (hO2.block _ (by simp; omega) (by omega)).trans (heap_alloc_old (heap_alloc_at _ _) (by simp))
  have hO3 : Only b w w2 := ((((Only.refl _ _).alloc _).alloc _).drewN _).trans hO2
  have HF := hid hf2
  clear hf2
  have c0 := hD2.c0
  have c1 := hD2.c1
  have c2 := hD2.c2
  have c3 := hD2.c3
  have c4 := hD2.c4
  have c5 := hD2.c5
  have c6 := hD2.c6
  have c7 := hD2.c7
  have cf := hD2.fz
  have hC1 := hD2.put8 d
  have r0 := hC1.c0
  have r1 := hC1.c1
  have r2 := hC1.c2
  have r3 := hC1.c3
  have r4 := hC1.c4
  have r5 := hC1.c5
  have r6 := hC1.c6
  have r7 := hC1.c7
  go_wp2_with fail
  refine bodyPost_ret (v := .tuple #[.agg #[.int .i64 d.k, .int .u64 d.x0, .int .u64 d.x1, .int .u64 d.x2, .int .u64 d.x3, .slice d.pa d.pn d.pc, .bool d.no, .bool d.ag], .bool k2]) (by simp [results, Try.results38, go_sem, r0, r1, r2, r3, r4, r5, r6, r7]) rfl ?_
  exact OutD.pass hlt hO3 (by simp; omega) hR2 ho2 hi2 HF.out

theorem patom_past {s : ByteArray} {f o i : Nat} (h91 : P.bt s i = 91) (h : P.atom s (f + 1) o i ≠ .out) : P.cls s f (i + 1) ≠ .out := by
  intro e
  apply h
  unfold P.atom P.leafAt
  simp only [h91, e]
  rfl

theorem patom_any (s : ByteArray) (f : Nat) (hs : s.size ≤ 400) (hA : PAltC s f) : PAtomC s (f + 1) := by
  intro b o i w hR hi ho hP
  by_cases h40 : P.bt s i = 40
  · exact patom_group s f hs hA b o i w hR ho h40 hP
  · by_cases h91 : P.bt s i = 91
    · exact patom_cls f b s i o w hs hR h91 (patom_past h91 hP)
    · by_cases h46 : P.bt s i = 46
      · exact patom_dot f b s i o w hs hR h46
      · exact patom_single f b s i o w hs hR hi h40 h91 h46

theorem pall (s : ByteArray) (hs : s.size ≤ 400) : ∀ F f : Nat, f ≤ F → PAtomC s f ∧ PRowC s f ∧ PAltC s f := by
  intro F
  induction F with
  | zero =>
    intro f hf
    obtain rfl : f = 0 := by omega
    refine ⟨?_, ?_, ?_⟩
    · intro b o i w _ _ _ hP; exact absurd (by unfold P.atom; rfl) hP
    · intro b o i w _ _ _ hP; exact absurd (by unfold P.row; rfl) hP
    · intro b o i w _ _ _ hP; exact absurd (by unfold P.alt; rfl) hP
  | succ F ih =>
    intro f hf
    by_cases hle : f ≤ F
    · exact ih f hle
    · obtain rfl : f = F + 1 := by omega
      exact ⟨patom_any s F hs (ih F (Nat.le_refl _)).2.2, prow_any s (F + 1) hs (fun g hg => (ih g (by omega)).1), palt_any s (F + 1) hs (fun g hg => (ih g (by omega)).2.1)⟩

/-- The program's either, at any text and any place. -/
theorem peither_any (s : ByteArray) (hs : s.size ≤ 400) (F b o i : Nat) (w : World) (hR : QB w b s i o) (hi : i ≤ s.size) (ho : o ≤ 20) (hP : P.alt s F o i ≠ .out) :
    Calls Try.prog 27 #[.pointer (some ⟨b, 0, none⟩)] w fun e w' => OutD s b o (P.alt s F o i) w e w' := (pall s hs F F (Nat.le_refl _)).2.2 b o i w hR hi ho hP
end Go.Proofs.Ytjhmlcilabnlbaa
