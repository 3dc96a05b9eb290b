/- The program: choices. -/
import Derived.Test.YtjhmlcilabnlbaaProgO
namespace Go.Proofs.Ytjhmlcilabnlbaa
open Go.RowKit

theorem Lm.moves {s : ByteArray} {b o ir j : Nat} {w wr w7 : World} {v : Value} {xs : List (Nd × P.T)} (hlt : b < w.heap.size) (h : Lm s b o w wr ir v xs) (hX : Only b wr w7) (hQ : QB w7 b s j o) (hj : j ≤ s.size) (hij : ir ≤ j) : Lm s b o w w7 j v xs := by
  have hN := h.lt
  obtain ⟨h1, h2, h3, h4, h5, h6, h7⟩ := h
  exact ⟨hQ, (hX.block _ hN (by omega)).trans h2, powns_only h3 hX (by omega), fun x hx => (h4 x hx).only (hX.toS.wide (fun k hk => Or.inl (by omega))), h5.trans hX, hj, by omega⟩

/-- A choice's node, handed back. -/
theorem Lm.altOut {s : ByteArray} {b o ir : Nat} {w wr : World} {ad : Option Addr} {cap m : Nat} {xs : List (Nd × P.T)} (hlt : b < w.heap.size) (hL : Lm s b o w wr ir (.slice ad m cap) xs) (hm : m = xs.length) (hx : xs ≠ []) (hs : s.size ≤ 400) :
    OutD s b o (.ok ⟨sumSz xs + (xs.length - 1), anyEm xs⟩ ir) w (.returned (.tuple #[.agg #[.int .i64 2, .int .u64 0, .int .u64 0, .int .u64 0, .int .u64 0, .slice ad m cap, .bool false, .bool false], .bool true])) (put8 wr w.heap.size ⟨2, 0, 0, 0, 0, ad, m, cap, false, false⟩) := by
  subst hm
  have hS : OnlyS (· ≤ w.heap.size) wr (put8 wr w.heap.size ⟨2, 0, 0, 0, 0, ad, xs.length, cap, false, false⟩) := OnlyS.put8 (S := (· ≤ w.heap.size)) (g := w.heap.size) (fun _ _ _ => rfl) (Nat.le_refl w.heap.size) _
  have hq : QB (put8 wr w.heap.size ⟨2, 0, 0, 0, 0, ad, xs.length, cap, false, false⟩) b s ir o := (heap_put8 _ (by omega)).trans hL.1
  have hO' : Only b w (put8 wr w.heap.size ⟨2, 0, 0, 0, 0, ad, xs.length, cap, false, false⟩) := hL.2.2.2.2.1.put8 (Nat.le_refl _) _
  generalize put8 wr w.heap.size ⟨2, 0, 0, 0, 0, ad, xs.length, cap, false, false⟩ = X at *
  obtain ⟨g, c, e, hP, hN⟩ := hL.parts hx hS
  injection e with e1 e2 e3
  subst e1; subst e3
  exact ⟨⟨2, 0, 0, 0, 0, some ⟨g, 0, none⟩, xs.length, cap, false, false⟩, ir, o, true, rfl, hq, fun _ => rfl, hO', hL.2.2.2.2.2.1, rfl, rfl, .alt hP hx (by have := hL.2.2.2.2.2.1; have := hL.2.2.2.2.2.2; omega) hN⟩

set_option maxHeartbeats 1000000 in
theorem palt_any (s : ByteArray) (F : Nat) (hs : s.size ≤ 400) (hA : ∀ f, f < F → PRowC s f) : PAltC s F := by
  intro b o i w hR hi ho hP
  have hlt := hR.lt
  obtain ⟨R, hRd⟩ : ∃ R, R = P.alt s F o i := ⟨_, rfl⟩
  have HRn : Hid (R ≠ .out) := by unfold Hid; rw [hRd]; exact hP
  rw [← hRd]
  have HRd := hid hRd
  have HA := hid hA
  clear hP hRd hA
  go_enter Try.func27, Try.ntmps27
  go_wp2_with fail
  go_loopg [4] F (fun g v wr => ∃ (ir : Nat) (xs : List (Nd × P.T)), Lm s b o w wr ir v xs ∧ g ≤ F ∧ Hid (JA s o R g ir xs))
  case atStart => exact ⟨i, [], Lm.start hR hi, Nat.le_refl _, Or.inl ⟨rfl, F, Nat.le_refl _, HRd.out⟩⟩
  case round =>
    obtain ⟨ir, xs, hL, hgF, hJ⟩ := hrel
    obtain ⟨ad, cap, e5⟩ := powns_shape hL.2.2.1
    subst e5
    obtain ⟨f, hfg, hRf⟩ := hJ.out.next HRn.out
    have HRf := hid hRf
    have hAo : P.row s f o ir ≠ .out := by intro e; rw [e] at hRf; exact HRn.out hRf
    have HAo := hid hAo
    clear hRf hAo
    go_wp2_with fail
    refine (HA.out f (by omega) b o ir _ hL.1 hL.2.2.2.2.2.1 ho HAo.out).mono ?_
    rintro e w2 ⟨d, i2, o2, k2, rfl, hR2, ho2, hO2, hi2, hf2⟩
    have hw2 := hO2.size
    have hN1 : w.heap.size < wr.heap.size := hL.lt
    have hD2 : DB w2 w.heap.size nd0 := (hO2.block _ hN1 (by omega)).trans hL.2.1
    have hB1 : DB (w2.alloc (.cells #[.int .i64 d.k, .int .u64 d.x0, .int .u64 d.x1, .int .u64 d.x2, .int .u64 d.x3, .slice d.pa d.pn d.pc, .bool d.no, .bool d.ag] 38)) w.heap.size nd0 := heap_alloc_old hD2 (by omega)
    have HF := hid hf2
    clear hf2
    unfold Nd.val
    cases k2 with
    | false =>
      have c0 := hB1.c0
      have c1 := hB1.c1
      have c2 := hB1.c2
      have c3 := hB1.c3
      have c4 := hB1.c4
      have c5 := hB1.c5
      have c6 := hB1.c6
      have c7 := hB1.c7
      have cf := hB1.fz
      have hC1 := hB1.put8 ⟨0, 0, 0, 0, 0, none, 0, 0, false, false⟩
      have r0 := hC1.c0
      have r1 := hC1.c1
      have r2 := hC1.c2
      have r3 := hC1.c3
      have r4 := hC1.c4
      have r5 := hC1.c5
      have r6 := hC1.c6
      have r7 := hC1.c7
      go_wp2_with fail
      refine bodyPost_ret (v := .tuple #[.agg #[.int .i64 0, .int .u64 0, .int .u64 0, .int .u64 0, .int .u64 0, .slice none 0 0, .bool false, .bool false], .bool false]) (by simp [results, Try.results27, go_sem, r0, r1, r2, r3, r4, r5, r6, r7]) rfl ?_
      exact Lm.fails (n := 0) hL HRf.out HF.out hlt hR2 hO2 hi2
    | true =>
      obtain ⟨t, hat, hNd⟩ := HF.out.yes
      have he2 := ho2 rfl
      subst he2
      have hsz2 := (P.all_sized s f).2.2.2.1 o2 ir t i2 hat
      have HR3 : Hid (R = P.altOn s f o2 i2 ⟨sumSz xs + t.sz + xs.length, anyEm xs || t.em⟩) := by
        have h := HRf.out
        rw [hat] at h
        exact h
      have HNd := hid (hNd.only (w' := w2.alloc (.cells #[.int .i64 d.k, .int .u64 d.x0, .int .u64 d.x1, .int .u64 d.x2, .int .u64 d.x3, .slice d.pa d.pn d.pc, .bool d.no, .bool d.ag] 38)) (fun k hk _ => Below.heap_alloc _ _ _ hk))
      clear hat hNd HRf HF
      have hX : Only b wr (w2.alloc (.cells #[.int .i64 d.k, .int .u64 d.x0, .int .u64 d.x1, .int .u64 d.x2, .int .u64 d.x3, .slice d.pa d.pn d.pc, .bool d.no, .bool d.ag] 38)) := hO2.alloc _
      have hR3 : QB (w2.alloc (.cells #[.int .i64 d.k, .int .u64 d.x0, .int .u64 d.x1, .int .u64 d.x2, .int .u64 d.x3, .slice d.pa d.pn d.pc, .bool d.no, .bool d.ag] 38)) b s i2 o2 := heap_alloc_old hR2 hR2.lt
      have hown4 := powns_only hL.2.2.1 hX (by omega)
      have hlen : xs.length ≤ 400 := by have := hL.2.2.2.2.2.1; have := hL.2.2.2.2.2.2; omega
      obtain ⟨i0, hi0, hz0, hz1, hz2⟩ := info_parts Try.info38
      clear hB1
      go_wp2_with (first
        | (at_builtin; refine wpList_append_own_at _ rfl (.tmp 15) (.tmp 17) 36 rfl (w.heap.size + 1) 38 i0 _ 8 72 Try.underlying36 hi0 hz0 hz1 hz2 rfl (by decide) _ _ _ rfl (hown4.alloc _) ⟨w2.heap.size + 1, 0, none⟩ 1 1 d.cells rfl rfl ?c1 ?c2 ?c3 ?c4 ?c5 ?_))
      case c1 =>
        have h := fun j u h => nd_cells (w := w2.alloc (.cells #[.int .i64 d.k, .int .u64 d.x0, .int .u64 d.x1, .int .u64 d.x2, .int .u64 d.x3, .slice d.pa d.pn d.pc, .bool d.no, .bool d.ag] 38)) (d := d) j u h
        rw [show (w2.alloc (.cells #[.int .i64 d.k, .int .u64 d.x0, .int .u64 d.x1, .int .u64 d.x2, .int .u64 d.x3, .slice d.pa d.pn d.pc, .bool d.no, .bool d.ag] 38)).heap.size = w2.heap.size + 1 from by simp] at h
        exact h
      case c2 => exact nd_one
      case c3 => unfold maxLen; omega
      case c4 => omega
      case c5 => simp; omega
      · intro v' w6 hown6 hgrow6 hnil hat6
        have hL6 := Lm.append hlt hL hX hR3 HNd.out hi2 (by omega) hown6 hgrow6 (by simpa using hat6)
        have hQ6 := hL6.1
        obtain ⟨ad6, cap6, e6⟩ := powns_shape hL6.2.2.1
        rw [show (xs ++ [(d, t)]).length = xs.length + 1 from by simp] at e6
        subst e6
        clear hown6 hgrow6 hnil hat6 hown4
        go_wp2_with fail
        refine (take_any 124 b s i2 o2 _ hs hQ6 (by omega)).mono ?_
        rintro e w7 ⟨rfl, hQ7, hO7⟩
        cases hah : ahd s i2 124 with
        | true =>
          rw [hah, stp_true] at hQ7
          have hbt := ahd_true hah
          have hl := lt_of_bt (s := s) (i := i2) (by omega)
          have hL7 := hL6.moves hlt hO7 hQ7 (by omega) (by omega)
          have HJ7 : Hid (JA s o2 R f (i2 + 1) (xs ++ [(d, t)])) := Or.inr ⟨by simp, f, Nat.le_refl _, i2, rfl, hbt, by rw [sumSz_snoc, anyEm_snoc, List.length_append]; exact HR3.out⟩
          clear hbt
          go_wp2_with fail
          go_roundg f
          case measure => omega
          case rel => exact ⟨i2 + 1, _, hL7, by omega, HJ7⟩
        | false =>
          rw [hah, stp_false] at hQ7
          have hbt := ahd_false hah
          have hL7 := hL6.moves hlt hO7 hQ7 (by omega) (Nat.le_refl _)
          have HRe : Hid (R = .ok ⟨sumSz (xs ++ [(d, t)]) + ((xs ++ [(d, t)]).length - 1), anyEm (xs ++ [(d, t)])⟩ i2) := by
            have h := HR3.out
            unfold Hid
            rw [sumSz_snoc, anyEm_snoc, List.length_append]
            cases f with
            | zero => exact absurd (by rw [h]; unfold P.altOn; rfl) HRn.out
            | succ f =>
              rw [h]
              conv => lhs; unfold P.altOn
              rw [if_neg hbt]
              rfl
          clear hbt
          have hB1 : DB w7 w.heap.size nd0 := hL7.2.1
          have c0 := hB1.c0
          have c1 := hB1.c1
          have c2 := hB1.c2
          have c3 := hB1.c3
          have c4 := hB1.c4
          have c5 := hB1.c5
          have c6 := hB1.c6
          have c7 := hB1.c7
          have cf := hB1.fz
          have hC1 := hB1.put8 ⟨2, 0, 0, 0, 0, ad6, xs.length + 1, cap6, false, false⟩
          have r0 := hC1.c0
          have r1 := hC1.c1
          have r2 := hC1.c2
          have r3 := hC1.c3
          have r4 := hC1.c4
          have r5 := hC1.c5
          have r6 := hC1.c6
          have r7 := hC1.c7
          go_wp2_with fail
          refine bodyPost_ret (v := .tuple #[.agg #[.int .i64 2, .int .u64 0, .int .u64 0, .int .u64 0, .int .u64 0, .slice ad6 (xs.length + 1) cap6, .bool false, .bool false], .bool true]) (by simp [results, Try.results27, go_sem, r0, r1, r2, r3, r4, r5, r6, r7]) rfl ?_
          rw [HRe.out]
          exact Lm.altOut hlt hL7 (by simp) (by simp) hs
end Go.Proofs.Ytjhmlcilabnlbaa
