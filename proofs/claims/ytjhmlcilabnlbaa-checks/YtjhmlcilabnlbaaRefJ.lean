/- Contracts of the document's answer: any. -/
import Derived.Test.YtjhmlcilabnlbaaAnyPure
namespace Go.Proofs.Ytjhmlcilabnlbaa
open Go.RowKit

theorem Sz_past {B : Int} {i z : Nat} (h : Sz B i z) : z ≤ i + 1 := h.1

set_option maxHeartbeats 4000000 in
theorem any_any (F b : Nat) (s : ByteArray) (hs : s.size ≤ 400) (hA : ∀ f, f < F → RowC s b f) : AnyC s b F := by
  intro o i z w hR hi ho hz hP
  have hlt := hR.lt
  cases F with
  | zero => rw [alt_zero] at hP; exact absurd rfl hP
  | succ F =>
    obtain ⟨R, hRd⟩ : ∃ R, R = fin s o (P.alt s (F + 1) o i) := ⟨_, rfl⟩
    have HRn : Hid (R ≠ .out) := by unfold Hid; rw [hRd]; exact fin_out hP
    have HP : Hid (P.row s F o i ≠ .out) := by intro e; apply hP; rw [alt_succ, e]; rfl
    rw [← hRd]
    rw [alt_succ] at hRd
    have HRd := hid hRd
    have HA := hid hA
    clear hA hP hRd
    go_enter Try.func18, Try.ntmps18
    go_wp2_with fail
    refine (HA.out F (by omega) o i z _ hR hi ho hz HP.out).mono ?_
    rintro e w1 ⟨n1, u, i1, B1, rfl, hR1, ho1, hn1, hi1, hz1, hf1⟩
    have hJ1 := hid (Ja_row id HRd.out HRn.out (Nat.le_refl F) hf1)
    have hm1 := hf1.mark
    clear hf1
    go_wp2_with fail
    go_loopg [3] F (fun g n wr => ∃ (n2 : Nat) (t : P.T) (i2 : Nat) (B2 : Int), n = .pointer (some ⟨n2, 0, none⟩) ∧ RB wr b s i2 o (z + t.sz) B2 ∧ Only b w wr ∧ RN wr b n2 t.em ∧ i2 ≤ s.size ∧ Sz B2 i2 (z + t.sz) ∧ Mark B2 ∧ g ≤ F ∧ Hid (Ja s o R g i2 B2 t))
    case atStart => exact ⟨n1, u, i1, B1, rfl, hR1, ho1, hn1, hi1, hz1, hm1, Nat.le_refl _, hJ1⟩
    case round =>
      obtain ⟨n2, t, i2, B2, rfl, hR2, hO2, hn2, hi2, hz2, hm2, hgF, hJ2⟩ := hrel
      clear hR1 ho1 hn1 hi1 hz1 hm1 hJ1
      cases hse : seen B2 s i2 124 with
      | false =>
        have HF := hid (Ja_end hJ2.out HRn.out hse)
        clear hJ2
        go_wp2_with (go_at_call 24; refine (takes_any 124 _ _ _ _ _ _ _ hs hR2 hi2 (by omega) (by omega)).mono ?_; rintro e w3 ⟨rfl, hR3, ho3⟩)
        rw [hse] at hR3
        go_ret
        exact ⟨n2, t, i2, B2, rfl, hR3, hO2.trans ho3, hn2.only ho3, hi2, hz2, HF.out⟩
      | true =>
        obtain ⟨hb2, h124⟩ := seen_true hse
        have hm' : B2 = -1 := by rcases hm2 with h | h <;> omega
        subst hm'
        have hl2 := lt_of_bt (s := s) (i := i2) (by omega)
        have hz2' := hz2.2 (by omega)
        obtain ⟨f, hf, hpo, hnx⟩ := Ja_next hJ2.out HRn.out h124
        have HNX := hid hnx
        have HPO := hid hpo
        have HC := hid (HA.out f (by omega))
        clear hnx hpo hJ2 h124 hb2
        go_wp2_with fail
        refine (takes_any 124 _ _ _ _ _ _ _ hs hR2 hi2 (by omega) (by omega)).mono ?_
        rintro e w3 ⟨rfl, hR3, ho3⟩
        rw [hse] at hR3 ⊢
        rw [stp_true] at hR3
        have k3 := hR3.c3
        have kf := hR3.fz 3
        go_wp2_with fail
        refine (HC.out o (i2 + 1) (z + t.sz + 1) _ (hR3.set3 (by omega)) (by omega) ho ⟨by omega, fun _ => by omega⟩ HPO.out).mono ?_
        rintro e w4 ⟨n4, u4, i4, B4, rfl, hR4, ho4, hn4, hi4, hz4, hf4⟩
        have HJ4 := hid (HNX.out u4 i4 B4 hf4)
        have hm4 := hf4.mark
        have hb4 := hR4.lt
        clear hf4
        have hO4 : Only b wr w4 := (ho3.trans (Only.setCell (p := ⟨b, 3, none⟩) (Only.refl _ _) rfl _)).trans ho4
        go_wp2_with fail
        go_roundg f
        case measure => exact hf
        case rel =>
          have e : z + t.sz + 1 + u4.sz = z + (t.sz + 1 + u4.sz) := by omega
          rw [e] at hR4 hz4
          exact ⟨_, ⟨t.sz + 1 + u4.sz, t.em || u4.em⟩, i4, B4, rfl, heap_alloc_old hR4 hb4, (hO2.trans hO4).alloc _, .alt hb4 NB.alloc ((hn2.only hO4).only ((Only.refl _ _).alloc _)) (hn4.only ((Only.refl _ _).alloc _)), hi4, hz4, hm4, by omega, HJ4⟩

end Go.Proofs.Ytjhmlcilabnlbaa
