/- Contracts of the document's answer: round brackets. -/
import Derived.Test.YtjhmlcilabnlbaaRefG
namespace Go.Proofs.Ytjhmlcilabnlbaa
open Go.RowKit

/-- Where a row may end. -/
def stops (s : ByteArray) (o j : Nat) : Bool := decide (s.size ≤ j) || (P.bt s j == 124) || ((P.bt s j == 10) && (o == 0)) || ((P.bt s j == 41) && decide (0 < o))
def fin (s : ByteArray) (o : Nat) (r : P.PR P.T) : P.PR P.T := r.bind fun t j => if stops s o j then .ok t j else .bad j

/-- The contract of 'any', with so much fuel. -/
def AnyC (s : ByteArray) (b f : Nat) : Prop :=
  ∀ (o i z : Nat) (w : World), RB w b s i o z (-1) → i ≤ s.size → o ≤ 20 → Sz (-1) i z → P.alt s f o i ≠ .out →
    Calls Try.prog 18 #[.pointer (some ⟨b, 0, none⟩)] w fun e w' => OutN s b o z (gate (-1) (fin s o (P.alt s f o i))) w e w'

theorem atom_open {s : ByteArray} {f o i : Nat} (h : P.bt s i = 40) (ho : o ≠ 20) : P.atom s (f + 1) o i = (P.alt s f (o + 1) (i + 1)).bind fun t j => if P.bt s j = 41 then .ok t (j + 1) else .bad j := by
  unfold P.atom; simp only [if_pos h, if_neg ho]
theorem atom_deep {s : ByteArray} {f i : Nat} (h : P.bt s i = 40) : P.atom s (f + 1) 20 i = .bad i := by
  unfold P.atom; simp only [if_pos h, if_true]
theorem stops_41 {s : ByteArray} {o j : Nat} (h : P.bt s j = 41) (ho : 0 < o) : stops s o j = true := by simp [stops, h, ho]

theorem group_fits {s : ByteArray} {f o i j : Nat} {t : P.T} {B : Int} (h : P.bt s i = 40) (ho : o ≠ 20) (hf : Fits (gate (-1) (fin s (o + 1) (P.alt s f (o + 1) (i + 1)))) t j B) :
    Fits (gate (-1) (P.atom s (f + 1) o i)) t (stp (seen B s j 41) j) (need B s j 41) := by
  rw [atom_open h ho, gate_neg]
  rw [gate_neg] at hf
  cases ha : P.alt s f (o + 1) (i + 1) with
  | out => rw [ha] at hf; exact hf.elim
  | bad p =>
    rw [ha] at hf
    have hp : B = (p : Int) := hf
    show need B s j 41 = (p : Int)
    unfold need
    rw [seen_pos (by omega)]
    simp only [Bool.false_eq_true, if_false]
    rw [mrk_pos (by omega), hp]
  | ok u k =>
    rw [ha] at hf
    have hf' : Fits (if stops s (o + 1) k then (.ok u k : P.PR P.T) else .bad k) t j B := hf
    show Fits (if P.bt s k = 41 then (.ok u (k + 1) : P.PR P.T) else .bad k) t _ _
    cases hst : stops s (o + 1) k with
    | true =>
      rw [hst] at hf'
      obtain ⟨e1, e2, e3⟩ := hf'
      subst e1; subst e2; subst e3
      by_cases h41 : P.bt s j = 41
      · have hse : seen (-1) s j 41 = true := seen_mk (by omega) h41
        rw [if_pos h41]
        refine ⟨rfl, ?_, ?_⟩
        · rw [hse]; rfl
        · unfold need; rw [hse]; rfl
      · rw [if_neg h41]
        show need (-1) s j 41 = (j : Int)
        unfold need; rw [seen_ne h41]
        simp only [Bool.false_eq_true, if_false]
        rw [mrk_neg (by omega)]
    | false =>
      rw [hst] at hf'
      have hp : B = (k : Int) := hf'
      have h41 : P.bt s k ≠ 41 := fun e => by rw [stops_41 e (by omega)] at hst; cases hst
      rw [if_neg h41]
      show need B s j 41 = (k : Int)
      unfold need
      rw [seen_pos (by omega)]
      simp only [Bool.false_eq_true, if_false]
      rw [mrk_pos (by omega), hp]

theorem group_sz {s : ByteArray} {j z : Nat} {B : Int} (hB : Mark B) (h : Sz B j z) : Sz (need B s j 41) (stp (seen B s j 41) j) z := by
  have hg := stp_ge (seen B s j 41) j
  refine ⟨by have := h.1; omega, fun hn => ?_⟩
  unfold need at hn
  cases hse : seen B s j 41 with
  | true => rw [hse] at hn; have := h.2 (by simpa using hn); rw [stp_true]; omega
  | false =>
    rw [hse] at hn
    simp only [Bool.false_eq_true, if_false] at hn
    exfalso
    rcases hB with e | e
    · rw [mrk_neg (by omega)] at hn; omega
    · rw [mrk_pos e] at hn; omega

theorem fin_out {s : ByteArray} {o : Nat} {r : P.PR P.T} (h : r ≠ .out) : fin s o r ≠ .out := by
  unfold fin
  cases r with
  | out => exact absurd rfl h
  | bad p => intro e; cases e
  | ok t j => intro e; replace e : (if stops s o j then (.ok t j : P.PR P.T) else .bad j) = .out := e; split at e <;> cases e

set_option maxHeartbeats 1000000 in
theorem atom_group (f b : Nat) (s : ByteArray) (hA : AnyC s b f) (i o z : Nat) (w : World) (hs : s.size ≤ 400) (hR : RB w b s i o z (-1)) (hl : i < s.size) (ho : o ≤ 20) (hz : Sz (-1) i z) (hc : P.bt s i = 40) (hP : P.atom s (f + 1) o i ≠ .out) :
    Calls Try.prog 30 #[.pointer (some ⟨b, 0, none⟩)] w fun e w' => OutN s b o z (gate (-1) (P.atom s (f + 1) o i)) w e w' := by
  have c0 := hR.c0
  have c1 := hR.c1
  have c2 := hR.c2
  have c4 := hR.c4
  have f1 := hR.fz 1
  have f2 := hR.fz 2
  have hlt := hR.lt
  have hl' : (i : Int) < (s.size : Int) := by omega
  have hl2 : decide ((s.size : Int) ≤ (i : Int)) = false := by simp; omega
  have hz1 := hz.2 (by omega)
  have HB : Hid (_) := bt_lt hl
  have b40 : (((s[i].toNat : Nat) : Int) == 40) = true := by rw [← HB.out, hc]; decide
  have HC : Hid (_) := hc
  by_cases h20 : o = 20
  · subst h20
    have HA : Hid (P.atom s (f + 1) 20 i = .bad i) := atom_deep hc
    clear hc hP
    go_enter Try.func30, Try.ntmps30
    go_wp2_with fail
    go_quiet (fail)
    go_wp2_with fail
    go_quiet (fail)
    go_wp2_with fail
    refine (wrong_any _ _ _ _ _ _ _ _ (hR.drewN _)).mono ?_
    rintro e w1 ⟨rfl, hq, ho⟩
    rw [mrk_neg (by omega)] at hq
    go_wp2_with fail
    refine (leaf_any 0 0 _ (by omega) (by omega) (by omega) (by omega)).mono ?_
    rintro e w2 ⟨rfl, hw2, hH2, hN2, hsz2⟩
    go_wp2_with fail
    go_ret
    have hl1 := hq.lt
    exact ⟨_, ⟨0, false⟩, i, i, rfl, (hw2.block b hl1).trans hq, (((Only.refl _ _).drewN _).trans ho).trans (Only.ofBelow hw2), .leaf (by omega) hN2, by omega, ⟨hz.1, fun h => by omega⟩, by rw [HA.out]; rfl⟩
  · have b20 : ((o : Int) == 20) = false := beq_false_of_ne (by omega)
    have HQ : Hid (P.alt s f (o + 1) (i + 1) ≠ .out) := by
      intro e; apply hP; rw [atom_open hc h20, e]; rfl
    have H20 : Hid (_) := h20
    have ho19 : o + 1 ≤ 20 := by omega
    have HA : Hid (_) := hA
    clear hc hP h20 hA
    go_enter Try.func30, Try.ntmps30
    go_wp2_with fail
    go_quiet (fail)
    go_wp2_with fail
    go_quiet (fail)
    go_wp2_with fail
    refine (HA.out (o + 1) (i + 1) z _ (((hR.drewN _).set1 (by omega)).set2 (by omega)) (by omega) ho19 ⟨by omega, fun _ => by omega⟩ HQ.out).mono ?_
    rintro e w1 ⟨n, t, i1, B1, rfl, hR1, ho1, hn1, hi1, hz1', hf1⟩
    go_wp2_with fail
    refine (needs_any 41 _ _ _ _ _ _ _ hs hR1 hi1 (by omega) (by omega)).mono ?_
    rintro e w2 ⟨rfl, hR2, ho2⟩
    have k2 := hR2.c2
    have kf := hR2.fz 2
    go_wp2_with fail
    go_ret
    refine ⟨n, t, _, _, rfl, hR2.set2 (by omega), Only.setCell (p := ⟨b, 2, none⟩) (((Only.setCell (p := ⟨b, 2, none⟩) (Only.setCell (p := ⟨b, 1, none⟩) ((Only.refl _ _).drewN _) rfl _) rfl _).trans ho1).trans ho2) rfl _, (hn1.only ho2).only (Only.setCell (p := ⟨b, 2, none⟩) (Only.refl _ _) rfl _), stp_le hi1 (by omega), group_sz hf1.mark hz1', group_fits HC.out H20.out hf1⟩

end Go.Proofs.Ytjhmlcilabnlbaa
