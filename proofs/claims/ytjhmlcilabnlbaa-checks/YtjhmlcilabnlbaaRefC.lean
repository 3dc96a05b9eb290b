/- Contracts of the document's answer: small. -/
import Derived.Test.YtjhmlcilabnlbaaRefB
namespace Go.Proofs.Ytjhmlcilabnlbaa
open Go.RowKit

theorem small_esc {s : ByteArray} {i : Nat} (h : P.bt s i = 92) : P.small s i = P.esc s (i + 1) := by unfold P.small; rw [if_pos h]
theorem small_bad {s : ByteArray} {i : Nat} (h : P.bt s i < 33 ∨ 126 < P.bt s i ∨ amongI (P.bt s i) [93, 45, 94] = true) : P.small s i = .bad i := by
  unfold P.small
  have h92 : P.bt s i ≠ 92 := by
    rintro e
    rw [e] at h
    rcases h with h | h | h
    · omega
    · omega
    · exact absurd h (by decide)
  rw [if_neg h92, if_neg]
  rintro ⟨a, b, c, d, e⟩
  rcases h with h | h | h
  · omega
  · omega
  · simp [amongI] at h; omega
theorem small_ok {s : ByteArray} {i : Nat} (h0 : P.bt s i ≠ 92) (h1 : 33 ≤ P.bt s i) (h2 : P.bt s i ≤ 126) (h3 : amongI (P.bt s i) [93, 45, 94] = false) : P.small s i = .ok (P.bt s i) (i + 1) := by
  unfold P.small
  rw [if_neg h0, if_pos]
  simp [amongI] at h3
  exact ⟨h1, h2, by omega, by omega, by omega⟩

set_option maxHeartbeats 800000 in
theorem small_any (b : Nat) (s : ByteArray) (i o z : Nat) (B : Int) (w : World) (hs : s.size ≤ 400) (hR : RB w b s i o z B) (hi : i ≤ s.size) (hB : Mark B) :
    Calls Try.prog 40 #[.pointer (some ⟨b, 0, none⟩)] w fun e w' => OutI s b o z i 255 (gate B (P.small s i)) w e w' := by
  have c0 := hR.c0
  have c1 := hR.c1
  have c4 := hR.c4
  have f1 := hR.fz 1
  by_cases hb : 0 ≤ B
  · go_enter Try.func40, Try.ntmps40
    go_wp2_with fail
    go_quiet (fail)
    go_wp2_with (go_at_call 16; refine (wrong_any _ _ _ _ _ _ _ _ (hR.drewN _)).mono ?_; rintro e w' ⟨rfl, hq, ho⟩)
    go_ret
    exact ⟨0, i, _, rfl, hq, ((Only.refl _ _).drewN _).trans ho, by omega, by omega, ⟨Nat.le_refl _, hi⟩, by rw [mrk_pos hb]; exact Fits.past hb _ _ _⟩
  · have hB1 : B = -1 := by rcases hB with h | h <;> omega
    subst hB1
    clear hB hb
    by_cases hl : i < s.size
    · have hl' : (i : Int) < (s.size : Int) := by omega
      have hl2 : decide ((s.size : Int) ≤ (i : Int)) = false := by simp; omega
      have hr := bt_range s i
      have HB : Hid (_) := bt_lt hl
      have hr0 : 0 ≤ P.bt s i := by rw [HB.out]; omega
      have hO : ∀ (n : Nat) (x : Int), Only b w ((w.drewN n).setCell ⟨b, 1, none⟩ (.int .i64 x)) := fun n x => Only.setCell (p := ⟨b, 1, none⟩) ((Only.refl _ _).drewN _) rfl _
      cases h92 : (((s[i].toNat : Nat) : Int) == 92) with
      | true =>
        have H92 : Hid (P.bt s i = 92) := by unfold Hid; rw [HB.out]; exact eq_of_beq h92
        go_enter Try.func40, Try.ntmps40
        go_wp2_with fail
        go_quiet (fail)
        go_wp2_with fail
        go_quiet (fail)
        go_wp2_with fail
        refine (escape_any _ _ (i + 1) _ _ _ _ hs ((hR.drewN _).set1 (by omega)) (by omega) (Or.inl rfl)).mono ?_
        rintro e w1 ⟨v1, i1, B1, rfl, hq1, ho1, hv1, hv1', ⟨hi0, hi1⟩, hf1⟩
        go_wp2_with fail
        go_ret
        exact ⟨v1, i1, B1, rfl, hq1, (hO _ _).trans ho1, hv1, hv1', ⟨by omega, hi1⟩, by rw [small_esc H92.out]; exact hf1⟩
      | false =>
        have H92 : Hid (P.bt s i ≠ 92) := by unfold Hid; rw [HB.out]; exact ne_of_beq_false h92
        go_enter Try.func40, Try.ntmps40
        go_wp2_with fail
        go_quiet (fail)
        go_wp2_with fail
        go_quiet (fail)
        go_wp2_with fail
        rw [← HB.out]
        generalize hc : P.bt s i = c at *
        have HC : Hid (_) := hc
        clear hc
        refine (among_any c _ _ (by decide) hr0 (by omega)).mono ?_
        rintro e w' ⟨rfl, rfl⟩
        go_wp2_with fail
        · refine (wrong_any _ _ _ _ _ _ _ _ (hR.drewN _)).mono ?_
          rintro e w' ⟨rfl, hq, ho⟩
          go_wp2_with fail
          go_ret
          refine ⟨0, i, _, rfl, hq, ((Only.refl _ _).drewN _).trans ho, by omega, by omega, ⟨Nat.le_refl _, hi⟩, ?_⟩
          rw [gate_neg, small_bad (by rw [HC.out]; have := ‹(c < 33 ∨ 126 < c) ∨ amongI c [93, 45, 94] = true›; exact this.elim (fun h => h.elim Or.inl (fun h => Or.inr (Or.inl h))) (fun h => Or.inr (Or.inr h)))]; rfl
        · go_ret
          obtain ⟨⟨k1, k2⟩, k3⟩ := ‹(33 ≤ c ∧ c ≤ 126) ∧ amongI c [93, 45, 94] = false›
          refine ⟨c, i + 1, -1, rfl, (hR.drewN _).set1 (by omega), hO _ _, by omega, by omega, ⟨by omega, by omega⟩, ?_⟩
          rw [gate_neg, small_ok (by rw [HC.out]; exact H92.out) (by rw [HC.out]; exact k1) (by rw [HC.out]; exact k2) (by rw [HC.out]; exact k3), HC.out]; exact ⟨rfl, rfl, rfl⟩
        all_goals
          refine (wrong_any _ _ _ _ _ _ _ _ (hR.drewN _)).mono ?_
          rintro e w' ⟨rfl, hq, ho⟩
          go_wp2_with fail
          go_ret
          refine ⟨0, i, _, rfl, hq, ((Only.refl _ _).drewN _).trans ho, by omega, by omega, ⟨Nat.le_refl _, hi⟩, ?_⟩
          rw [gate_neg, small_bad (by rw [HC.out]; first | exact Or.inl ‹c < 33› | exact Or.inr (Or.inl ‹126 < c›))]; rfl
    · have hl2 : (s.size : Int) ≤ (i : Int) := by omega
      go_enter Try.func40, Try.ntmps40
      go_wp2_with fail
      go_quiet (fail)
      go_wp2_with (go_at_call 16; refine (wrong_any _ _ _ _ _ _ _ _ (hR.drewN _)).mono ?_; rintro e w' ⟨rfl, hq, ho⟩)
      go_ret
      refine ⟨0, i, _, rfl, hq, ((Only.refl _ _).drewN _).trans ho, by omega, by omega, ⟨Nat.le_refl _, hi⟩, ?_⟩
      rw [gate_neg, small_bad (by rw [bt_ge hl]; omega)]; rfl
end Go.Proofs.Ytjhmlcilabnlbaa
