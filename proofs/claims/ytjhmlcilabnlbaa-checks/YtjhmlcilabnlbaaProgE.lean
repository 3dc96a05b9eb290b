/- The program: item. -/
import Derived.Test.YtjhmlcilabnlbaaProgD
namespace Go.Proofs.Ytjhmlcilabnlbaa
open Go.RowKit

theorem single_small (s : ByteArray) (i : Nat) : singleP ⟨#[92, 93, 45, 94]⟩ s i = P.small s i := by
  unfold singleP P.small
  by_cases h : P.bt s i = 92
  · rw [if_pos h, if_pos h]
  · rw [if_neg h, if_neg h]
    have hr := bt_range s i
    have hp := pk_range s i
    rw [small_row hp.1 hp.2]
    by_cases hn : P.bt s i < 0
    · have e : pk s i = 0 := by unfold pk; rw [if_pos hn]
      rw [e, if_neg (by decide), if_neg (by omega)]
    · have e : pk s i = P.bt s i := by unfold pk; rw [if_neg hn]
      rw [e]
      by_cases hc : 33 ≤ P.bt s i ∧ P.bt s i ≤ 126 ∧ P.bt s i ≠ 93 ∧ P.bt s i ≠ 45 ∧ P.bt s i ≠ 94
      · rw [if_pos hc, if_pos]
        simp [hc.1, hc.2.1, hc.2.2.1, hc.2.2.2.1, hc.2.2.2.2, h]
      · rw [if_neg hc, if_neg]
        intro hx
        apply hc
        simp only [Bool.and_eq_true, decide_eq_true_eq, Bool.not_eq_true', Bool.or_eq_false_iff, beq_eq_false_iff_ne] at hx
        exact ⟨hx.1.1, hx.1.2, hx.2.1.1.2, hx.2.1.2, hx.2.2⟩

/-- What an item comes to. -/
def ItemF (r : P.PR (Int × Int)) (a0 a1 a2 a3 : Int) (i : Nat) (k : Bool) : Prop :=
  match r with
  | .ok lh j => k = true ∧ i = j ∧ W4 a0 a1 a2 a3 (rg lh.1 lh.2)
  | .bad p => k = false ∧ i = p
  | .out => False

theorem item_bad1 {s : ByteArray} {i p : Nat} (h : P.small s i = .bad p) : P.item s i = .bad p := by unfold P.item; rw [h]; rfl
theorem item_one {s : ByteArray} {i j : Nat} {lo : Int} (h : P.small s i = .ok lo j) (h2 : P.bt s j ≠ 45) : P.item s i = .ok (lo, lo) j := by
  unfold P.item; rw [h]; show (if P.bt s j = 45 then _ else _) = _; rw [if_neg h2]
theorem item_bad2 {s : ByteArray} {i j p : Nat} {lo : Int} (h : P.small s i = .ok lo j) (h2 : P.bt s j = 45) (h3 : P.small s (j + 1) = .bad p) : P.item s i = .bad p := by
  unfold P.item; rw [h]; show (if P.bt s j = 45 then _ else _) = _; rw [if_pos h2, h3]; rfl
theorem item_low {s : ByteArray} {i j k : Nat} {lo hi : Int} (h : P.small s i = .ok lo j) (h2 : P.bt s j = 45) (h3 : P.small s (j + 1) = .ok hi k) (h4 : hi < lo) : P.item s i = .bad (j + 1) := by
  unfold P.item; rw [h]; show (if P.bt s j = 45 then _ else _) = _; rw [if_pos h2, h3]; show (if hi < lo then _ else _) = _; rw [if_pos h4]
theorem item_two {s : ByteArray} {i j k : Nat} {lo hi : Int} (h : P.small s i = .ok lo j) (h2 : P.bt s j = 45) (h3 : P.small s (j + 1) = .ok hi k) (h4 : ¬ hi < lo) : P.item s i = .ok (lo, hi) k := by
  unfold P.item; rw [h]; show (if P.bt s j = 45 then _ else _) = _; rw [if_pos h2, h3]; show (if hi < lo then _ else _) = _; rw [if_neg h4]

def OutS (s : ByteArray) (b o : Nat) (F : Int → Int → Int → Int → Nat → Bool → Prop) (w : World) (e : Ending) (w' : World) : Prop :=
  ∃ (a0 a1 a2 a3 : Int) (i' : Nat) (k : Bool), e = .returned (.tuple #[.agg #[.int .u64 a0, .int .u64 a1, .int .u64 a2, .int .u64 a3], .bool k]) ∧ QB w' b s i' o ∧ Only b w w' ∧ i' ≤ s.size ∧ F a0 a1 a2 a3 i' k

theorem Fit2.okD {r : P.PR Int} {v : Int} {i : Nat} (h : Fit2 r v i true) : r = .ok v i := by
  cases r with
  | ok a j => obtain ⟨-, rfl, rfl⟩ := h; rfl
  | bad p => cases h.1
  | out => exact h.elim
theorem Fit2.badD {r : P.PR Int} {v : Int} {i : Nat} (h : Fit2 r v i false) : r = .bad i := by
  cases r with
  | ok a j => cases h.1
  | bad p => rw [h.2]
  | out => exact h.elim

theorem QB.put4 {w : World} {b g : Nat} {s : ByteArray} {i o : Nat} (h : QB w b s i o) (hg : b ≠ g) (x0 x1 x2 x3 : Value) : QB ((((w.setCell ⟨g, 0, none⟩ x0).setCell ⟨g, 1, none⟩ x1).setCell ⟨g, 2, none⟩ x2).setCell ⟨g, 3, none⟩ x3) b s i o :=
  (Below.heap_setCell _ _ _ _ hg).trans ((Below.heap_setCell _ _ _ _ hg).trans ((Below.heap_setCell _ _ _ _ hg).trans ((Below.heap_setCell _ _ _ _ hg).trans h)))
theorem Only.put4 {x w : World} {b g : Nat} (h : Only b x w) (hg : x.heap.size ≤ g) (x0 x1 x2 x3 : Value) : Only b x ((((w.setCell ⟨g, 0, none⟩ x0).setCell ⟨g, 1, none⟩ x1).setCell ⟨g, 2, none⟩ x2).setCell ⟨g, 3, none⟩ x3) :=
  (((h.new (p := ⟨g, 0, none⟩) hg _).new (p := ⟨g, 1, none⟩) hg _).new (p := ⟨g, 2, none⟩) hg _).new (p := ⟨g, 3, none⟩) hg _

set_option maxHeartbeats 4000000 in
theorem pitem_any (b : Nat) (s : ByteArray) (i o : Nat) (w : World) (hs : s.size ≤ 400) (hR : QB w b s i o) (hi : i ≤ s.size) :
    Calls Try.prog 50 #[.pointer (some ⟨b, 0, none⟩)] w fun e w' => OutS s b o (ItemF (P.item s i)) w e w' := by
  have hlt := hR.lt
  have hQ0 : QB (w.alloc (.cells #[.int .u64 0, .int .u64 0, .int .u64 0, .int .u64 0] 35)) b s i o := heap_alloc_old hR hlt
  have hS0 : SB (w.alloc (.cells #[.int .u64 0, .int .u64 0, .int .u64 0, .int .u64 0] 35)) w.heap.size 0 0 0 0 := heap_alloc_at _ _
  have hO0 : Only b w (w.alloc (.cells #[.int .u64 0, .int .u64 0, .int .u64 0, .int .u64 0] 35)) := (Only.refl _ _).alloc _
  go_enter Try.func50, Try.ntmps50
  go_wp2_with fail
  refine (single_any _ _ _ _ _ _ hs hQ0 hi).mono ?_
  rintro e w1 ⟨lo, i1, k1, rfl, hR1, hO1, hlo0, hlo1, hi1, hf1⟩
  rw [single_small] at hf1
  have hS1 : SB w1 w.heap.size 0 0 0 0 := (hO1.block _ (by simp) (by omega)).trans hS0
  have hX1 := hO0.trans hO1
  cases k1 with
  | false =>
    have HI := hid (item_bad1 hf1.badD)
    clear hf1
    have s0 := hS1.c0
    have s1 := hS1.c1
    have s2 := hS1.c2
    have s3 := hS1.c3
    have sf := hS1.fz
    go_wp2_with fail
    have hF := (((hS1.s0 0).s1 0).s2 0).s3 0
    have r0 := hF.c0
    have r1 := hF.c1
    have r2 := hF.c2
    have r3 := hF.c3
    refine bodyPost_ret (v := .tuple #[.agg #[.int .u64 0, .int .u64 0, .int .u64 0, .int .u64 0], .bool false]) (by simp [results, Try.results50, go_sem, r0, r1, r2, r3]) rfl ⟨0, 0, 0, 0, i1, false, rfl, hR1.put4 (by omega) _ _ _ _, hX1.put4 (Nat.le_refl _) _ _ _ _, hi1, ?_⟩
    rw [HI.out]; exact ⟨rfl, rfl⟩
  | true =>
    have HSM := hid hf1.okD
    clear hf1
    have HE := hid (pk_eq (s := s) (i := i1) (c := 45) (by omega))
    have d1 := hR1.c1
    have df := hR1.fz 1
    cases hd : (pk s i1 == 45) with
    | false =>
      have HI := hid (item_one HSM.out (ne_of_beq_false (by rw [← HE.out]; exact hd)))
      go_wp2_with fail
      refine (peek_any _ _ _ _ _ hR1).mono ?_
      rintro e w2 ⟨rfl, n2, rfl⟩
      go_wp2_with fail
      refine (span_any lo lo _ hlo0 (by omega) hlo1).mono ?_
      rintro e w3 ⟨a0, a1, a2, a3, rfl, hW3, hB3⟩
      have HW3 := hid hW3
      clear hW3
      have hO3 : Only b w1 w3 := ((Only.refl _ _).drewN n2).trans (Only.ofBelow hB3)
      have hw1 : w.heap.size < w1.heap.size := by have := hO1.size; simp at this; omega
      have hS3 : SB w3 w.heap.size 0 0 0 0 := (hO3.block _ hw1 (by omega)).trans hS1
      have hR3 : QB w3 b s i1 o := (hB3.block b (by have := hR1.lt; simpa using this)).trans hR1
      have hX3 := hX1.trans hO3
      have s0 := hS3.c0
      have s1 := hS3.c1
      have s2 := hS3.c2
      have s3 := hS3.c3
      have sf := hS3.fz
      go_wp2_with fail
      have hF := (((hS3.s0 a0).s1 a1).s2 a2).s3 a3
      have r0 := hF.c0
      have r1 := hF.c1
      have r2 := hF.c2
      have r3 := hF.c3
      refine bodyPost_ret (v := .tuple #[.agg #[.int .u64 a0, .int .u64 a1, .int .u64 a2, .int .u64 a3], .bool true]) (by simp [results, Try.results50, go_sem, r0, r1, r2, r3]) rfl ⟨a0, a1, a2, a3, i1, true, rfl, hR3.put4 (by omega) _ _ _ _, hX3.put4 (Nat.le_refl _) _ _ _ _, hi1, ?_⟩
      rw [HI.out]; exact ⟨rfl, rfl, HW3.out⟩
    | true =>
      have h45 : P.bt s i1 = 45 := eq_of_beq (by rw [← HE.out]; exact hd)
      have hl1 := lt_of_bt (s := s) (i := i1) (by omega)
      have H45 := hid h45
      clear h45
      go_wp2_with fail
      refine (peek_any _ _ _ _ _ hR1).mono ?_
      rintro e w2 ⟨rfl, n2, rfl⟩
      go_wp2_with fail
      refine (single_any _ _ _ (i1 + 1) _ _ hs ((hR1.drewN _).set1 (by omega)) (by omega)).mono ?_
      rintro e w3 ⟨hh, i3, k3, rfl, hR3, hO3', hh0, hh1, hi3, hf3⟩
      rw [single_small] at hf3
      have hO3 : Only b w1 w3 := (Only.setCell (p := ⟨b, 1, none⟩) ((Only.refl _ _).drewN n2) rfl _).trans hO3'
      have hw1 : w.heap.size < w1.heap.size := by have := hO1.size; simp at this; omega
      have hS3 : SB w3 w.heap.size 0 0 0 0 := (hO3.block _ hw1 (by omega)).trans hS1
      have hX3 := hX1.trans hO3
      have e1 := hR3.c1
      have ef := hR3.fz 1
      have s0 := hS3.c0
      have s1 := hS3.c1
      have s2 := hS3.c2
      have s3 := hS3.c3
      have sf := hS3.fz
      cases k3 with
      | false =>
        have HI := hid (item_bad2 HSM.out H45.out hf3.badD)
        clear hf3
        go_wp2_with fail
        have hF := (((hS3.s0 0).s1 0).s2 0).s3 0
        have r0 := hF.c0
        have r1 := hF.c1
        have r2 := hF.c2
        have r3 := hF.c3
        refine bodyPost_ret (v := .tuple #[.agg #[.int .u64 0, .int .u64 0, .int .u64 0, .int .u64 0], .bool false]) (by simp [results, Try.results50, go_sem, r0, r1, r2, r3]) rfl ⟨0, 0, 0, 0, i3, false, rfl, hR3.put4 (by omega) _ _ _ _, hX3.put4 (Nat.le_refl _) _ _ _ _, hi3, ?_⟩
        rw [HI.out]; exact ⟨rfl, rfl⟩
      | true =>
        have HS3 := hid hf3.okD
        clear hf3
        by_cases hl : hh < lo
        · have HI := hid (item_low HSM.out H45.out HS3.out hl)
          go_wp2_with fail
          have hS4 := hS3.other (p := ⟨b, 1, none⟩) (by show w.heap.size ≠ b; omega) (.int .i64 ((i1 : Int) + 1))
          have hR4 := hR3.set1 (x := (i1 : Int) + 1) (j := i1 + 1) (by omega)
          have hX4 := Only.setCell (p := ⟨b, 1, none⟩) hX3 rfl (.int .i64 ((i1 : Int) + 1))
          have hF := (((hS4.s0 0).s1 0).s2 0).s3 0
          have r0 := hF.c0
          have r1 := hF.c1
          have r2 := hF.c2
          have r3 := hF.c3
          refine bodyPost_ret (v := .tuple #[.agg #[.int .u64 0, .int .u64 0, .int .u64 0, .int .u64 0], .bool false]) (by simp [results, Try.results50, go_sem, r0, r1, r2, r3]) rfl ⟨0, 0, 0, 0, i1 + 1, false, rfl, hR4.put4 (by omega) _ _ _ _, hX4.put4 (Nat.le_refl _) _ _ _ _, by omega, ?_⟩
          rw [HI.out]; exact ⟨rfl, rfl⟩
        · have HI := hid (item_two HSM.out H45.out HS3.out hl)
          have hl' : decide (hh < lo) = false := by simpa using hl
          go_wp2_with fail
          refine (span_any lo hh _ hlo0 (by omega) hh1).mono ?_
          rintro e w4 ⟨a0, a1, a2, a3, rfl, hW4, hB4⟩
          have HW4 := hid hW4
          clear hW4
          have hw3 : w.heap.size < w3.heap.size := by have := hO3.size; omega
          have hS4 : SB w4 w.heap.size 0 0 0 0 := (hB4.block _ hw3).trans hS3
          have hR4 : QB w4 b s i3 o := (hB4.block b hR3.lt).trans hR3
          have hX4 := hX3.trans (Only.ofBelow hB4)
          clear s0 s1 s2 s3 sf
          have s0 := hS4.c0
          have s1 := hS4.c1
          have s2 := hS4.c2
          have s3 := hS4.c3
          have sf := hS4.fz
          go_wp2_with fail
          have hF := (((hS4.s0 a0).s1 a1).s2 a2).s3 a3
          have r0 := hF.c0
          have r1 := hF.c1
          have r2 := hF.c2
          have r3 := hF.c3
          refine bodyPost_ret (v := .tuple #[.agg #[.int .u64 a0, .int .u64 a1, .int .u64 a2, .int .u64 a3], .bool true]) (by simp [results, Try.results50, go_sem, r0, r1, r2, r3]) rfl ⟨a0, a1, a2, a3, i3, true, rfl, hR4.put4 (by omega) _ _ _ _, hX4.put4 (Nat.le_refl _) _ _ _ _, hi3, ?_⟩
          rw [HI.out]; exact ⟨rfl, rfl, HW4.out⟩
end Go.Proofs.Ytjhmlcilabnlbaa
