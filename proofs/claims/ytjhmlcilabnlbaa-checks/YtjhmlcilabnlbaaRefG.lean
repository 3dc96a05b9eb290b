/- Contracts of the document's answer: the atoms of one set of bytes. -/
import Derived.Test.YtjhmlcilabnlbaaRefF
namespace Go.Proofs.Ytjhmlcilabnlbaa
open Go.RowKit

def oddB (c : Int) : Bool := amongI c [92, 46, 91, 93, 40, 41, 42, 43, 63, 124]
theorem odd_def (c : Int) : amongI c (ByteArray.mk #[92, 46, 91, 93, 40, 41, 42, 43, 63, 124]).data.toList = oddB c := rfl
theorem plain_odd (c : Int) : P.plain c = (decide (33 ≤ c) && decide (c ≤ 126) && !oddB c) := plain_among c

set_option maxHeartbeats 1000000 in
theorem atom_cls (f b : Nat) (s : ByteArray) (i o z : Nat) (w : World) (hs : s.size ≤ 400) (hR : RB w b s i o z (-1)) (hl : i < s.size) (hz : Sz (-1) i z) (hF : f ≤ 100000) (hc : P.bt s i = 91) (hP : P.cls s f (i + 1) ≠ .out) :
    Calls Try.prog 30 #[.pointer (some ⟨b, 0, none⟩)] w fun e w' => OutN s b o z (gate (-1) (P.atom s (f + 1) o i)) w e w' := by
  have c0 := hR.c0
  have c1 := hR.c1
  have c3 := hR.c3
  have c4 := hR.c4
  have f1 := hR.fz 1
  have f3 := hR.fz 3
  have hlt := hR.lt
  have hl' : (i : Int) < (s.size : Int) := by omega
  have hl2 : decide ((s.size : Int) ≤ (i : Int)) = false := by simp; omega
  have hz1 := hz.2 (by omega)
  have HB : Hid (_) := bt_lt hl
  have hO1 : ∀ (n : Nat) (x : Int), Only b w ((w.drewN n).setCell ⟨b, 3, none⟩ (.int .i64 x)) := fun n x => Only.setCell (p := ⟨b, 3, none⟩) ((Only.refl _ _).drewN _) rfl _
  have hO2 : ∀ (n : Nat) (x y : Int), Only b w (((w.drewN n).setCell ⟨b, 3, none⟩ (.int .i64 x)).setCell ⟨b, 1, none⟩ (.int .i64 y)) := fun n x y => Only.setCell (p := ⟨b, 1, none⟩) (hO1 n x) rfl _
  have HA : Hid (P.atom s (f + 1) o i = (P.cls s f (i + 1)).bind fun _ j => .ok ⟨1, false⟩ j) := by unfold Hid; rw [atom_leaf (by omega), leaf_cls hc]
  have HP : Hid (P.cls s f (i + 1) ≠ .out) := hP
  have b40 : (((s[i].toNat : Nat) : Int) == 40) = false := by rw [← HB.out, hc]; decide
  have b91 : (((s[i].toNat : Nat) : Int) == 91) = true := by rw [← HB.out, hc]; decide
  have b46 : (((s[i].toNat : Nat) : Int) == 46) = false := by rw [← HB.out, hc]; decide
  have b92 : (((s[i].toNat : Nat) : Int) == 92) = false := by rw [← HB.out, hc]; decide
  clear hc hP
  go_enter Try.func30, Try.ntmps30
  go_wp2_with fail
  go_quiet (fail)
  go_wp2_with fail
  go_quiet (fail)
  go_wp2_with fail
  refine (class_at w.heap.size f _ _ (i + 1) _ (z + 1) _ (by simp) hs hF (((hR.drewN _).set3 (by omega)).set1 (by omega)) (by omega) HP.out).mono ?_
  rintro e w1 ⟨i1, B1, rfl, hR1, hN1, ho1, ⟨hi0, hi1⟩, hf1⟩
  go_wp2_with fail
  go_ret
  refine ⟨_, ⟨1, false⟩, i1, B1, rfl, hR1, (hO2 _ _ _).trans ho1, .leaf (by omega) hN1, hi1, ⟨by simp only; omega, fun _ => by simp only; omega⟩, ?_⟩
  · rw [HA.out]
    refine Fits.bind (B0 := -1) hf1 ?_
    rcases hf1.mark with h | h
    · rw [h]; exact Fits.ok _ _
    · exact Fits.past h _ _ _

set_option maxHeartbeats 1000000 in
theorem atom_dot (f b : Nat) (s : ByteArray) (i o z : Nat) (w : World) (hs : s.size ≤ 400) (hR : RB w b s i o z (-1)) (hl : i < s.size) (hz : Sz (-1) i z) (hc : P.bt s i = 46) :
    Calls Try.prog 30 #[.pointer (some ⟨b, 0, none⟩)] w fun e w' => OutN s b o z (gate (-1) (P.atom s (f + 1) o i)) w e w' := by
  have c0 := hR.c0
  have c1 := hR.c1
  have c3 := hR.c3
  have c4 := hR.c4
  have f1 := hR.fz 1
  have f3 := hR.fz 3
  have hlt := hR.lt
  have hl' : (i : Int) < (s.size : Int) := by omega
  have hl2 : decide ((s.size : Int) ≤ (i : Int)) = false := by simp; omega
  have hz1 := hz.2 (by omega)
  have HB : Hid (_) := bt_lt hl
  have hO1 : ∀ (n : Nat) (x : Int), Only b w ((w.drewN n).setCell ⟨b, 3, none⟩ (.int .i64 x)) := fun n x => Only.setCell (p := ⟨b, 3, none⟩) ((Only.refl _ _).drewN _) rfl _
  have hO2 : ∀ (n : Nat) (x y : Int), Only b w (((w.drewN n).setCell ⟨b, 3, none⟩ (.int .i64 x)).setCell ⟨b, 1, none⟩ (.int .i64 y)) := fun n x y => Only.setCell (p := ⟨b, 1, none⟩) (hO1 n x) rfl _
  have HA : Hid (P.atom s (f + 1) o i = .ok ⟨1, false⟩ (i + 1)) := by unfold Hid; rw [atom_leaf (by omega), leaf_dot hc]; rfl
  have b40 : (((s[i].toNat : Nat) : Int) == 40) = false := by rw [← HB.out, hc]; decide
  have b91 : (((s[i].toNat : Nat) : Int) == 91) = false := by rw [← HB.out, hc]; decide
  have b46 : (((s[i].toNat : Nat) : Int) == 46) = true := by rw [← HB.out, hc]; decide
  have b92 : (((s[i].toNat : Nat) : Int) == 92) = false := by rw [← HB.out, hc]; decide
  clear hc
  go_enter Try.func30, Try.ntmps30
  go_wp2_with fail
  go_quiet (fail)
  go_wp2_with fail
  go_quiet (fail)
  go_wp2_with fail
  refine (leaf_at w.heap.size 0 255 _ (by simp) (by omega) (by omega) (by omega) (by omega)).mono ?_
  rintro e w1 ⟨rfl, hw1, hH1, hN1, hsz1⟩
  have n1 := hN1.c1
  have g1 := hH1.cell (k := 10) (by omega)
  have g2 := hH1.fz 10
  have hR1 : RB w1 b s (i + 1) o (z + 1) (-1) := (hw1.block b (by omega)).trans (((hR.drewN _).set3 (by omega)).set1 (by omega))
  go_wp2_with fail
  go_ret
  refine ⟨_, ⟨1, false⟩, i + 1, -1, rfl, (Below.heap_setCell _ _ _ _ (by simp; omega)).trans hR1, ((hO2 _ _ _).trans (Only.ofBelow (by simpa using hw1))).new (by simp) _, .leaf (by omega) (hN1.other (by simp) _), by omega, ⟨by simp only; omega, fun _ => by simp only; omega⟩, by rw [HA.out]; exact Fits.ok _ _⟩

set_option maxHeartbeats 1000000 in
theorem atom_esc (f b : Nat) (s : ByteArray) (i o z : Nat) (w : World) (hs : s.size ≤ 400) (hR : RB w b s i o z (-1)) (hl : i < s.size) (hz : Sz (-1) i z) (hc : P.bt s i = 92) :
    Calls Try.prog 30 #[.pointer (some ⟨b, 0, none⟩)] w fun e w' => OutN s b o z (gate (-1) (P.atom s (f + 1) o i)) w e w' := by
  have c0 := hR.c0
  have c1 := hR.c1
  have c3 := hR.c3
  have c4 := hR.c4
  have f1 := hR.fz 1
  have f3 := hR.fz 3
  have hlt := hR.lt
  have hl' : (i : Int) < (s.size : Int) := by omega
  have hl2 : decide ((s.size : Int) ≤ (i : Int)) = false := by simp; omega
  have hz1 := hz.2 (by omega)
  have HB : Hid (_) := bt_lt hl
  have hO1 : ∀ (n : Nat) (x : Int), Only b w ((w.drewN n).setCell ⟨b, 3, none⟩ (.int .i64 x)) := fun n x => Only.setCell (p := ⟨b, 3, none⟩) ((Only.refl _ _).drewN _) rfl _
  have hO2 : ∀ (n : Nat) (x y : Int), Only b w (((w.drewN n).setCell ⟨b, 3, none⟩ (.int .i64 x)).setCell ⟨b, 1, none⟩ (.int .i64 y)) := fun n x y => Only.setCell (p := ⟨b, 1, none⟩) (hO1 n x) rfl _
  have HA : Hid (P.atom s (f + 1) o i = (P.esc s (i + 1)).bind fun _ j => .ok ⟨1, false⟩ j) := by
    unfold Hid; rw [atom_leaf (by omega), leaf_esc hc]; cases P.esc s (i + 1) <;> rfl
  have b40 : (((s[i].toNat : Nat) : Int) == 40) = false := by rw [← HB.out, hc]; decide
  have b91 : (((s[i].toNat : Nat) : Int) == 91) = false := by rw [← HB.out, hc]; decide
  have b46 : (((s[i].toNat : Nat) : Int) == 46) = false := by rw [← HB.out, hc]; decide
  have b92 : (((s[i].toNat : Nat) : Int) == 92) = true := by rw [← HB.out, hc]; decide
  clear hc
  go_enter Try.func30, Try.ntmps30
  go_wp2_with fail
  go_quiet (fail)
  go_wp2_with fail
  go_quiet (fail)
  go_wp2_with fail
  refine (escape_any _ _ (i + 1) _ (z + 1) _ _ hs (((hR.drewN _).set3 (by omega)).set1 (by omega)) (by omega) (Or.inl rfl)).mono ?_
  rintro e w1 ⟨v1, i1, B1, rfl, hR1, ho1, hv0, hv1, ⟨hi0, hi1⟩, hf1⟩
  go_wp2_with fail
  refine (leaf_any v1 v1 _ (by omega) (by omega) (by omega) (by omega)).mono ?_
  rintro e w2 ⟨rfl, hw2, hH2, hN2, hsz2⟩
  go_wp2_with fail
  go_ret
  have hl1 := hR1.lt
  refine ⟨_, ⟨1, false⟩, i1, B1, rfl, (hw2.block b hl1).trans hR1, ((hO2 _ _ _).trans ho1).trans (Only.ofBelow hw2), .leaf (by omega) hN2, hi1, ⟨by simp only; omega, fun _ => by simp only; omega⟩, ?_⟩
  · rw [HA.out]
    refine hf1.bind ?_
    rcases hf1.mark with h | h
    · rw [h]; exact Fits.ok _ _
    · exact Fits.past h _ _ _

set_option maxRecDepth 100000 in
set_option maxHeartbeats 1000000 in
theorem atom_plain (f b : Nat) (s : ByteArray) (i o z : Nat) (w : World) (hs : s.size ≤ 400) (hR : RB w b s i o z (-1)) (hl : i < s.size) (hz : Sz (-1) i z) (h40 : P.bt s i ≠ 40) (h91 : P.bt s i ≠ 91) (h46 : P.bt s i ≠ 46) (h92 : P.bt s i ≠ 92) :
    Calls Try.prog 30 #[.pointer (some ⟨b, 0, none⟩)] w fun e w' => OutN s b o z (gate (-1) (P.atom s (f + 1) o i)) w e w' := by
  have c0 := hR.c0
  have c1 := hR.c1
  have c3 := hR.c3
  have c4 := hR.c4
  have f1 := hR.fz 1
  have f3 := hR.fz 3
  have hlt := hR.lt
  have hl' : (i : Int) < (s.size : Int) := by omega
  have hl2 : decide ((s.size : Int) ≤ (i : Int)) = false := by simp; omega
  have hz1 := hz.2 (by omega)
  have HB : Hid (_) := bt_lt hl
  have hO1 : ∀ (n : Nat) (x : Int), Only b w ((w.drewN n).setCell ⟨b, 3, none⟩ (.int .i64 x)) := fun n x => Only.setCell (p := ⟨b, 3, none⟩) ((Only.refl _ _).drewN _) rfl _
  have hO2 : ∀ (n : Nat) (x y : Int), Only b w (((w.drewN n).setCell ⟨b, 3, none⟩ (.int .i64 x)).setCell ⟨b, 1, none⟩ (.int .i64 y)) := fun n x y => Only.setCell (p := ⟨b, 1, none⟩) (hO1 n x) rfl _
  have HA : Hid (P.atom s (f + 1) o i = if P.plain (P.bt s i) then .ok ⟨1, false⟩ (i + 1) else .bad i) := by
    unfold Hid; rw [atom_leaf h40]
    cases hp : P.plain (P.bt s i) with
    | true => rw [leaf_plain h91 h46 h92 hp]; rfl
    | false => rw [leaf_odd h91 h46 h92 hp]; rfl
  have hr := bt_range s i
  have hr0 : 0 ≤ P.bt s i := by rw [HB.out]; omega
  have b40 : (((s[i].toNat : Nat) : Int) == 40) = false := by rw [← HB.out]; exact beq_false_of_ne h40
  have b91 : (((s[i].toNat : Nat) : Int) == 91) = false := by rw [← HB.out]; exact beq_false_of_ne h91
  have b46 : (((s[i].toNat : Nat) : Int) == 46) = false := by rw [← HB.out]; exact beq_false_of_ne h46
  have b92 : (((s[i].toNat : Nat) : Int) == 92) = false := by rw [← HB.out]; exact beq_false_of_ne h92
  clear h40 h91 h46 h92
  go_enter Try.func30, Try.ntmps30
  go_wp2_with fail
  go_quiet (fail)
  go_wp2_with fail
  go_quiet (fail)
  go_wp2_with fail
  rw [← HB.out]
  generalize hc : P.bt s i = c at *
  have HC : Hid (_) := hc
  clear hc
  refine (among_any c _ _ (by decide) hr0 (by omega)).mono ?_
  rintro e w' ⟨rfl, rfl⟩
  rw [odd_def]
  have hbad : ∀ (r : Prop), (P.plain c = false → r) → ((c < 33 ∨ 126 < c) ∨ oddB c = true) → r := by
    intro r hr hx
    apply hr
    rw [plain_odd]
    rcases hx with (h | h) | h
    · have : ¬ 33 ≤ c := by omega
      simp [this]
    · have : ¬ c ≤ 126 := by omega
      simp [this]
    · simp [h]
  have hgood : ((33 ≤ c ∧ c ≤ 126) ∧ oddB c = false) → P.plain c = true := by
    rintro ⟨⟨h1, h2⟩, h3⟩
    rw [plain_odd]; simp [h1, h2, h3]
  have HBad : Hid (_) := hbad
  have HGood : Hid (_) := hgood
  clear hbad hgood
  go_wp2_with fail
  · refine (wrong_any _ _ _ _ _ (z + 1) _ _ ((hR.drewN _).set3 (by omega))).mono ?_
    rintro e w1 ⟨rfl, hq, ho⟩
    rw [mrk_neg (by omega)] at hq
    go_wp2_with fail
    refine (leaf_any 0 0 _ (by omega) (by omega) (by omega) (by omega)).mono ?_
    rintro e w2 ⟨rfl, hw2, hH2, hN2, hsz2⟩
    go_wp2_with fail
    go_ret
    have hl1 := hq.lt
    refine ⟨_, ⟨1, false⟩, i, i, rfl, (hw2.block b hl1).trans hq, ((hO1 _ _).trans ho).trans (Only.ofBelow hw2), .leaf (by omega) hN2, by omega, ⟨by simp only; omega, fun h => by omega⟩, ?_⟩
    exact HBad.out _ (fun hp => by rw [HA.out, hp]; rfl) ‹(c < 33 ∨ 126 < c) ∨ oddB c = true›
  · refine (leaf_at w.heap.size c c _ (by simp) (by omega) (by omega) (by omega) (by omega)).mono ?_
    rintro e w2 ⟨rfl, hw2, hH2, hN2, hsz2⟩
    go_wp2_with fail
    go_ret
    have hR2 : RB w2 b s (i + 1) o (z + 1) (-1) := (hw2.block b (by omega)).trans (((hR.drewN _).set3 (by omega)).set1 (by omega))
    refine ⟨_, ⟨1, false⟩, i + 1, -1, rfl, hR2, (hO2 _ _ _).trans (Only.ofBelow (by simpa using hw2)), .leaf (by omega) hN2, by omega, ⟨by simp only; omega, fun _ => by simp only; omega⟩, ?_⟩
    rw [HA.out, HGood.out ‹(33 ≤ c ∧ c ≤ 126) ∧ oddB c = false›]; exact Fits.ok _ _
  all_goals
    refine (wrong_any _ _ _ _ _ (z + 1) _ _ ((hR.drewN _).set3 (by omega))).mono ?_
    rintro e w1 ⟨rfl, hq, ho⟩
    rw [mrk_neg (by omega)] at hq
    go_wp2_with fail
    refine (leaf_any 0 0 _ (by omega) (by omega) (by omega) (by omega)).mono ?_
    rintro e w2 ⟨rfl, hw2, hH2, hN2, hsz2⟩
    go_wp2_with fail
    go_ret
    have hl1 := hq.lt
    refine ⟨_, ⟨1, false⟩, i, i, rfl, (hw2.block b hl1).trans hq, ((hO1 _ _).trans ho).trans (Only.ofBelow hw2), .leaf (by omega) hN2, by omega, ⟨by simp only; omega, fun h => by omega⟩, ?_⟩
    exact HBad.out _ (fun hp => by rw [HA.out, hp]; rfl) (by omega)

end Go.Proofs.Ytjhmlcilabnlbaa
