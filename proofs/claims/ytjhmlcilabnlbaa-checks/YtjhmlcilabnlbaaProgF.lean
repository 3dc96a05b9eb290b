/- The program: brackets. -/
import Derived.Test.YtjhmlcilabnlbaaProgE
import Derived.Deep.DeepCutAuto
import Derived.ChangeKeysEq
namespace Go.Proofs.Ytjhmlcilabnlbaa
open Go.RowKit

def ClsF (r : P.PR Unit) (i : Nat) (k : Bool) : Prop :=
  match r with
  | .ok _ j => k = true ∧ i = j
  | .bad p => k = false ∧ i = p
  | .out => False

theorem W4.or {a0 a1 a2 a3 b0 b1 b2 b3 : Int} {p q : Nat → Bool} (h : W4 a0 a1 a2 a3 p) (k : W4 b0 b1 b2 b3 q) : W4 (orW a0 b0) (orW a1 b1) (orW a2 b2) (orW a3 b3) (fun x => p x || q x) :=
  ⟨h.1.or k.1, h.2.1.or k.2.1, h.2.2.1.or k.2.2.1, h.2.2.2.or k.2.2.2⟩
theorem W4.flip {a0 a1 a2 a3 : Int} {p : Nat → Bool} (h : W4 a0 a1 a2 a3 p) : W4 (flipW a0) (flipW a1) (flipW a2) (flipW a3) (fun x => !p x) :=
  ⟨h.1.flip, h.2.1.flip, h.2.2.1.flip, h.2.2.2.flip⟩
theorem W4.empty : W4 0 0 0 0 (fun _ => false) := ⟨Wd.zero, Wd.zero, Wd.zero, Wd.zero⟩
theorem W4.any {a0 a1 a2 a3 : Int} {p : Nat → Bool} (h : W4 a0 a1 a2 a3 p) : (a0 = 0 ∧ a1 = 0 ∧ a2 = 0 ∧ a3 = 0) ↔ ∀ x, x < 256 → p x = false := by
  rw [h.1.none, h.2.1.none, h.2.2.1.none, h.2.2.2.none]
  constructor
  · rintro ⟨h0, h1, h2, h3⟩ x hx
    by_cases e0 : x < 64
    · exact h0 x e0
    · by_cases e1 : x < 128
      · have := h1 (x - 64) (by omega); rwa [show 64 + (x - 64) = x from by omega] at this
      · by_cases e2 : x < 192
        · have := h2 (x - 128) (by omega); rwa [show 128 + (x - 128) = x from by omega] at this
        · have := h3 (x - 192) (by omega); rwa [show 192 + (x - 192) = x from by omega] at this
  · intro h
    exact ⟨fun j hj => h j (by omega), fun j hj => h (64 + j) (by omega), fun j hj => h (128 + j) (by omega), fun j hj => h (192 + j) (by omega)⟩

theorem items_next {s : ByteArray} {f i j : Nat} {acc : Nat → Bool} {lh : Int × Int} (h : P.item s i = .ok lh j) : P.items s (f + 1) i acc = if P.bt s j = 93 then .ok (P.add acc lh.1 lh.2) j else P.items s f j (P.add acc lh.1 lh.2) := by
  show (P.item s i).bind _ = _
  rw [h]; rfl
theorem items_bad {s : ByteArray} {f i p : Nat} {acc : Nat → Bool} (h : P.item s i = .bad p) : P.items s (f + 1) i acc = .bad p := by
  show (P.item s i).bind _ = _
  rw [h]; rfl

theorem SB.put4 {w : World} {g g' : Nat} {a0 a1 a2 a3 : Int} (h : SB w g a0 a1 a2 a3) (hg : g ≠ g') (x0 x1 x2 x3 : Value) : SB ((((w.setCell ⟨g', 0, none⟩ x0).setCell ⟨g', 1, none⟩ x1).setCell ⟨g', 2, none⟩ x2).setCell ⟨g', 3, none⟩ x3) g a0 a1 a2 a3 :=
  (Below.heap_setCell _ _ _ _ hg).trans ((Below.heap_setCell _ _ _ _ hg).trans ((Below.heap_setCell _ _ _ _ hg).trans ((Below.heap_setCell _ _ _ _ hg).trans h)))
theorem some_false (acc : Nat → Bool) (neg : Bool) : P.some256 acc neg = false ↔ ∀ x, x < 256 → (acc x != neg) = false := by
  unfold P.some256
  rw [List.any_eq_false]
  constructor
  · intro h x hx; have := h x (List.mem_range.2 hx); simpa using this
  · intro h x hx; have := h x (List.mem_range.1 hx); simp [this]

theorem Try.pt0 (w : World) (a0 a1 a2 a3 : Int) : (part 33 #[.int .u64 a0, .int .u64 a1, .int .u64 a2, .int .u64 a3] 0).run Try.prog w = .ok (.int .u64 a0) w := by kernel_rfl
theorem Try.pt1 (w : World) (a0 a1 a2 a3 : Int) : (part 33 #[.int .u64 a0, .int .u64 a1, .int .u64 a2, .int .u64 a3] 1).run Try.prog w = .ok (.int .u64 a1) w := by kernel_rfl
theorem Try.pt2 (w : World) (a0 a1 a2 a3 : Int) : (part 33 #[.int .u64 a0, .int .u64 a1, .int .u64 a2, .int .u64 a3] 2).run Try.prog w = .ok (.int .u64 a2) w := by kernel_rfl
theorem Try.pt3 (w : World) (a0 a1 a2 a3 : Int) : (part 33 #[.int .u64 a0, .int .u64 a1, .int .u64 a2, .int .u64 a3] 3).run Try.prog w = .ok (.int .u64 a3) w := by kernel_rfl
theorem Try.cells33 : Try.prog.cellsOf 33 = 1 := by kernel_rfl
theorem Try.info33 : ∃ i, Try.prog.info? 33 = some i := by
  cases h : Try.prog.info? 33 with
  | some i => exact ⟨i, rfl⟩
  | none =>
    have : (Try.prog.info? 33).isSome = true := by kernel_rfl
    rw [h] at this; cases this
/-- Is no byte in the set? -/
def emptyS (a0 a1 a2 a3 : Int) : Bool := a0 == 0 && (a1 == 0 && (a2 == 0 && a3 == 0))
theorem run_eqS (w : World) (a0 a1 a2 a3 : Int) : (binOp .eql 35 (.agg #[.int .u64 a0, .int .u64 a1, .int .u64 a2, .int .u64 a3]) (.agg #[.int .u64 0, .int .u64 0, .int .u64 0, .int .u64 0])).run Try.prog w = .ok (.bool (emptyS a0 a1 a2 a3)) w := by
  obtain ⟨i, hi⟩ := Try.info33
  rw [run_eql_struct, run_equalIn_array w 9999 _ _ Try.underlying35 hi, Try.cells33]
  have e : ∀ (w : World) (a b : Int), (Op.equalIn 9999 33 (.int .u64 a) (.int .u64 b)).run Try.prog w = .ok (a == b) w := fun w a b => run_equalIn_int w 9998 33 .u64 .u64 a b Try.underlying33
  have p0 := Try.pt0
  have p1 := Try.pt1
  have p2 := Try.pt2
  have p3 := Try.pt3
  rw [show List.range 4 = [0, 1, 2, 3] from rfl]
  unfold emptyS
  simp only [Op.eqItems, Sem.run_bind, p0, e, Result.andThen_ok, Nat.zero_mul]
  cases h0 : (a0 == 0) <;> cases h1 : (a1 == 0) <;> cases h2 : (a2 == 0) <;> cases h3 : (a3 == 0) <;> simp [h1, h2, h3, p1, p2, p3, e]
theorem emptyS_iff (a0 a1 a2 a3 : Int) : emptyS a0 a1 a2 a3 = true ↔ (a0 = 0 ∧ a1 = 0 ∧ a2 = 0 ∧ a3 = 0) := by simp [emptyS]
theorem empty_pos {a0 a1 a2 a3 : Int} {acc : Nat → Bool} (h : W4 a0 a1 a2 a3 acc) : emptyS a0 a1 a2 a3 = !P.some256 acc false := by
  rw [Bool.eq_iff_iff, emptyS_iff, h.any, Bool.not_eq_true', some_false]
  constructor
  · intro k x hx; rw [k x hx]; rfl
  · intro k x hx; have := k x hx; simpa using this
theorem empty_neg {a0 a1 a2 a3 : Int} {acc : Nat → Bool} (h : W4 a0 a1 a2 a3 acc) : emptyS (flipW a0) (flipW a1) (flipW a2) (flipW a3) = !P.some256 acc true := by
  rw [Bool.eq_iff_iff, emptyS_iff, h.flip.any, Bool.not_eq_true', some_false]
  constructor
  · intro k x hx; have := k x hx; simpa using this
  · intro k x hx; have := k x hx; simpa using this

set_option maxHeartbeats 8000000 in
theorem brackets_any (F b : Nat) (s : ByteArray) (i o : Nat) (w : World) (hs : s.size ≤ 400) (hR : QB w b s i o) (hi : i < s.size) (hP : P.cls s F (i + 1) ≠ .out) :
    Calls Try.prog 45 #[.pointer (some ⟨b, 0, none⟩)] w fun e w' => OutS s b o (fun _ _ _ _ => ClsF (P.cls s F (i + 1))) w e w' := by
  have hlt := hR.lt
  obtain ⟨R, hRd⟩ : ∃ R, R = P.items s F (if P.bt s (i + 1) = 94 then i + 1 + 1 else i + 1) (fun _ => false) := ⟨_, rfl⟩
  have HRn : Hid (R ≠ .out) := by
    intro e; apply hP; unfold P.cls; rw [← hRd, e]; rfl
  have HCL : Hid (P.cls s F (i + 1) = R.bind fun acc j => if P.some256 acc (P.bt s (i + 1) == 94) then .ok () (j + 1) else .bad j) := by unfold Hid P.cls; rw [hRd]
  have HRd := hid hRd
  clear hP hRd
  have c1 := hR.c1
  have f1 := hR.fz 1
  have hQ0 : QB ((w.setCell ⟨b, 1, none⟩ (.int .i64 ((i : Int) + 1))).alloc (.cells #[.int .u64 0, .int .u64 0, .int .u64 0, .int .u64 0] 35)) b s (i + 1) o := heap_alloc_old (hR.set1 (by omega)) (by simpa using hlt)
  have hS0 : SB ((w.setCell ⟨b, 1, none⟩ (.int .i64 ((i : Int) + 1))).alloc (.cells #[.int .u64 0, .int .u64 0, .int .u64 0, .int .u64 0] 35)) w.heap.size 0 0 0 0 := by
    have h := heap_alloc_at (w.setCell ⟨b, 1, none⟩ (.int .i64 ((i : Int) + 1))) (.cells #[.int .u64 0, .int .u64 0, .int .u64 0, .int .u64 0] 35)
    rw [World.size_setCell] at h
    exact h
  have hO0 : Only b w ((w.setCell ⟨b, 1, none⟩ (.int .i64 ((i : Int) + 1))).alloc (.cells #[.int .u64 0, .int .u64 0, .int .u64 0, .int .u64 0] 35)) := (Only.setCell (p := ⟨b, 1, none⟩) (Only.refl _ _) rfl _).alloc _
  go_enter Try.func45, Try.ntmps45
  go_wp2_with fail
  refine (take_any 94 _ _ (i + 1) _ _ hs hQ0 (by omega)).mono ?_
  rintro e w1 ⟨rfl, hR1, hO1'⟩
  have hO1 : Only b w w1 := hO0.trans hO1'
  have hw1 : w.heap.size < w1.heap.size := by have := hO1'.size; simp at this; omega
  have hS1 : SB w1 w.heap.size 0 0 0 0 := (hO1'.block _ (by simp) (by omega)).trans hS0
  have hi1 : stp (ahd s (i + 1) 94) (i + 1) ≤ s.size := by
    cases h : ahd s (i + 1) 94 with
    | true => have := lt_of_bt (s := s) (i := i + 1) (by have := ahd_true h; omega); rw [stp_true]; omega
    | false => rw [stp_false]; omega
  go_wp2_with fail
  go_loopg [6, 7] F (fun g _ _ wr => ∃ (ir fr : Nat) (acc : Nat → Bool) (a0 a1 a2 a3 : Int), fr ≤ g ∧ ir ≤ s.size ∧ QB wr b s ir o ∧ SB wr w.heap.size 0 0 0 0 ∧ SB wr w1.heap.size a0 a1 a2 a3 ∧ Only b w wr ∧ w1.heap.size < wr.heap.size ∧ Hid (W4 a0 a1 a2 a3 acc) ∧ Hid (R = P.items s fr ir acc))
  case atStart =>
    refine ⟨_, F, fun _ => false, 0, 0, 0, 0, Nat.le_refl _, hi1, heap_alloc_old hR1 hR1.lt, heap_alloc_old hS1 hw1, heap_alloc_at _ _, hO1.alloc _, by simp, W4.empty, ?_⟩
    rw [HRd.out]
    congr 1
    by_cases h : P.bt s (i + 1) = 94
    · rw [if_pos h, show ahd s (i + 1) 94 = true from by simp [ahd, h], stp_true]
    · rw [if_neg h, show ahd s (i + 1) 94 = false from by simp [ahd, h], stp_false]
  case round =>
    obtain ⟨ir, fr, acc, a0, a1, a2, a3, hfr, hir, hR2, hS2, hA2, hO2, hz2, hW, hI⟩ := hrel
    clear hR1 hS1 hO1 hQ0 hS0 hO0 c1 f1 hO1'
    cases fr with
    | zero => exact absurd hI.out HRn.out
    | succ fr =>
      go_wp2_with fail
      refine (pitem_any _ _ _ _ _ hs hR2 hir).mono ?_
      rintro e w3 ⟨b0, b1, b2, b3, i3, k3, rfl, hR3, hO3, hi3, hf3⟩
      have hS3 : SB w3 w.heap.size 0 0 0 0 := (hO3.block _ (by omega) (by omega)).trans hS2
      have hA3 : SB w3 w1.heap.size a0 a1 a2 a3 := (hO3.block _ hz2 (by omega)).trans hA2
      have hz3 := hO3.size
      have HF := hid hf3
      clear hf3
      cases k3 with
      | false =>
        have HX : Hid (ClsF (P.cls s F (i + 1)) i3 false) := by
          have h := HF.out
          cases hit : P.item s ir with
          | out => rw [hit] at h; exact h.elim
          | ok lh j => rw [hit] at h; cases h.1
          | bad p =>
            rw [hit] at h
            have e := h.2
            unfold Hid; rw [HCL.out, hI.out, items_bad hit]; exact ⟨rfl, e⟩
        have hSa : ∀ x, SB (w3.alloc x) w.heap.size 0 0 0 0 := fun x => heap_alloc_old hS3 (by omega)
        have s0 := fun x => (hSa x).c0
        have s1 := fun x => (hSa x).c1
        have s2 := fun x => (hSa x).c2
        have s3 := fun x => (hSa x).c3
        have sf := fun x => (hSa x).fz
        have hRa : ∀ x, QB (w3.alloc x) b s i3 o := fun x => heap_alloc_old hR3 hR3.lt
        have hXa : ∀ x, Only b w (w3.alloc x) := fun x => (hO2.trans hO3).alloc x
        go_wp2_with fail
        have hF := ((((hSa (.cells #[.int .u64 b0, .int .u64 b1, .int .u64 b2, .int .u64 b3] 35)).s0 0).s1 0).s2 0).s3 0
        have r0 := hF.c0
        have r1 := hF.c1
        have r2 := hF.c2
        have r3 := hF.c3
        refine bodyPost_ret (v := .tuple #[.agg #[.int .u64 0, .int .u64 0, .int .u64 0, .int .u64 0], .bool false]) (by simp [results, Try.results45, go_sem, r0, r1, r2, r3]) rfl ⟨0, 0, 0, 0, i3, false, rfl, (hRa (.cells #[.int .u64 b0, .int .u64 b1, .int .u64 b2, .int .u64 b3] 35)).put4 (by omega) _ _ _ _, (hXa (.cells #[.int .u64 b0, .int .u64 b1, .int .u64 b2, .int .u64 b3] 35)).put4 (Nat.le_refl _) _ _ _ _, hi3, ?_⟩
        exact HX.out
      | true =>
        have hA3a : ∀ x, SB (w3.alloc x) w1.heap.size a0 a1 a2 a3 := fun x => heap_alloc_old hA3 (by omega)
        have q0 := fun x => (hA3a x).c0
        have q1 := fun x => (hA3a x).c1
        have q2 := fun x => (hA3a x).c2
        have q3 := fun x => (hA3a x).c3
        obtain ⟨lo, hh, HIT⟩ : ∃ lo hh : Int, Hid (P.item s ir = .ok (lo, hh) i3 ∧ W4 b0 b1 b2 b3 (rg lo hh)) := by
          have h := HF.out
          cases hit : P.item s ir with
          | out => rw [hit] at h; exact h.elim
          | bad p => rw [hit] at h; cases h.1
          | ok lh j => rw [hit] at h; obtain ⟨-, rfl, h3⟩ := h; exact ⟨lh.1, lh.2, rfl, h3⟩
        have HW' : Hid (W4 (orW a0 b0) (orW a1 b1) (orW a2 b2) (orW a3 b3) (P.add acc lo hh)) := hW.out.or HIT.out.2
        have HI' := hid (hI.out.trans (items_next HIT.out.1))
        go_wp2_with fail
        refine (with_any _ _ _ _ _ _ _ _ _).mono ?_
        rintro e w4 ⟨rfl, hB4⟩
        have hz4 := hB4.size
        have hsz : (w3.alloc (.cells #[.int .u64 b0, .int .u64 b1, .int .u64 b2, .int .u64 b3] 35)).heap.size = w3.heap.size + 1 := by simp
        rw [hsz] at hz4
        have hS4 : SB w4 w.heap.size 0 0 0 0 := (hB4.block _ (by omega)).trans (heap_alloc_old hS3 (by omega))
        have hA4 : SB w4 w1.heap.size a0 a1 a2 a3 := (hB4.block _ (by omega)).trans (heap_alloc_old hA3 (by omega))
        have hR4 : QB w4 b s i3 o := (hB4.block b (by have := hR3.lt; omega)).trans (heap_alloc_old hR3 hR3.lt)
        have hX4 : Only b w w4 := ((hO2.trans hO3).alloc _).trans (Only.ofBelow hB4)
        clear q0 q1 q2 q3
        have t0 := hA4.c0
        have t1 := hA4.c1
        have t2 := hA4.c2
        have t3 := hA4.c3
        have tf := hA4.fz
        have hA5 := (((hA4.s0 (orW a0 b0)).s1 (orW a1 b1)).s2 (orW a2 b2)).s3 (orW a3 b3)
        have hR5 := hR4.put4 (g := w1.heap.size) (by omega) (.int .u64 (orW a0 b0)) (.int .u64 (orW a1 b1)) (.int .u64 (orW a2 b2)) (.int .u64 (orW a3 b3))
        have hS5 := hS4.put4 (g' := w1.heap.size) (by omega) (.int .u64 (orW a0 b0)) (.int .u64 (orW a1 b1)) (.int .u64 (orW a2 b2)) (.int .u64 (orW a3 b3))
        have hX5 := hX4.put4 (g := w1.heap.size) (by omega) (.int .u64 (orW a0 b0)) (.int .u64 (orW a1 b1)) (.int .u64 (orW a2 b2)) (.int .u64 (orW a3 b3))
        have HE := hid (pk_eq (s := s) (i := i3) (c := 93) (by omega))
        go_wp2_with fail
        refine (peek_any _ _ _ _ _ hR5).mono ?_
        rintro e w5 ⟨rfl, n5, rfl⟩
        cases h93 : (pk s i3 == 93) with
        | false =>
          have hb93 : P.bt s i3 ≠ 93 := ne_of_beq_false (by rw [← HE.out]; exact h93)
          have HI2 := HI'.out
          rw [if_neg hb93] at HI2
          have HI3 := hid HI2
          clear HI2 hb93
          go_wp2_with fail
          go_roundg fr
          case measure => omega
          case rel => exact ⟨i3, fr, _, _, _, _, _, Nat.le_refl _, hi3, hR5.drewN _, hS5, hA5, hX5.drewN _, by simp; omega, HW', HI3⟩
        | true =>
          have hb93 : P.bt s i3 = 93 := eq_of_beq (by rw [← HE.out]; exact h93)
          have hl3 := lt_of_bt (s := s) (i := i3) (by omega)
          have HI2 := HI'.out
          rw [if_pos hb93] at HI2
          have HI3 := hid HI2
          clear HI2 hb93
          have hq5 := run_eqS
          cases hne : ahd s (i + 1) 94 with
          | false =>
            have HG : Hid (emptyS (orW a0 b0) (orW a1 b1) (orW a2 b2) (orW a3 b3) = !P.some256 (P.add acc lo hh) (P.bt s (i + 1) == 94)) := by
              unfold Hid
              rw [show (P.bt s (i + 1) == 94) = false from hne]; exact empty_pos HW'.out
            have u0 := hA5.c0
            have u1 := hA5.c1
            have u2 := hA5.c2
            have u3 := hA5.c3
            have uf := hA5.fz
            have v0 := hS5.c0
            have v1 := hS5.c1
            have v2 := hS5.c2
            have v3 := hS5.c3
            have vf := hS5.fz
            have hS5d : SB ((((((w4.setCell ⟨w1.heap.size, 0, none⟩ (.int .u64 (orW a0 b0))).setCell ⟨w1.heap.size, 1, none⟩ (.int .u64 (orW a1 b1))).setCell ⟨w1.heap.size, 2, none⟩ (.int .u64 (orW a2 b2))).setCell ⟨w1.heap.size, 3, none⟩ (.int .u64 (orW a3 b3)))).drewN n5) w.heap.size 0 0 0 0 := hS5
            have hR5d := hR5.drewN n5
            have hX5d := hX5.drewN n5
            have vr := hR5.c1
            have vg := hR5.fz
            cases hem : emptyS (orW a0 b0) (orW a1 b1) (orW a2 b2) (orW a3 b3) with
            | true =>
              have HX : Hid (ClsF (P.cls s F (i + 1)) i3 false) := by
                have h := HG.out; rw [hem] at h
                unfold Hid; rw [HCL.out, HI3.out]
                show ClsF (if P.some256 (P.add acc lo hh) (P.bt s (i + 1) == 94) then _ else _) _ _
                rw [show P.some256 (P.add acc lo hh) (P.bt s (i + 1) == 94) = false from by simpa using h.symm]; exact ⟨rfl, rfl⟩
              go_wp2_with fail
              have hF := (((hS5d.s0 0).s1 0).s2 0).s3 0
              have r0 := hF.c0
              have r1 := hF.c1
              have r2 := hF.c2
              have r3 := hF.c3
              refine bodyPost_ret (v := .tuple #[.agg #[.int .u64 0, .int .u64 0, .int .u64 0, .int .u64 0], .bool false]) (by simp [results, Try.results45, go_sem, r0, r1, r2, r3]) rfl ⟨0, 0, 0, 0, i3, false, rfl, hR5d.put4 (by omega) _ _ _ _, hX5d.put4 (Nat.le_refl _) _ _ _ _, hi3, ?_⟩
              exact HX.out
            | false =>
              have HX : Hid (ClsF (P.cls s F (i + 1)) (i3 + 1) true) := by
                have h := HG.out; rw [hem] at h
                unfold Hid; rw [HCL.out, HI3.out]
                show ClsF (if P.some256 (P.add acc lo hh) (P.bt s (i + 1) == 94) then _ else _) _ _
                rw [show P.some256 (P.add acc lo hh) (P.bt s (i + 1) == 94) = true from by simpa using h.symm]; exact ⟨rfl, rfl⟩
              go_wp2_with fail
              have hS9 := hS5d.other (p := ⟨b, 1, none⟩) (by show w.heap.size ≠ b; omega) (.int .i64 ((i3 : Int) + 1))
              have hR9 := hR5d.set1 (x := (i3 : Int) + 1) (j := i3 + 1) (by omega)
              have hX9 := Only.setCell (p := ⟨b, 1, none⟩) hX5d rfl (.int .i64 ((i3 : Int) + 1))
              have hF := (((hS9.s0 (orW a0 b0)).s1 (orW a1 b1)).s2 (orW a2 b2)).s3 (orW a3 b3)
              have r0 := hF.c0
              have r1 := hF.c1
              have r2 := hF.c2
              have r3 := hF.c3
              refine bodyPost_ret (v := .tuple #[.agg #[.int .u64 (orW a0 b0), .int .u64 (orW a1 b1), .int .u64 (orW a2 b2), .int .u64 (orW a3 b3)], .bool true]) (by simp [results, Try.results45, go_sem, r0, r1, r2, r3]) rfl ⟨(orW a0 b0), (orW a1 b1), (orW a2 b2), (orW a3 b3), i3 + 1, true, rfl, hR9.put4 (by omega) _ _ _ _, hX9.put4 (Nat.le_refl _) _ _ _ _, by omega, ?_⟩
              exact HX.out
          | true =>
            have HG : Hid (emptyS (flipW (orW a0 b0)) (flipW (orW a1 b1)) (flipW (orW a2 b2)) (flipW (orW a3 b3)) = !P.some256 (P.add acc lo hh) (P.bt s (i + 1) == 94)) := by
              unfold Hid
              rw [show (P.bt s (i + 1) == 94) = true from hne]; exact empty_neg HW'.out
            have u0 := hA5.c0
            have u1 := hA5.c1
            have u2 := hA5.c2
            have u3 := hA5.c3
            have uf := hA5.fz
            go_wp2_with fail
            refine (rest_any _ _ _ _ _).mono ?_
            rintro e w6 ⟨rfl, hB6⟩
            have hsz5 : (((((w4.setCell ⟨w1.heap.size, 0, none⟩ (.int .u64 (orW a0 b0))).setCell ⟨w1.heap.size, 1, none⟩ (.int .u64 (orW a1 b1))).setCell ⟨w1.heap.size, 2, none⟩ (.int .u64 (orW a2 b2))).setCell ⟨w1.heap.size, 3, none⟩ (.int .u64 (orW a3 b3))).drewN n5).heap.size = w4.heap.size := by simp
            have hS6 : SB w6 w.heap.size 0 0 0 0 := (hB6.block _ (by rw [hsz5]; omega)).trans hS5
            have hA6 : SB w6 w1.heap.size (orW a0 b0) (orW a1 b1) (orW a2 b2) (orW a3 b3) := (hB6.block _ (by rw [hsz5]; omega)).trans hA5
            have hR6 : QB w6 b s i3 o := (hB6.block b (by rw [hsz5]; have := hR4.lt; omega)).trans hR5
            have hX6 : Only b w w6 := (hX5.drewN n5).trans (Only.ofBelow hB6)
            clear u0 u1 u2 u3 uf
            have hA7 := (((hA6.s0 (flipW (orW a0 b0))).s1 (flipW (orW a1 b1))).s2 (flipW (orW a2 b2))).s3 (flipW (orW a3 b3))
            have hS7 := hS6.put4 (g' := w1.heap.size) (by omega) (.int .u64 (flipW (orW a0 b0))) (.int .u64 (flipW (orW a1 b1))) (.int .u64 (flipW (orW a2 b2))) (.int .u64 (flipW (orW a3 b3)))
            have hR7 := hR6.put4 (g := w1.heap.size) (by omega) (.int .u64 (flipW (orW a0 b0))) (.int .u64 (flipW (orW a1 b1))) (.int .u64 (flipW (orW a2 b2))) (.int .u64 (flipW (orW a3 b3)))
            have hX7 := hX6.put4 (g := w1.heap.size) (by omega) (.int .u64 (flipW (orW a0 b0))) (.int .u64 (flipW (orW a1 b1))) (.int .u64 (flipW (orW a2 b2))) (.int .u64 (flipW (orW a3 b3)))
            have p0 := hA6.c0
            have p1 := hA6.c1
            have p2 := hA6.c2
            have p3 := hA6.c3
            have pf := hA6.fz
            have u0 := hA7.c0
            have u1 := hA7.c1
            have u2 := hA7.c2
            have u3 := hA7.c3
            have uf := hA7.fz
            have v0 := hS7.c0
            have v1 := hS7.c1
            have v2 := hS7.c2
            have v3 := hS7.c3
            have vf := hS7.fz
            have vr := hR7.c1
            have vg := hR7.fz
            cases hem : emptyS (flipW (orW a0 b0)) (flipW (orW a1 b1)) (flipW (orW a2 b2)) (flipW (orW a3 b3)) with
            | true =>
              have HX : Hid (ClsF (P.cls s F (i + 1)) i3 false) := by
                have h := HG.out; rw [hem] at h
                unfold Hid; rw [HCL.out, HI3.out]
                show ClsF (if P.some256 (P.add acc lo hh) (P.bt s (i + 1) == 94) then _ else _) _ _
                rw [show P.some256 (P.add acc lo hh) (P.bt s (i + 1) == 94) = false from by simpa using h.symm]; exact ⟨rfl, rfl⟩
              go_wp2_with fail
              have hF := (((hS7.s0 0).s1 0).s2 0).s3 0
              have r0 := hF.c0
              have r1 := hF.c1
              have r2 := hF.c2
              have r3 := hF.c3
              refine bodyPost_ret (v := .tuple #[.agg #[.int .u64 0, .int .u64 0, .int .u64 0, .int .u64 0], .bool false]) (by simp [results, Try.results45, go_sem, r0, r1, r2, r3]) rfl ⟨0, 0, 0, 0, i3, false, rfl, hR7.put4 (by omega) _ _ _ _, hX7.put4 (Nat.le_refl _) _ _ _ _, hi3, ?_⟩
              exact HX.out
            | false =>
              have HX : Hid (ClsF (P.cls s F (i + 1)) (i3 + 1) true) := by
                have h := HG.out; rw [hem] at h
                unfold Hid; rw [HCL.out, HI3.out]
                show ClsF (if P.some256 (P.add acc lo hh) (P.bt s (i + 1) == 94) then _ else _) _ _
                rw [show P.some256 (P.add acc lo hh) (P.bt s (i + 1) == 94) = true from by simpa using h.symm]; exact ⟨rfl, rfl⟩
              go_wp2_with fail
              have hS9 := hS7.other (p := ⟨b, 1, none⟩) (by show w.heap.size ≠ b; omega) (.int .i64 ((i3 : Int) + 1))
              have hR9 := hR7.set1 (x := (i3 : Int) + 1) (j := i3 + 1) (by omega)
              have hX9 := Only.setCell (p := ⟨b, 1, none⟩) hX7 rfl (.int .i64 ((i3 : Int) + 1))
              have hF := (((hS9.s0 (flipW (orW a0 b0))).s1 (flipW (orW a1 b1))).s2 (flipW (orW a2 b2))).s3 (flipW (orW a3 b3))
              have r0 := hF.c0
              have r1 := hF.c1
              have r2 := hF.c2
              have r3 := hF.c3
              refine bodyPost_ret (v := .tuple #[.agg #[.int .u64 (flipW (orW a0 b0)), .int .u64 (flipW (orW a1 b1)), .int .u64 (flipW (orW a2 b2)), .int .u64 (flipW (orW a3 b3))], .bool true]) (by simp [results, Try.results45, go_sem, r0, r1, r2, r3]) rfl ⟨(flipW (orW a0 b0)), (flipW (orW a1 b1)), (flipW (orW a2 b2)), (flipW (orW a3 b3)), i3 + 1, true, rfl, hR9.put4 (by omega) _ _ _ _, hX9.put4 (Nat.le_refl _) _ _ _ _, by omega, ?_⟩
              exact HX.out
end Go.Proofs.Ytjhmlcilabnlbaa
