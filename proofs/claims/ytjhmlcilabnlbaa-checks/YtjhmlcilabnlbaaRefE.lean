/- Contracts of the document's answer: class. -/
import Derived.Test.YtjhmlcilabnlbaaClsPure
import Derived.Deep.LoopGhost
import Derived.Deep.DeepCutAuto
namespace Go.Proofs.Ytjhmlcilabnlbaa
open Go.RowKit

theorem neg_of (s : ByteArray) (i : Nat) : seen (-1) s i 94 = (P.bt s i == 94) := by simp [seen]
theorem stp_of (s : ByteArray) (i : Nat) : stp (seen (-1) s i 94) i = if P.bt s i = 94 then i + 1 else i := by
  by_cases h : P.bt s i = 94
  · rw [seen_mk (by omega) h, if_pos h]; rfl
  · rw [seen_ne h, if_neg h]; rfl
theorem stp_ge (t : Bool) (i : Nat) : i ≤ stp t i := by cases t; exact Nat.le_refl _; exact Nat.le_succ _
theorem stp_le {s : ByteArray} {i : Nat} {B c : Int} (hi : i ≤ s.size) (hc : 0 ≤ c) : stp (seen B s i c) i ≤ s.size := by
  cases h : seen B s i c with
  | true => have := lt_of_bt (s := s) (i := i) (by have := (seen_true h).2; omega); rw [stp_true]; omega
  | false => exact hi

theorem clsB_true (B : Int) (i : Nat) : clsB B i true = B := rfl
theorem clsB_false (B : Int) (i : Nat) : clsB B i false = mrk B i := rfl
/-- What lies in memory in the rounds. -/
def Cm (w wr : World) (b : Nat) (s : ByteArray) (o z i : Nat) (B : Int) (acc : Nat → Bool) : Prop :=
  RB wr b s i o z B ∧ HasB wr w.heap.size acc ∧ NB wr (w.heap.size + 1) 99 (.slice (some ⟨w.heap.size, 0, none⟩) 256 256) (.pointer none) (.pointer none) ∧ Only b w wr ∧ i ≤ s.size ∧ Mark B

set_option maxHeartbeats 1000000 in
theorem class_any (F b : Nat) (s : ByteArray) (i o z : Nat) (w : World) (hs : s.size ≤ 400) (hF : F ≤ 100000) (hR : RB w b s i o z (-1)) (hi : i ≤ s.size) (hP : P.cls s F i ≠ .out) :
    Calls Try.prog 34 #[.pointer (some ⟨b, 0, none⟩)] w fun e w' => ∃ i' B' acc, e = .returned (.pointer (some ⟨w.heap.size + 1, 0, none⟩)) ∧ Cm w w' b s o z i' B' acc ∧ i ≤ i' ∧ Fits (P.cls s F i) () i' B' := by
  have hb := hR.lt
  obtain ⟨R, hRdef⟩ : ∃ R, R = P.items s F (if P.bt s i = 94 then i + 1 else i) (fun _ => false) := ⟨_, rfl⟩
  have hRn : R ≠ .out := by
    intro e; apply hP; unfold P.cls; rw [← hRdef, e]; rfl
  have HRn : Hid (R ≠ .out) := hRn
  have HR : Hid (_) := hRdef
  have HP : Hid (_) := hP
  clear hRdef hRn hP
  go_enter Try.func34, Try.ntmps34
  go_wp2_with fail
  refine (leaf_any 1 0 _ (by omega) (by omega) (by omega) (by omega)).mono ?_
  rintro e w1 ⟨rfl, hw1, hH1, hN1, hz1⟩
  rw [show rng 1 0 = fun _ => false from rng_none 1] at hH1
  have ho1 : Only b w w1 := Only.ofBelow hw1
  have hR1 : RB w1 b s i o z (-1) := (hw1.block b hb).trans hR
  go_wp2_with fail
  refine (takes_any 94 _ _ _ _ _ _ _ hs hR1 hi (by omega) (by omega)).mono ?_
  rintro e w2 ⟨rfl, hR2, ho2⟩
  have hH2 := hH1.only ho2 (by omega)
  have hN2 := hN1.only ho2 (by omega)
  have hi2 : stp (seen (-1) s i 94) i ≤ s.size := stp_le hi (by omega)
  go_wp2_with fail
  go_loopg [5] F (fun g k wr => ∃ (kk ir : Nat) (B : Int) (acc : Nat → Bool), k = .int .i64 (kk : Int) ∧ kk ≤ F ∧ Cm w wr b s o z ir B acc ∧ i ≤ ir ∧ Hid (Jt s R F g kk ir B acc))
  case atStart =>
    refine ⟨0, _, -1, _, rfl, by omega, ⟨hR2, hH2, hN2, ho1.trans ho2, hi2, Or.inl rfl⟩, stp_ge _ _, ?_⟩
    rw [HR.out, stp_of]; exact Jt_start _ _ _ _
  case round =>
    obtain ⟨kk, ir, B, acc, rfl, hkk, ⟨hRr, hHr, hNr, hOr, hir, hBr⟩, hii, hJ⟩ := hrel
    have c1 := hRr.c1
    have c4 := hRr.c4
    clear hR2 hR1 hH1 hH2 hN1 hN2
    rcases hJ.out with ⟨hb0, hr⟩ | ⟨hb0, hk0, h93, hr⟩ | ⟨hb0, hk0, fr, hfr, hfg, hr⟩
    · have hx : Hid (0 ≤ B ∨ (kk ≠ 0 ∧ P.bt s ir = 93)) := Or.inl hb0
      clear hr
      go_wp2_with fail
      go_loopg [11, 12] 256 (fun g a x wx => ∃ q : Nat, q ≤ 256 ∧ x = .int .i64 (q : Int) ∧ a = .bool (anyUp acc (seen (-1) s i 94) q) ∧ 256 - q ≤ g ∧ RB wx b s ir o z B ∧ HasB wx w.heap.size (flip acc (seen (-1) s i 94) q) ∧ NB wx (w.heap.size + 1) 99 (.slice (some ⟨w.heap.size, 0, none⟩) 256 256) (.pointer none) (.pointer none) ∧ Only b w wx)
      case atStart => exact ⟨0, by omega, rfl, rfl, by omega, hRr, by rw [flip_zero]; exact hHr, hNr, hOr⟩
      case round =>
        obtain ⟨q, hq, rfl, rfl, hqg, hR6, hH6, hN6, hX6⟩ := hrel
        by_cases hlt : q < 256
        · have hlt' : (q : Int) < 256 := by omega
          have c1 := hH6.cell (k := q) hlt
          rw [flip_at] at c1
          have f1 := hH6.fz q
          have n1 := hN6.c1
          have hset := hH6.set hlt (acc q != seen (-1) s i 94)
          rw [flip_succ] at hset
          have hcs := hset.cell (k := q) hlt
          have HS : Hid (_) := hset
          clear hset
          have HO : Hid (Only b w (wr.setCell ⟨w.heap.size, q, none⟩ (.bool (acc q != seen (-1) s i 94)))) := hX6.new (Nat.le_refl _) _
          have HN : Hid (NB (wr.setCell ⟨w.heap.size, q, none⟩ (.bool (acc q != seen (-1) s i 94))) (w.heap.size + 1) 99 (.slice (some ⟨w.heap.size, 0, none⟩) 256 256) (.pointer none) (.pointer none)) := hN6.other (by simp) _
          have HB : Hid (RB (wr.setCell ⟨w.heap.size, q, none⟩ (.bool (acc q != seen (-1) s i 94))) b s ir o z B) := (Below.heap_setCell _ _ _ _ (by simp; omega)).trans hR6
          cases ha : anyUp acc (seen (-1) s i 94) q with
          | true =>
            go_wp2_with fail
            go_region
            go_wp2_with fail
            go_roundg (gk - 1)
            case measure => omega
            case rel => exact ⟨q + 1, by omega, by go_num, by rw [anyUp_succ, ha]; rfl, by omega, HB.out, HS.out, HN.out, HO.out.drew⟩
          | false =>
            go_wp2_with fail
            go_region
            go_wp2_with fail
            go_roundg (gk - 1)
            case measure => omega
            case rel => exact ⟨q + 1, by omega, by go_num, by rw [anyUp_succ, ha]; rfl, by omega, HB.out, HS.out, HN.out, HO.out.drew⟩
        · have hq2 : q = 256 := by omega
          subst hq2
          rw [anyUp_all]
          have c1 := hR6.c1
          have HE := cls_end (stp_of s i) (by have := hJ.out; rw [HR.out] at this; rw [stp_of]; exact this) hx.out
          rw [neg_of] at hH6 ⊢
          cases hany : P.some256 acc (P.bt s i == 94) with
          | true =>
            go_wp2_with fail
            refine (needs_any 93 _ _ _ _ _ _ _ hs hR6 hir (by omega) (by omega)).mono ?_
            rintro e w7 ⟨rfl, hR7, ho7⟩
            go_wp2_with fail
            go_ret
            refine ⟨_, _, _, rfl, ⟨hR7, hH6.only ho7 (by omega), hN6.only ho7 (by omega), hX6.trans ho7, stp_le hir (by omega), ?_⟩, Nat.le_trans hii (stp_ge _ _), ?_⟩
            · rw [hany, clsB_true] at HE; exact HE.mark
            · rw [hany, clsB_true] at HE; exact HE
          | false =>
            go_wp2_with fail
            refine (wrong_any _ _ _ _ _ _ _ _ hR6).mono ?_
            rintro e w6 ⟨rfl, hR62, ho6⟩
            go_wp2_with fail
            refine (needs_any 93 _ _ _ _ _ _ _ hs hR62 hir (by omega) (by omega)).mono ?_
            rintro e w7 ⟨rfl, hR7, ho7⟩
            go_wp2_with fail
            go_ret
            refine ⟨_, _, _, rfl, ⟨hR7, (hH6.only ho6 (by omega)).only ho7 (by omega), (hN6.only ho6 (by omega)).only ho7 (by omega), (hX6.trans ho6).trans ho7, stp_le hir (by omega), ?_⟩, Nat.le_trans hii (stp_ge _ _), ?_⟩
            · rw [hany, clsB_false] at HE; exact HE.mark
            · rw [hany, clsB_false] at HE; exact HE
    · have hx : Hid (0 ≤ B ∨ (kk ≠ 0 ∧ P.bt s ir = 93)) := Or.inr ⟨hk0, h93⟩
      clear hr
      subst hb0
      have hs93 : seen (-1) s ir 93 = true := seen_mk (by omega) h93
      have hk0' : ((kk : Int) == 0) = false := beq_false_of_ne (by omega)
      clear h93
      go_upto_if 29 with (go_at_call 29; refine (sees_any 93 _ _ _ _ _ _ _ hRr hir (by omega) (by omega)).mono ?_; rintro e w' ⟨rfl, nq, rfl⟩)
      replace hRr := hRr.drewN nq
      replace hHr := hHr.drewN nq
      replace hNr := hNr.drewN nq
      replace hOr := hOr.drewN nq
      go_wp2_with fail
      go_loopg [11, 12] 256 (fun g a x wx => ∃ q : Nat, q ≤ 256 ∧ x = .int .i64 (q : Int) ∧ a = .bool (anyUp acc (seen (-1) s i 94) q) ∧ 256 - q ≤ g ∧ RB wx b s ir o z (-1) ∧ HasB wx w.heap.size (flip acc (seen (-1) s i 94) q) ∧ NB wx (w.heap.size + 1) 99 (.slice (some ⟨w.heap.size, 0, none⟩) 256 256) (.pointer none) (.pointer none) ∧ Only b w wx)
      case atStart => exact ⟨0, by omega, rfl, rfl, by omega, hRr, by rw [flip_zero]; exact hHr, hNr, hOr⟩
      case round =>
        obtain ⟨q, hq, rfl, rfl, hqg, hR6, hH6, hN6, hX6⟩ := hrel
        by_cases hlt : q < 256
        · have hlt' : (q : Int) < 256 := by omega
          have c1 := hH6.cell (k := q) hlt
          rw [flip_at] at c1
          have f1 := hH6.fz q
          have n1 := hN6.c1
          have hset := hH6.set hlt (acc q != seen (-1) s i 94)
          rw [flip_succ] at hset
          have hcs := hset.cell (k := q) hlt
          have HS : Hid (_) := hset
          clear hset
          have HO : Hid (Only b w (wr.setCell ⟨w.heap.size, q, none⟩ (.bool (acc q != seen (-1) s i 94)))) := hX6.new (Nat.le_refl _) _
          have HN : Hid (NB (wr.setCell ⟨w.heap.size, q, none⟩ (.bool (acc q != seen (-1) s i 94))) (w.heap.size + 1) 99 (.slice (some ⟨w.heap.size, 0, none⟩) 256 256) (.pointer none) (.pointer none)) := hN6.other (by simp) _
          have HB : Hid (RB (wr.setCell ⟨w.heap.size, q, none⟩ (.bool (acc q != seen (-1) s i 94))) b s ir o z (-1)) := (Below.heap_setCell _ _ _ _ (by simp; omega)).trans hR6
          cases ha : anyUp acc (seen (-1) s i 94) q with
          | true =>
            go_wp2_with fail
            go_region
            go_wp2_with fail
            go_roundg (gk - 1)
            case measure => omega
            case rel => exact ⟨q + 1, by omega, by go_num, by rw [anyUp_succ, ha]; rfl, by omega, HB.out, HS.out, HN.out, HO.out.drew⟩
          | false =>
            go_wp2_with fail
            go_region
            go_wp2_with fail
            go_roundg (gk - 1)
            case measure => omega
            case rel => exact ⟨q + 1, by omega, by go_num, by rw [anyUp_succ, ha]; rfl, by omega, HB.out, HS.out, HN.out, HO.out.drew⟩
        · have hq2 : q = 256 := by omega
          subst hq2
          rw [anyUp_all]
          have c1 := hR6.c1
          have HE := cls_end (stp_of s i) (by have := hJ.out; rw [HR.out] at this; rw [stp_of]; exact this) hx.out
          rw [neg_of] at hH6 ⊢
          cases hany : P.some256 acc (P.bt s i == 94) with
          | true =>
            go_wp2_with fail
            refine (needs_any 93 _ _ _ _ _ _ _ hs hR6 hir (by omega) (by omega)).mono ?_
            rintro e w7 ⟨rfl, hR7, ho7⟩
            go_wp2_with fail
            go_ret
            refine ⟨_, _, _, rfl, ⟨hR7, hH6.only ho7 (by omega), hN6.only ho7 (by omega), hX6.trans ho7, stp_le hir (by omega), ?_⟩, Nat.le_trans hii (stp_ge _ _), ?_⟩
            · rw [hany, clsB_true] at HE; exact HE.mark
            · rw [hany, clsB_true] at HE; exact HE
          | false =>
            go_wp2_with fail
            refine (wrong_any _ _ _ _ _ _ _ _ hR6).mono ?_
            rintro e w6 ⟨rfl, hR62, ho6⟩
            go_wp2_with fail
            refine (needs_any 93 _ _ _ _ _ _ _ hs hR62 hir (by omega) (by omega)).mono ?_
            rintro e w7 ⟨rfl, hR7, ho7⟩
            go_wp2_with fail
            go_ret
            refine ⟨_, _, _, rfl, ⟨hR7, (hH6.only ho6 (by omega)).only ho7 (by omega), (hN6.only ho6 (by omega)).only ho7 (by omega), (hX6.trans ho6).trans ho7, stp_le hir (by omega), ?_⟩, Nat.le_trans hii (stp_ge _ _), ?_⟩
            · rw [hany, clsB_false] at HE; exact HE.mark
            · rw [hany, clsB_false] at HE; exact HE
    · have HR2 : Hid (_) := hr
      subst hb0
      clear hr hJ
      have hsee : (kk : Int) = 0 ∨ ((kk : Int) ≠ 0 ∧ seen (-1) s ir 93 = false) := by
        by_cases e : kk = 0
        · left; omega
        · right; exact ⟨by omega, seen_ne (hk0.resolve_left e)⟩
      have HK : Hid (_) := hk0
      clear hk0
      go_upto_region 4 with fail
      go_cut [29] (fun c wx => c = .bool true ∧ ∃ n, wx = wr.drewN n)
      case first =>
        rcases hsee with h0 | ⟨h0, h1⟩
        · have h0' : ((kk : Int) == 0) = true := by simp [h0]
          go_wp2_with fail
          go_meet
          exact ⟨rfl, 0, rfl⟩
        · have h0' : ((kk : Int) == 0) = false := beq_false_of_ne h0
          go_wp2_with (go_at_call 29; refine (sees_any 93 _ _ _ _ _ _ _ hRr hir (by omega) (by omega)).mono ?_; rintro e w' ⟨rfl, nq, rfl⟩)
          go_meet
          exact ⟨rfl, nq, rfl⟩
      case rest =>
        obtain ⟨rfl, nq, rfl⟩ := hcut
        clear hsee
        go_wp2_with fail
        refine (small_any _ _ _ _ _ _ _ hs (hRr.drewN _) hir (Or.inl rfl)).mono ?_
        rintro e w3 ⟨lo, i3, B3, rfl, hR3, ho3, hlo, hlo', ⟨hi3', hi3⟩, hf3⟩
        go_wp2_with fail
        refine (takes_any 45 _ _ _ _ _ _ _ hs hR3 hi3 (by omega) (by omega)).mono ?_
        rintro e w4 ⟨rfl, hR4, ho4⟩
        go_upto_if 37 with fail
        have hb3 := hf3.mark
        have hX : Only b w w4 := ((hOr.drewN _).trans ho3).trans ho4
        go_cut [7, 8] (fun h _ wx => ∃ (hh : Int) (i5 : Nat) (B5 : Int), h = .int .i64 hh ∧ 0 ≤ hh ∧ hh ≤ 255 ∧ RB wx b s i5 o z B5 ∧ Only b w4 wx ∧ (i ≤ i5 ∧ i5 ≤ s.size) ∧ Hid (Fits (gate (-1) (P.item s ir)) (lo, hh) i5 B5))
        case first =>
          have HF3 : Hid (_) := hf3
          clear hf3
          cases hd : seen B3 s i3 45 with
          | false =>
            rw [hd] at hR4
            go_wp2_with fail
            go_meet
            exact ⟨lo, i3, B3, rfl, hlo, hlo', hR4, Only.refl _ _, ⟨by omega, hi3⟩, item_nodash HF3.out hd⟩
          | true =>
            have hlt3 : i3 + 1 ≤ s.size := by have := stp_le (B := B3) (c := 45) hi3 (by omega); rw [hd] at this; exact this
            rw [hd, stp_true] at hR4
            have c41 := hR4.c1
            have hd' : Hid (_) := hd
            go_wp2_with fail
            refine (small_any _ _ _ _ _ _ _ hs hR4 hlt3 hb3).mono ?_
            rintro e w5 ⟨hh, i5, B5, rfl, hR5, ho5, hh0, hh1, ⟨hi5', hi5⟩, hf5⟩
            have HF5 : Hid (_) := item_dash HF3.out hd'.out hf5
            clear hf5
            by_cases hl : hh < lo
            · go_wp2_with fail
              refine (wrong_any _ _ _ _ _ _ _ _ hR5).mono ?_
              rintro e w6 ⟨rfl, hR6, ho6⟩
              go_wp2_with fail
              go_meet
              refine ⟨hh, i5, _, rfl, hh0, hh1, hR6, ho5.trans ho6, ⟨by omega, hi5⟩, ?_⟩
              have := HF5.out
              rw [if_pos hl] at this
              exact this
            · have hl' : decide (hh < lo) = false := by simpa using hl
              go_wp2_with fail
              go_meet
              refine ⟨hh, i5, _, rfl, hh0, hh1, hR5, ho5, ⟨by omega, hi5⟩, ?_⟩
              have := HF5.out
              rw [if_neg (by omega)] at this
              exact this
        case rest =>
          obtain ⟨hh, i5, B5, rfl, hh0, hh1, hR5, ho5, ⟨hi5', hi5⟩, hf5⟩ := hcut
          have hb5 := hf5.out.mark
          have hX5 : Only b w wc := hX.trans ho5
          have hH5 : HasB wc w.heap.size acc := (((hHr.drewN _).only ho3 (by omega)).only ho4 (by omega)).only ho5 (by omega)
          have hN5 := (((hNr.drewN _).only ho3 (by omega)).only ho4 (by omega)).only ho5 (by omega)
          clear hRr hHr hNr hOr c1 c4 hR3 hR4 hb3 ho3 ho4 ho5 hX
          go_wp2_with fail
          go_loopg [10] (hh + 1 - lo).toNat (fun g x wx => ∃ k : Int, x = .int .i64 k ∧ lo ≤ k ∧ (k = lo ∨ k ≤ hh + 1) ∧ (hh + 1 - k).toNat ≤ g ∧ RB wx b s i5 o z B5 ∧ HasB wx w.heap.size (addB B5 acc lo (k - 1)) ∧ NB wx (w.heap.size + 1) 99 (.slice (some ⟨w.heap.size, 0, none⟩) 256 256) (.pointer none) (.pointer none) ∧ Only b w wx)
          case atStart => exact ⟨lo, rfl, by omega, Or.inl rfl, by omega, hR5, by rw [addB_start]; exact hH5, hN5, hX5⟩
          case round =>
            obtain ⟨k, rfl, hk1, hk2, hkg, hR6, hH6, hN6, hX6⟩ := hrel
            have c4 := hR6.c4
            have n1 := hN6.c1
            by_cases hgo : k ≤ hh ∧ B5 < 0
            · obtain ⟨hgo1, hgo2⟩ := hgo
              have c1 := hH6.cell (k := k.toNat) (by omega)
              have f1 := hH6.fz k.toNat
              go_wp2_with fail
              go_roundg (gk - 1)
              case measure => omega
              case rel =>
                refine ⟨k + 1, rfl, by omega, by omega, by omega, ?_, ?_, hN6.other (by simp) _, hX6.new (by simp) _⟩
                · exact (Below.heap_setCell _ _ _ _ (by simp; omega)).trans hR6
                · rw [← addB_step hgo2 hlo hk1]; exact hH6.set (by omega) true
            · have hJr := Jt_round HR2.out HRn.out hfr hfg hf5.out (acc' := addB B5 acc lo (k - 1)) (addB_past (by intro e h; exact hgo ⟨h, by omega⟩) hk2 acc)
              obtain ⟨g', hg', hJ', hF'⟩ := hJr
              have HJ' : Hid (_) := hJ'
              clear hJ'
              have hends : (hh < k) ∨ (k ≤ hh ∧ 0 ≤ B5) := by omega
              clear hgo
              rcases hends with hx | ⟨hx1, hx2⟩
              all_goals
                go_wp2_with fail
                go_roundg g'
                case measure => exact hg'
                case rel => exact ⟨kk + 1, i5, B5, _, by go_num, hF', ⟨hR6, hH6, hN6, hX6, hi5, hb5⟩, hi5', HJ'⟩

theorem class_at (N F b : Nat) (s : ByteArray) (i o z : Nat) (w : World) (hN : w.heap.size = N) (hs : s.size ≤ 400) (hF : F ≤ 100000) (hR : RB w b s i o z (-1)) (hi : i ≤ s.size) (hP : P.cls s F i ≠ .out) :
    Calls Try.prog 34 #[.pointer (some ⟨b, 0, none⟩)] w fun e w' => ∃ i' B', e = .returned (.pointer (some ⟨N + 1, 0, none⟩)) ∧ RB w' b s i' o z B' ∧ NB w' (N + 1) 99 (.slice (some ⟨N, 0, none⟩) 256 256) (.pointer none) (.pointer none) ∧ Only b w w' ∧ (i ≤ i' ∧ i' ≤ s.size) ∧ Fits (P.cls s F i) () i' B' := by
  subst hN
  refine (class_any F b s i o z w hs hF hR hi hP).mono ?_
  rintro e w' ⟨i', B', acc, rfl, ⟨h1, -, h3, h4, h5, -⟩, h6, h7⟩
  exact ⟨i', B', rfl, h1, h3, h4, ⟨h6, h5⟩, h7⟩
end Go.Proofs.Ytjhmlcilabnlbaa
