/- Contracts of the document's answer: row. -/
import Derived.Test.YtjhmlcilabnlbaaRowEnd
namespace Go.Proofs.Ytjhmlcilabnlbaa
open Go.RowKit

def szO (a : Option P.T) : Nat := match a with | none => 0 | some t => t.sz
def NodeO (w : World) (b : Nat) (n : Option Addr) (a : Option P.T) : Prop := match a with | none => n = none | some t => ∃ m, n = some ⟨m, 0, none⟩ ∧ RN w b m t.em
theorem NodeO.only {w w' : World} {b : Nat} {n : Option Addr} {a : Option P.T} (h : NodeO w b n a) (k : Only b w w') : NodeO w' b n a := by
  cases a with
  | none => exact h
  | some t => obtain ⟨m, e, hr⟩ := h; exact ⟨m, e, hr.only k⟩
theorem joinT_sz (a : Option P.T) (u : P.T) : (joinT a u).sz = szO a + u.sz := by cases a <;> simp [joinT, szO]

theorem mark_node {wr : World} {b n2 : Nat} {em : Bool} {c : Int} (hb : b < wr.heap.size) (hn : RN wr b n2 em) (k : Nat) (x y : Value) {fm : Bool} (hc : ((c = 42 ∨ c = 63) ∧ fm = true) ∨ (c = 43 ∧ fm = em)) :
    RN ((((wr.drewN k).alloc (.cells #[.int .u8 c, .slice none 0 0, .pointer (some ⟨n2, 0, none⟩), .pointer none] 64)).setCell ⟨b, 3, none⟩ x).setCell ⟨b, 1, none⟩ y) b wr.heap.size fm := by
  have hO : Only b wr ((((wr.drewN k).alloc (.cells #[.int .u8 c, .slice none 0 0, .pointer (some ⟨n2, 0, none⟩), .pointer none] 64)).setCell ⟨b, 3, none⟩ x).setCell ⟨b, 1, none⟩ y) :=
    Only.setCell (p := ⟨b, 1, none⟩) (Only.setCell (p := ⟨b, 3, none⟩) (((Only.refl _ _).drewN _).alloc _) rfl _) rfl _
  have hN : NB ((((wr.drewN k).alloc (.cells #[.int .u8 c, .slice none 0 0, .pointer (some ⟨n2, 0, none⟩), .pointer none] 64)).setCell ⟨b, 3, none⟩ x).setCell ⟨b, 1, none⟩ y) wr.heap.size c (.slice none 0 0) (.pointer (some ⟨n2, 0, none⟩)) (.pointer none) :=
    NB.other (NB.other (NB.alloc (w := wr.drewN k)) (by show wr.heap.size ≠ b; omega) _) (by show wr.heap.size ≠ b; omega) _
  rcases hc with ⟨h, rfl⟩ | ⟨rfl, rfl⟩
  · exact .opt h hb hN
  · exact .plus hb hN (hn.only hO)

set_option maxRecDepth 100000 in
set_option maxHeartbeats 20000000 in
theorem row_any (F b : Nat) (s : ByteArray) (hs : s.size ≤ 400) (hA : ∀ f, f < F → AtomC s b f) (hA1 : AtomC s b 1) : RowC s b F := by
  intro o i z w hR hi ho hz hP
  have hlt := hR.lt
  obtain ⟨R, hRd⟩ : ∃ R, R = fin s o (P.row s F o i) := ⟨_, rfl⟩
  have HRn : Hid (R ≠ .out) := by unfold Hid; rw [hRd]; exact fin_out hP
  have HRd := hid (hRd)
  have HA := hid (hA)
  have HA1 := hid (hA1)
  clear hA hA1 hP
  rw [← hRd]
  clear hRd
  go_enter Try.func25, Try.ntmps25
  go_wp2_with fail
  go_loopg [3] F (fun g n wr => ∃ (a : Option P.T) (ir : Nat) (p3 : Option Addr), n = .pointer p3 ∧ ir ≤ s.size ∧ RB wr b s ir o (z + szO a) (-1) ∧ Only b w wr ∧ NodeO wr b p3 a ∧ Sz (-1) ir (z + szO a) ∧ g ≤ F ∧ Hid (Jr s o R g ir a))
  case atStart => exact ⟨none, i, none, rfl, hi, hR, Only.refl _ _, rfl, hz, Nat.le_refl _, F, Nat.le_refl _, HRd.out⟩
  case round =>
    obtain ⟨a, ir, p3, rfl, hir, hRr, hOr, hNr, hzr, hgF, hJ⟩ := hrel
    obtain ⟨f, hf, hMn, hnext⟩ := Jr_next hJ.out HRn.out
    have HN := hid (hnext)
    have HM : Hid (P.marked s (f + 1) o ir ≠ .out) := hMn
    have HC : Hid (AtomC s b f) := by
      rcases hf with h | h
      · exact HA.out f (by omega)
      · rw [h]; exact HA1.out
    have HP : Hid (P.atom s f o ir ≠ .out) := by
      intro e; apply hMn; rw [marked_succ, e]; rfl
    clear hnext hMn hf
    go_wp2_with fail
    refine (HC.out o ir (z + szO a) _ hRr hir ho hzr HP.out).mono ?_
    rintro e w1 ⟨n1, u, i1, B1, rfl, hR1, ho1, hn1, hi1, hz1, hf1⟩
    have hO1 := hOr.trans ho1
    have hN1 := hNr.only ho1
    have hJm := Jm_start hf1
    have hm1 := hf1.mark
    clear hf1 hRr hNr hOr hzr
    go_upto_block 2 with fail
    go_cut [4] (fun a4 wx => ∃ (n2 : Nat) (u2 : P.T) (i2 : Nat) (B2 : Int), a4 = .pointer (some ⟨n2, 0, none⟩) ∧ RB wx b s i2 o (z + szO a + u2.sz) B2 ∧ Only b w wx ∧ RN wx b n2 u2.em ∧ i2 ≤ s.size ∧ Sz B2 i2 (z + szO a + u2.sz) ∧ NodeO wx b p3 a ∧ Hid (Fits (gate (-1) (P.marked s (f + 1) o ir)) u2 i2 B2))
    case first =>
      go_wp2_with fail
      go_loopg [4] f (fun g a4 wx => ∃ (n2 : Nat) (u2 : P.T) (i2 : Nat) (B2 : Int), a4 = .pointer (some ⟨n2, 0, none⟩) ∧ RB wx b s i2 o (z + szO a + u2.sz) B2 ∧ Only b w wx ∧ RN wx b n2 u2.em ∧ i2 ≤ s.size ∧ Sz B2 i2 (z + szO a + u2.sz) ∧ NodeO wx b p3 a ∧ Mark B2 ∧ Hid (Jm s (P.marked s (f + 1) o ir) g i2 B2 u2))
      case atStart => exact ⟨n1, u, i1, B1, rfl, hR1, hO1, hn1, hi1, hz1, hN1, hm1, hJm⟩
      case round =>
        obtain ⟨n2, u2, i2, B2, rfl, hR2, hO2, hn2, hi2, hz2, hN2, hm2, hJ2⟩ := hrel
        have hbr := hR2.lt
        have c0 := hR2.c0
        have c1 := hR2.c1
        have c3 := hR2.c3
        have c4 := hR2.c4
        have f1 := hR2.fz 1
        have f3 := hR2.fz 3
        clear hR1 hO1 hn1 hi1 hz1 hN1 hm1 hJm
        rcases hm2 with hm | hm
        · subst hm
          by_cases hl : i2 < s.size
          · have hl' : (i2 : Int) < (s.size : Int) := by omega
            have HB := hid (bt_lt hl)
            have hzz := hz2.2 (by omega)
            cases b42 : (((s[i2].toNat : Nat) : Int) == 42) with
            | true =>
              have HT : Hid (markT (P.bt s i2) u2 = ⟨u2.sz + 1, true⟩) := by unfold Hid markT; rw [HB.out, eq_of_beq b42]; rfl
              have HE := hid (eq_of_beq b42)
              obtain ⟨g', hg', hJ'⟩ := Jm_round hJ2.out HM.out (by unfold isMark; rw [HB.out, b42]; rfl)
              rw [HT.out] at hJ'
              have HJ' := hid hJ'
              clear hJ' hJ2
              go_wp2_with fail
              go_quiet (fail)
              go_wp2_with fail
              go_region
              have kf : ∀ (n : Nat) (x : Obj) (j : Nat), ((wr.drewN n).alloc x).frozen? ⟨b, j, none⟩ = false := fun n x j => (RB.fz (heap_alloc_old (hR2.drewN n) hbr) j)
              have k1 : ∀ (n : Nat) (x : Obj), ((wr.drewN n).alloc x).cell? ⟨b, 1, none⟩ = some (.int .i64 (i2 : Int)) := fun n x => (RB.c1 (heap_alloc_old (hR2.drewN n) hbr))
              have k3 : ∀ (n : Nat) (x : Obj), ((wr.drewN n).alloc x).cell? ⟨b, 3, none⟩ = some (.int .i64 ((z + szO a + u2.sz : Nat) : Int)) := fun n x => (RB.c3 (heap_alloc_old (hR2.drewN n) hbr))
              go_wp2_with fail
              go_roundg g'
              case measure => exact hg'
              case rel =>
                refine ⟨_, ⟨u2.sz + 1, true⟩, i2 + 1, -1, rfl, (RB.set3 (j := z + szO a + (u2.sz + 1)) (heap_alloc_old (hR2.drewN _) hbr) (by simp only [Int.natCast_add]; omega)).set1 (by omega), ?_, ?_, by omega, ⟨by simp only; omega, fun _ => by simp only; omega⟩, ?_, Or.inl rfl, HJ'⟩
                · exact Only.setCell (p := ⟨b, 1, none⟩) (Only.setCell (p := ⟨b, 3, none⟩) ((hO2.drewN _).alloc _) rfl _) rfl _
                · exact mark_node hbr hn2 _ _ _ (Or.inl ⟨Or.inl HE.out, rfl⟩)
                · exact hN2.only (Only.setCell (p := ⟨b, 1, none⟩) (Only.setCell (p := ⟨b, 3, none⟩) (((Only.refl _ _).drewN _).alloc _) rfl _) rfl _)
            | false =>
              cases b43 : (((s[i2].toNat : Nat) : Int) == 43) with
              | true =>
                have HT : Hid (markT (P.bt s i2) u2 = ⟨u2.sz + 1, u2.em⟩) := by unfold Hid markT; rw [HB.out, eq_of_beq b43]; rfl
                have HE := hid (eq_of_beq b43)
                obtain ⟨g', hg', hJ'⟩ := Jm_round hJ2.out HM.out (by unfold isMark; rw [HB.out, b42, b43]; rfl)
                rw [HT.out] at hJ'
                have HJ' := hid hJ'
                clear hJ' hJ2
                go_wp2_with fail
                go_quiet (fail)
                go_wp2_with fail
                go_region
                have kf : ∀ (n : Nat) (x : Obj) (j : Nat), ((wr.drewN n).alloc x).frozen? ⟨b, j, none⟩ = false := fun n x j => (RB.fz (heap_alloc_old (hR2.drewN n) hbr) j)
                have k1 : ∀ (n : Nat) (x : Obj), ((wr.drewN n).alloc x).cell? ⟨b, 1, none⟩ = some (.int .i64 (i2 : Int)) := fun n x => (RB.c1 (heap_alloc_old (hR2.drewN n) hbr))
                have k3 : ∀ (n : Nat) (x : Obj), ((wr.drewN n).alloc x).cell? ⟨b, 3, none⟩ = some (.int .i64 ((z + szO a + u2.sz : Nat) : Int)) := fun n x => (RB.c3 (heap_alloc_old (hR2.drewN n) hbr))
                go_wp2_with fail
                go_roundg g'
                case measure => exact hg'
                case rel =>
                  refine ⟨_, ⟨u2.sz + 1, u2.em⟩, i2 + 1, -1, rfl, (RB.set3 (j := z + szO a + (u2.sz + 1)) (heap_alloc_old (hR2.drewN _) hbr) (by simp only [Int.natCast_add]; omega)).set1 (by omega), ?_, ?_, by omega, ⟨by simp only; omega, fun _ => by simp only; omega⟩, ?_, Or.inl rfl, HJ'⟩
                  · exact Only.setCell (p := ⟨b, 1, none⟩) (Only.setCell (p := ⟨b, 3, none⟩) ((hO2.drewN _).alloc _) rfl _) rfl _
                  · exact mark_node hbr hn2 _ _ _ (Or.inr ⟨HE.out, rfl⟩)
                  · exact hN2.only (Only.setCell (p := ⟨b, 1, none⟩) (Only.setCell (p := ⟨b, 3, none⟩) (((Only.refl _ _).drewN _).alloc _) rfl _) rfl _)
              | false =>
                cases b63 : (((s[i2].toNat : Nat) : Int) == 63) with
                | true =>
                  have HT : Hid (markT (P.bt s i2) u2 = ⟨u2.sz + 1, true⟩) := by unfold Hid markT; rw [HB.out, eq_of_beq b63]; rfl
                  have HE := hid (eq_of_beq b63)
                  obtain ⟨g', hg', hJ'⟩ := Jm_round hJ2.out HM.out (by unfold isMark; rw [HB.out, b42, b43, b63]; rfl)
                  rw [HT.out] at hJ'
                  have HJ' := hid hJ'
                  clear hJ' hJ2
                  go_wp2_with fail
                  go_quiet (fail)
                  go_wp2_with fail
                  go_region
                  have kf : ∀ (n : Nat) (x : Obj) (j : Nat), ((wr.drewN n).alloc x).frozen? ⟨b, j, none⟩ = false := fun n x j => (RB.fz (heap_alloc_old (hR2.drewN n) hbr) j)
                  have k1 : ∀ (n : Nat) (x : Obj), ((wr.drewN n).alloc x).cell? ⟨b, 1, none⟩ = some (.int .i64 (i2 : Int)) := fun n x => (RB.c1 (heap_alloc_old (hR2.drewN n) hbr))
                  have k3 : ∀ (n : Nat) (x : Obj), ((wr.drewN n).alloc x).cell? ⟨b, 3, none⟩ = some (.int .i64 ((z + szO a + u2.sz : Nat) : Int)) := fun n x => (RB.c3 (heap_alloc_old (hR2.drewN n) hbr))
                  go_wp2_with fail
                  go_roundg g'
                  case measure => exact hg'
                  case rel =>
                    refine ⟨_, ⟨u2.sz + 1, true⟩, i2 + 1, -1, rfl, (RB.set3 (j := z + szO a + (u2.sz + 1)) (heap_alloc_old (hR2.drewN _) hbr) (by simp only [Int.natCast_add]; omega)).set1 (by omega), ?_, ?_, by omega, ⟨by simp only; omega, fun _ => by simp only; omega⟩, ?_, Or.inl rfl, HJ'⟩
                    · exact Only.setCell (p := ⟨b, 1, none⟩) (Only.setCell (p := ⟨b, 3, none⟩) ((hO2.drewN _).alloc _) rfl _) rfl _
                    · exact mark_node hbr hn2 _ _ _ (Or.inl ⟨Or.inr HE.out, rfl⟩)
                    · exact hN2.only (Only.setCell (p := ⟨b, 1, none⟩) (Only.setCell (p := ⟨b, 3, none⟩) (((Only.refl _ _).drewN _).alloc _) rfl _) rfl _)
                | false =>
                  go_wp2_with fail
                  go_quiet (fail)
                  go_wp2_with fail
                  go_meet
                  exact ⟨n2, u2, i2, -1, rfl, hR2.drewN _, hO2.drewN _, hn2.only ((Only.refl _ _).drewN _), hi2, hz2, hN2.only ((Only.refl _ _).drewN _), Jm_end hJ2.out HM.out (Or.inr (by unfold isMark; rw [HB.out, b42, b43, b63]; rfl))⟩
          · have hl2 : decide ((i2 : Int) < (s.size : Int)) = false := by simp; omega
            have HB := hid (bt_ge hl)
            go_wp2_with fail
            go_quiet (fail)
            go_wp2_with fail
            go_meet
            exact ⟨n2, u2, i2, -1, rfl, hR2.drewN _, hO2.drewN _, hn2.only ((Only.refl _ _).drewN _), hi2, hz2, hN2.only ((Only.refl _ _).drewN _), Jm_end hJ2.out HM.out (Or.inr (by rw [HB.out]; rfl))⟩
        · have hm' : decide (B2 < 0) = false := by simp; omega
          go_wp2_with fail
          go_quiet (fail)
          go_wp2_with fail
          go_meet
          exact ⟨n2, u2, i2, B2, rfl, hR2.drewN _, hO2.drewN _, hn2.only ((Only.refl _ _).drewN _), hi2, hz2, hN2.only ((Only.refl _ _).drewN _), Jm_end hJ2.out HM.out (Or.inl hm)⟩
    case rest =>
      obtain ⟨n2, u2, i2, B2, rfl, hR2, hO2, hn2, hi2, hz2, hN2, hF2⟩ := hcut
      have HNx := hid (HN.out u2 i2 B2 hF2.out)
      have hm2 := hF2.out.mark
      have hbr := hR2.lt
      clear hR1 hO1 hn1 hi1 hz1 hN1 hm1 hJm hF2 HN
      go_upto_if 87 with fail
      go_cut [3] (fun n wx => ∃ m : Nat, n = .pointer (some ⟨m, 0, none⟩) ∧ RB wx b s i2 o (z + (joinT a u2).sz) B2 ∧ Only b w wx ∧ RN wx b m (joinT a u2).em)
      case first =>
        cases a with
        | none =>
          have e : p3 = none := hN2
          subst e
          go_wp2_with fail
          go_meet
          exact ⟨n2, rfl, by rw [joinT_sz, ← Nat.add_assoc]; exact hR2, hO2, hn2⟩
        | some t =>
          obtain ⟨m, e, hr⟩ := hN2
          subst e
          go_wp2_with fail
          go_meet
          refine ⟨_, rfl, ?_, hO2.alloc _, .row hbr (NB.alloc) (hr.only ((Only.refl _ _).alloc _)) (hn2.only ((Only.refl _ _).alloc _))⟩
          rw [joinT_sz, ← Nat.add_assoc]; exact heap_alloc_old hR2 hbr
      case rest =>
        obtain ⟨m, rfl, hR3, hO3, hn3⟩ := hcut
        have hz3 : Sz B2 i2 (z + (joinT a u2).sz) := by rw [joinT_sz, ← Nat.add_assoc]; exact hz2
        clear hR2 hO2 hn2 hz2 hN2
        have c0 := hR3.c0
        have c1 := hR3.c1
        have c2 := hR3.c2
        have c4 := hR3.c4
        go_upto_region 10 with fail
        go_cut [159] (fun c wx => c = .bool (endB s o i2 B2) ∧ ∃ n, wx = wc.drewN n)
        case first =>
          refine r10_any s b o i2 _ B2 wc hR3 hm2 _ _ _ _ _ _ _ _ _ _ _ _ _ _ _ _ _ _ _ _ _ _ _ _ _ _ _ _ _ _ _ _ _ _ _ _ _ _ _ _ _ _ _ _ _ _ _ _ _ _ _ _ _ _ _ _ _ _ _ _ _ _ _ _ _ _ _ _ _ _ _ _ _ _ _ _ _ _ _ _ _ _ _ _ _ _ _ _ _ _ _ _ _ _ _ _ _ _ _ _ _ _ _ _ _ _ _ _ _ _ _ _ _ _ _ _ _ _ _ _ _ _ _ _ _ _ _ _ _ _ _ _ _ _ _ _ _ _ _ _ _ _ _ _ _ _ _ _ _ _ _ _ _ _ _ _ _ _ _ _ _ _ ?_
          intro n x93 x94 x95 x96 x97 x98 x99 x100 x101 x102 x103 x104 x105 x106 x107 x108 x109 x110 x111 x112 x113 x114 x115 x116 x117 x118 x119 x120 x121 x122 x123 x124 x125 x126 x127 x128 x129 x130 x131 x132 x133 x134 x135 x136 x137 x138 x139 x140 x141 x142 x143 x144 x145 x146 x147 x148 x149 x150 x151 x152 x153 x154 x155 x156 x157 x158
          go_wp2_with fail
          go_meet
          exact ⟨rfl, n, rfl⟩
        case rest =>
          obtain ⟨rfl, nq, rfl⟩ := hcut
          obtain ⟨hbad, hstop, hgo⟩ := HNx.out
          cases hE : endB s o i2 B2 with
          | true =>
            have HR : Hid (Fits (gate (-1) R) (joinT a u2) i2 B2) := by
              rw [gate_neg]
              rcases hm2 with hm | hm
              · rw [hstop hm (endB_true hm hE), hm]; exact ⟨rfl, rfl, rfl⟩
              · rw [hbad hm]; show B2 = _; omega
            clear hbad hstop hgo
            go_wp2_with fail
            go_ret
            exact ⟨m, joinT a u2, i2, B2, rfl, hR3.drewN _, hO3.drewN _, hn3.only ((Only.refl _ _).drewN _), hi2, hz3, HR.out⟩
          | false =>
            obtain ⟨hm, hst⟩ := endB_false hm2 hE
            subst hm
            obtain ⟨g', hg', hJ'⟩ := hgo rfl hst
            have HJ' := hid hJ'
            clear hbad hstop hgo hJ' hst
            go_wp2_with fail
            go_roundg g'
            case measure => exact hg'
            case rel => exact ⟨some (joinT a u2), i2, some ⟨m, 0, none⟩, rfl, hi2, hR3.drewN _, hO3.drewN _, ⟨m, rfl, hn3.only ((Only.refl _ _).drewN _)⟩, hz3, by omega, HJ'⟩

end Go.Proofs.Ytjhmlcilabnlbaa
