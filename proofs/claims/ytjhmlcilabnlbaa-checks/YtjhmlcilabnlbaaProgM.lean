/- The program: marks. -/
import Derived.Test.YtjhmlcilabnlbaaProgL
namespace Go.Proofs.Ytjhmlcilabnlbaa
open Go.RowKit

theorem pmarks_succ (s : ByteArray) (f i : Nat) (t : P.T) : P.marks s (f + 1) i t = if P.bt s i = 42 ∨ P.bt s i = 63 then P.marks s f (i + 1) ⟨t.sz + 1, true⟩ else if P.bt s i = 43 then P.marks s f (i + 1) ⟨t.sz + 1, t.em⟩ else .ok t i := rfl

def OutM (S : Nat → Prop) (s : ByteArray) (b o : Nat) (r : P.PR P.T) (w : World) (e : Ending) (w' : World) : Prop :=
  ∃ (d : Nd) (t : P.T) (i' : Nat), e = .returned d.val ∧ QB w' b s i' o ∧ Only b w w' ∧ i' ≤ s.size ∧ r = .ok t i' ∧ PN w' S d t

/-- What is barred, and the call's two boxes. -/
def bars3 (S : Nat → Prop) (n : Nat) : Nat → Prop := fun k => S k ∨ (k = n ∨ k = n + 1)
theorem OnlyS.wide {S S' : Nat → Prop} {w w' : World} (h : OnlyS S w w') (k : ∀ j, S j → S' j) : OnlyS S' w w' := fun j hj hs => h j hj (fun e => hs (k j e))
theorem OnlyS.put8 {S : Nat → Prop} {x w : World} {g : Nat} (h : OnlyS S x w) (hg : S g) (d : Nd) : OnlyS S x (put8 w g d) := fun j hj hs => (heap_put8 d (fun e => hs (by rw [e]; exact hg))).trans (h j hj hs)
theorem size_put8 (w : World) (g : Nat) (d : Nd) : (put8 w g d).heap.size = w.heap.size := by simp only [put8, World.size_setCell]
/-- A node's cells, as they are allocated. -/
abbrev Nd.obj (d : Nd) : Obj := .cells #[.int .i64 d.k, .int .u64 d.x0, .int .u64 d.x1, .int .u64 d.x2, .int .u64 d.x3, .slice d.pa d.pn d.pc, .bool d.no, .bool d.ag] 38

/-- Where the rounds over the marks stand. -/
def MRel (S : Nat → Prop) (s : ByteArray) (b o : Nat) (R : P.PR P.T) (w : World) (g : Nat) (wr : World) : Prop :=
  ∃ (d : Nd) (t : P.T) (ir fr : Nat), fr ≤ g ∧ ir ≤ s.size ∧ QB wr b s ir o ∧ DB wr w.heap.size d ∧ DB wr (w.heap.size + 1) nd0 ∧ PN wr (bars3 S w.heap.size) d t ∧ Only b w wr ∧ w.heap.size + 1 < wr.heap.size ∧ Hid (R = P.marks s fr ir t)

/-- A mark's node over the box, in any world. -/
theorem MRel.over {S : Nat → Prop} {s : ByteArray} {b o : Nat} {R : P.PR P.T} {w X : World} {g ir fr : Nat} {d : Nd} {t : P.T} {no ag : Bool}
    (hSn : ∀ k, S k → k < w.heap.size) (hb : b < w.heap.size) (hg : w.heap.size + 1 < g) (hir : ir ≤ s.size) (hQ : QB X b s ir o) (hD : DB X w.heap.size d) (hZ : DB X (w.heap.size + 1) nd0)
    (hA : DB X g d) (hN : PN X (bars3 S w.heap.size) d t) (hO : Only b w X) (hz : w.heap.size + 1 < X.heap.size) (hI : Hid (R = P.marks s fr ir ⟨t.sz + 1, no || t.em⟩)) :
    MRel S s b o R w fr (put8 X w.heap.size ⟨3, 0, 0, 0, 0, some ⟨g, 0, none⟩, 1, 1, no, ag⟩) := by
  have hS : OnlyS (bars3 S w.heap.size) X (put8 X w.heap.size ⟨3, 0, 0, 0, 0, some ⟨g, 0, none⟩, 1, 1, no, ag⟩) := OnlyS.put8 (fun _ _ _ => rfl) (Or.inr (Or.inl rfl)) _
  have hP : Parts X (bars3 S w.heap.size) g [(d, t)] := ⟨fun h => by rcases h with h | h | h; (have := hSn _ h; omega); omega; omega, _, hA, rfl⟩
  refine ⟨_, _, ir, fr, Nat.le_refl _, hir, ?_, hD.put8 _, ?_, .rep (hP.only hS) (hN.only hS), hO.put8 (Nat.le_refl _) _, ?_, hI⟩
  · exact (heap_put8 _ (by omega)).trans hQ
  · exact (heap_put8 _ (by omega)).trans hZ
  · rw [size_put8]; exact hz

theorem MRel.step {S : Nat → Prop} {s : ByteArray} {b o : Nat} {R : P.PR P.T} {w wr : World} {ir fr : Nat} {d : Nd} {t : P.T} (no ag : Bool) (n : Nat) {x : Int}
    (hSb : S b) (hSn : ∀ k, S k → k < w.heap.size) (hb : b < w.heap.size) (hir : ir + 1 ≤ s.size) (hQ : QB wr b s ir o) (hD : DB wr w.heap.size d) (hZ : DB wr (w.heap.size + 1) nd0)
    (hN : PN wr (bars3 S w.heap.size) d t) (hO : Only b w wr) (hz : w.heap.size + 1 < wr.heap.size) (hx : x = ((ir + 1 : Nat) : Int)) (hI : Hid (R = P.marks s fr (ir + 1) ⟨t.sz + 1, no || t.em⟩)) :
    MRel S s b o R w fr (put8 (((wr.drewN n).setCell ⟨b, 1, none⟩ (.int .i64 x)).alloc d.obj) w.heap.size ⟨3, 0, 0, 0, 0, some ⟨wr.heap.size, 0, none⟩, 1, 1, no, ag⟩) := by
  have hX : ((wr.drewN n).setCell ⟨b, 1, none⟩ (.int .i64 x)).heap.size = wr.heap.size := World.size_setCell _ _ _
  have hO3 : Only b wr (((wr.drewN n).setCell ⟨b, 1, none⟩ (.int .i64 x)).alloc d.obj) := (Only.setCell (p := ⟨b, 1, none⟩) ((Only.refl _ _).drewN n) rfl _).alloc _
  have hS3 : OnlyS (bars3 S w.heap.size) wr (((wr.drewN n).setCell ⟨b, 1, none⟩ (.int .i64 x)).alloc d.obj) := hO3.toS.wide (fun k h => Or.inl (by rw [h]; exact hSb))
  refine MRel.over hSn hb hz hir ?_ ?_ ?_ ?_ (hN.only hS3) (hO.trans hO3) ?_ hI
  · exact heap_alloc_old ((hQ.drewN n).set1 hx) (by rw [hX]; omega)
  · exact heap_alloc_old ((Below.heap_setCell _ _ _ _ (by show w.heap.size ≠ b; omega)).trans hD) (by rw [hX]; omega)
  · exact heap_alloc_old ((Below.heap_setCell _ _ _ _ (by show w.heap.size + 1 ≠ b; omega)).trans hZ) (by rw [hX]; omega)
  · have h := heap_alloc_at ((wr.drewN n).setCell ⟨b, 1, none⟩ (.int .i64 x)) d.obj
    rw [hX] at h
    exact h
  · exact Nat.lt_of_lt_of_le hz hO3.size

theorem MRel.start {S : Nat → Prop} {s : ByteArray} {b o i f : Nat} {R : P.PR P.T} {w : World} {d : Nd} {t : P.T} (hSb : S b) (hi : i ≤ s.size) (hQ : QB w b s i o) (hN : PN w S d t) (hI : Hid (R = P.marks s f i t)) :
    MRel S s b o R w f ((w.alloc d.obj).alloc nd0.obj) := by
  have hlt := hQ.lt
  refine ⟨d, t, i, f, Nat.le_refl _, hi, heap_alloc_old (heap_alloc_old hQ hlt) (by simp; omega), heap_alloc_old (heap_alloc_at _ _) (by simp), ?_, (hN.bars (S' := bars3 S w.heap.size) (fun j hj h => h.elim id (fun h => by omega))).only ((((Only.refl b _).alloc _).alloc _).toS.wide (fun k h => Or.inl (by rw [h]; exact hSb))), ((Only.refl _ _).alloc _).alloc _, by simp, hI⟩
  have h := heap_alloc_at (w.alloc d.obj) nd0.obj
  rw [show (w.alloc d.obj).heap.size = w.heap.size + 1 from by simp] at h
  exact h

theorem MRel.done {S : Nat → Prop} {s : ByteArray} {b o ir n : Nat} {R : P.PR P.T} {w wr : World} {d : Nd} {t : P.T} (hb : b < w.heap.size) (hir : ir ≤ s.size) (hQ : QB wr b s ir o) (hN : PN wr (bars3 S w.heap.size) d t) (hO : Only b w wr) (hI : Hid (R = .ok t ir)) :
    OutM S s b o R w (.returned d.val) (put8 (wr.drewN n) (w.heap.size + 1) d) := by
  have hS5 : OnlyS (bars3 S w.heap.size) wr (put8 (wr.drewN n) (w.heap.size + 1) d) := OnlyS.put8 (fun _ _ _ => rfl) (Or.inr (Or.inr rfl)) d
  exact ⟨d, t, ir, rfl, (heap_put8 d (by omega)).trans hQ, (hO.drewN _).put8 (by omega) d, hir, hI.out, (hN.only hS5).bars (fun j _ h => Or.inl h)⟩

set_option maxHeartbeats 8000000 in
theorem pmarks_any (S : Nat → Prop) (f b : Nat) (s : ByteArray) (i o : Nat) (d0 : Nd) (t0 : P.T) (w : World) (hs : s.size ≤ 400) (hR : QB w b s i o) (hi : i ≤ s.size) (hSb : S b) (hSn : ∀ k, S k → k < w.heap.size) (hN : PN w S d0 t0) (hP : P.marks s f i t0 ≠ .out) :
    Calls Try.prog 39 #[.pointer (some ⟨b, 0, none⟩), .agg #[.int .i64 d0.k, .int .u64 d0.x0, .int .u64 d0.x1, .int .u64 d0.x2, .int .u64 d0.x3, .slice d0.pa d0.pn d0.pc, .bool d0.no, .bool d0.ag]] w fun e w' => OutM S s b o (P.marks s f i t0) w e w' := by
  have hlt := hR.lt
  obtain ⟨R, hRd⟩ : ∃ R, R = P.marks s f i t0 := ⟨_, rfl⟩
  have HRn : Hid (R ≠ .out) := by unfold Hid; rw [hRd]; exact hP
  rw [← hRd]
  have HRd := hid hRd
  clear hP hRd
  go_enter Try.func39, Try.ntmps39
  go_wp2_with fail
  go_loopg [5, 6] f (fun g _ _ wr => MRel S s b o R w g wr)
  case atStart => exact MRel.start hSb hi hR hN HRd
  case round =>
    obtain ⟨d, t, ir, fr, hfr, hir, hR2, hD2, hZ2, hN2, hO2, hz2, hI⟩ := hrel
    cases fr with
    | zero => exact absurd hI.out HRn.out
    | succ fr =>
      have e1 := hid (pk_eq (s := s) (i := ir) (c := 43) (by omega))
      have e2 := hid (pk_eq (s := s) (i := ir) (c := 42) (by omega))
      have e3 := hid (pk_eq (s := s) (i := ir) (c := 63) (by omega))
      have HS := hid (hI.out.trans (pmarks_succ s fr ir t))
      have k1 := hR2.c1
      have kf := hR2.fz 1
      have p0 := hD2.c0
      have p1 := hD2.c1
      have p2 := hD2.c2
      have p3 := hD2.c3
      have p4 := hD2.c4
      have p5 := hD2.c5
      have p6 := hD2.c6
      have p7 := hD2.c7
      have pf := hD2.fz
      have q0 := hZ2.c0
      have q1 := hZ2.c1
      have q2 := hZ2.c2
      have q3 := hZ2.c3
      have q4 := hZ2.c4
      have q5 := hZ2.c5
      have q6 := hZ2.c6
      have q7 := hZ2.c7
      have qf := hZ2.fz
      go_wp2_with fail
      refine (peek_any _ _ _ _ _ hR2).mono ?_
      rintro e w3 ⟨rfl, n3, rfl⟩
      have hDa : ∀ (x : Value) (X : Obj), DB (((wr.drewN n3).setCell ⟨b, 1, none⟩ x).alloc X) w.heap.size d := fun x X => heap_alloc_old ((Below.heap_setCell _ _ _ _ (by show w.heap.size ≠ b; omega)).trans hD2) (by simp; omega)
      have g0 := fun x X => (hDa x X).c0
      have g1 := fun x X => (hDa x X).c1
      have g2 := fun x X => (hDa x X).c2
      have g3 := fun x X => (hDa x X).c3
      have g4 := fun x X => (hDa x X).c4
      have g5 := fun x X => (hDa x X).c5
      have g6 := fun x X => (hDa x X).c6
      have g7 := fun x X => (hDa x X).c7
      have gf := fun x X => (hDa x X).fz
      cases h43 : (pk s ir == 43) with
      | true =>
        have hbt : P.bt s ir = 43 := eq_of_beq (by rw [← e1.out]; exact h43)
        have hl := lt_of_bt (s := s) (i := ir) (by omega)
        have HI2 : Hid (R = P.marks s fr (ir + 1) ⟨t.sz + 1, false || t.em⟩) := by
          unfold Hid; rw [HS.out]; rw [if_neg (by omega), if_pos hbt, Bool.false_or]
        clear hbt
        go_wp2_with fail
        go_roundg fr
        case measure => omega
        case rel => exact MRel.step false true n3 hSb hSn hlt hl hR2 hD2 hZ2 hN2 hO2 hz2 (by omega) HI2
      | false =>
        cases h42 : (pk s ir == 42) with
        | true =>
          have hbt : P.bt s ir = 42 := eq_of_beq (by rw [← e2.out]; exact h42)
          have hl := lt_of_bt (s := s) (i := ir) (by omega)
          have HI2 : Hid (R = P.marks s fr (ir + 1) ⟨t.sz + 1, true || t.em⟩) := by
            unfold Hid; rw [HS.out]; rw [if_pos (Or.inl hbt), Bool.true_or]
          clear hbt
          go_wp2_with fail
          go_roundg fr
          case measure => omega
          case rel => exact MRel.step true true n3 hSb hSn hlt hl hR2 hD2 hZ2 hN2 hO2 hz2 (by omega) HI2
        | false =>
          cases h63 : (pk s ir == 63) with
          | true =>
            have hbt : P.bt s ir = 63 := eq_of_beq (by rw [← e3.out]; exact h63)
            have hl := lt_of_bt (s := s) (i := ir) (by omega)
            have HI2 : Hid (R = P.marks s fr (ir + 1) ⟨t.sz + 1, true || t.em⟩) := by
              unfold Hid; rw [HS.out]; rw [if_pos (Or.inr hbt), Bool.true_or]
            clear hbt
            go_wp2_with fail
            go_roundg fr
            case measure => omega
            case rel => exact MRel.step true false n3 hSb hSn hlt hl hR2 hD2 hZ2 hN2 hO2 hz2 (by omega) HI2
          | false =>
            have HI2 : Hid (R = .ok t ir) := by
              have n1 : P.bt s ir ≠ 43 := ne_of_beq_false (by rw [← e1.out]; exact h43)
              have n2 : P.bt s ir ≠ 42 := ne_of_beq_false (by rw [← e2.out]; exact h42)
              have n3 : P.bt s ir ≠ 63 := ne_of_beq_false (by rw [← e3.out]; exact h63)
              unfold Hid; rw [HS.out, if_neg (by omega), if_neg n1]
            have hZd : DB (wr.drewN n3) (w.heap.size + 1) nd0 := hZ2
            have hF := hZd.put8 d
            have r0 := hF.c0
            have r1 := hF.c1
            have r2 := hF.c2
            have r3 := hF.c3
            have r4 := hF.c4
            have r5 := hF.c5
            have r6 := hF.c6
            have r7 := hF.c7
            go_wp2_with fail
            refine bodyPost_ret (v := .agg #[.int .i64 d.k, .int .u64 d.x0, .int .u64 d.x1, .int .u64 d.x2, .int .u64 d.x3, .slice d.pa d.pn d.pc, .bool d.no, .bool d.ag]) (by simp [results, Try.results39, go_sem, r0, r1, r2, r3, r4, r5, r6, r7]) rfl ?_
            exact MRel.done hlt hir hR2 hN2 hO2 HI2
end Go.Proofs.Ytjhmlcilabnlbaa
