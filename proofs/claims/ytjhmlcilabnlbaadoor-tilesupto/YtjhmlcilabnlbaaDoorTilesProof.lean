import Derived.Test.YtjhmlcilabnlbaaDoorCards
import Derived.Test.YtjhmlcilabnlbaaDoorTie
import Derived.ProofKit
import Derived.OpenShut
import Derived.ChangeMaps5
import Derived.Deep.DeepHandedRow
import Derived.Lib.LaidTab
import Derived.Test.YtjhmlcilabnlbaaDoorPart5
/- The lexer: a step of a run. -/
namespace Go.Proofs.YtjhmlcilabnlbaaDoor
open Go.RowKit Go.Shelf

attribute [local go_sem] Oper.semAt_some

theorem Tryd.info30 : (Tryd.prog.info? 30).map (fun i => (i.zero, i.size, i.bytes)) = some (some (.agg #[.int .i64 0, .int .i64 0, .int .i64 0]), 3, 24) := by kernel_rfl
theorem three_cells {W : World} {u0 u1 u2 : Value} {N : Nat} (hN : W.heap.size = N) (j : Nat) (u : Value) (h : [u0, u1, u2][j]? = some u) : (W.alloc (.cells #[u0, u1, u2] 30)).cell? ((⟨N, 0, none⟩ : Addr).add j) = some u := by
  subst hN
  have e : (⟨W.heap.size, 0, none⟩ : Addr).add j = ⟨W.heap.size, j, none⟩ := by
    unfold Addr.add
    by_cases hj : j = 0
    · simp [hj]
    · simp [hj]
  rw [e]
  unfold World.cell?
  rw [heap_alloc_at]
  simpa using h
/-- A token added to the run's list. -/
theorem CutI.push {B K : Nat} {W w6 : World} {c r lx lb t p room mb : Nat} {D : PlD} {s : ByteArray} {l : List (S2 × Nat)} {dn : Int} {f : S2} {v v' : Value} {T : List Tok} {fr at' : Nat} {st : S2} (h : CutI B K W c r lx lb t p room mb D s l dn f v T fr at' st) (hKB : B ≤ K) (hKW : K ≤ W.heap.size) (x : Tok)
    (hown : w6.ownsRow K 30 3 v' (T.length + 1) (tokCells T ++ [.int .i64 x.rl, .int .i64 (x.fr : Int), .int .i64 (x.tt : Int)])) (hg : W.grownBy w6 v.ownBlock) (hat : v'.ownBlock = v.ownBlock ∨ v'.ownBlock = some W.heap.size) :
    CutI B K (w6.setCell ⟨c, 1, none⟩ v') c r lx lb t p room mb D s l dn f v' (T ++ [x]) fr at' st := by
  have hc : W.heap[c]? = _ := h.run
  have hcl := h.run.lt
  have hvB : ∀ g, v.ownBlock = some g → K ≤ g := fun g hv => by
    rcases h.tk.2 with ⟨e, -⟩ | ⟨g', cap, cur, e, h1, -⟩
    · rw [e] at hv; cases hv
    · rw [e] at hv; cases hv; exact h1
  have nv : ∀ {k : Nat} {cs : Array Value} {Ty : TypeId} {fz : Nat × Nat}, W.heap[k]? = some (.cells cs Ty fz) → Ty ≠ 30 → v.ownBlock ≠ some k := fun {k cs Ty fz} hk hT e => by
    obtain ⟨cur, hcur⟩ := tok_own h.tk e
    rw [hcur] at hk
    injection hk with hk
    injection hk with _ hk _
    exact hT hk.symm
  have nc : ∀ {k : Nat} {cs : Array Value} {Ty : TypeId} {fz : Nat × Nat}, W.heap[k]? = some (.cells cs Ty fz) → Ty ≠ 60 → k ≠ c := fun {k cs Ty fz} hk hT e => by
    rw [e, hc] at hk
    injection hk with hk
    injection hk with _ hk _
    exact hT hk.symm
  have o6 : ∀ k, k < W.heap.size → v.ownBlock ≠ some k → w6.heap[k]? = W.heap[k]? := fun k hk hv => hg.block k hk (fun e => hv e.symm)
  have oo : ∀ k, k ≠ c → k < W.heap.size → v.ownBlock ≠ some k → (w6.setCell ⟨c, 1, none⟩ v').heap[k]? = W.heap[k]? := fun k hkc hk hv => (Below.heap_setCell _ _ _ _ hkc).trans (o6 k hk hv)
  have hx : W.heap[lx]? = _ := h.lx'
  have hr : W.heap[r]? = _ := h.rd
  obtain ⟨cs, hl, -⟩ := h.ld
  have hv'c : v'.ownBlock ≠ some c := by
    rcases hat with e | e
    · rw [e]; exact nv hc (by decide)
    · rw [e]; intro e2; have := Option.some.inj e2; omega
  have hB6 : Below B W w6 := (Below.refl B W).grown hg (by omega) (fun k e => by have := hvB k e; omega)
  refine ⟨hset ((o6 c hcl (nv hc (by decide))).trans h.run) _, (oo r (nc hr (by decide)) h.rd.lt (nv hr (by decide))).trans h.rd, h.ld.keep (oo lb (nc hl (by decide)) h.ld.lt (nv hl (by decide))), (oo lx (nc hx (by decide)) (Array.getElem?_eq_some_iff.1 hx).1 (nv hx (by decide))).trans h.lx', h.tb.keep (fun j hj => oo j (fun e => h.tb.sepT hc (by decide) (by decide) (e ▸ hj)) (h.tb.ltS hj).2 (fun e => ?_)) (hB6.setCell (p := ⟨c, 1, none⟩) h.cB v'), h.fs, ?_, ?_, h.b1, h.cB⟩
  · obtain ⟨cur, hcur⟩ := tok_own h.tk e
    exact h.tb.sepT hcur (by decide) (by decide) hj
  · have hrow : w6.ownsRow K 30 3 v' (T ++ [x]).length (tokCells (T ++ [x])) := by rw [List.length_append, tokCells_snoc]; exact hown
    exact tok_keep hrow (fun g hg' => Below.heap_setCell _ _ _ _ (show g ≠ c from fun e => hv'c (e ▸ hg')))
  · refine h.ti.blocks (oo 0 (by have := h.cB; have := h.b1; omega) (by omega) (fun e => ?_))
    have := hvB 0 e
    have := h.b1
    omega

theorem CutI.grown1 {B K : Nat} {W w6 : World} {c r lx lb t p room mb : Nat} {D : PlD} {s : ByteArray} {l : List (S2 × Nat)} {dn : Int} {f : S2} {v : Value} {T : List Tok} {fr at' : Nat} {st : S2} (h : CutI B K W c r lx lb t p room mb D s l dn f v T fr at' st) (hg : W.grownBy w6 v.ownBlock) : RunB w6 c r v fr at' st := by
  have hc : W.heap[c]? = _ := h.run
  have nv : v.ownBlock ≠ some c := fun e => by
    obtain ⟨cur, hcur⟩ := tok_own h.tk e
    rw [hcur] at hc
    simp at hc
  exact (hg.block c h.run.lt (fun e => nv e.symm)).trans h.run

/-- The end of a step, once its state is known. -/
def stepR2 (D : PlD) (s : ByteArray) (T : List Tok) (fr at' : Nat) (s2 : S2) : Rn :=
  if s2.meets (leadN D s (at' + 1)) = true then ⟨T, fr, at' + 1, s2⟩ else ⟨T ++ [⟨ruleN s2, fr, at' + 1⟩], at' + 1, at' + 1, s2⟩

/-- The worlds in which the run stands as it is, whatever the table has come to hold. -/
def StC (B K c r lx lb t p room mb : Nat) (D : PlD) (s : ByteArray) (l : List (S2 × Nat)) (dn : Int) (f : S2) (v : Value) (T : List Tok) (fr at' : Nat) (st : S2) (w W : World) : Prop :=
  ∃ l', CutI B K W c r lx lb t p room mb D s l' dn f v T fr at' st ∧ Turn (cutS t mb l c v) w W ∧ Fresh l l' w
theorem StC.run {B K c r lx lb t p room mb : Nat} {D : PlD} {s : ByteArray} {l : List (S2 × Nat)} {dn : Int} {f : S2} {v : Value} {T : List Tok} {fr at' : Nat} {st : S2} {w W : World} (h : StC B K c r lx lb t p room mb D s l dn f v T fr at' st w W) : RunB W c r v fr at' st := by obtain ⟨_, hC, -⟩ := h; exact hC.run
theorem StC.rd {B K c r lx lb t p room mb : Nat} {D : PlD} {s : ByteArray} {l : List (S2 × Nat)} {dn : Int} {f : S2} {v : Value} {T : List Tok} {fr at' : Nat} {st : S2} {w W : World} (h : StC B K c r lx lb t p room mb D s l dn f v T fr at' st w W) : RdB W r lx s lb := by obtain ⟨_, hC, -⟩ := h; exact hC.rd
theorem StC.lx {B K c r lx lb t p room mb : Nat} {D : PlD} {s : ByteArray} {l : List (S2 × Nat)} {dn : Int} {f : S2} {v : Value} {T : List Tok} {fr at' : Nat} {st : S2} {w W : World} (h : StC B K c r lx lb t p room mb D s l dn f v T fr at' st w W) : LxB W lx p t := by obtain ⟨_, hC, -⟩ := h; exact hC.lx'
theorem StC.step {B K c r lx lb t p room mb : Nat} {D : PlD} {s : ByteArray} {l : List (S2 × Nat)} {dn : Int} {f : S2} {v : Value} {T : List Tok} {fr at' b : Nat} {st : S2} {w W : World} (hD : D.ok) (hst : st.ok) (hb : b < 256) (h : StC B K c r lx lb t p room mb D s l dn f v T fr at' st w W) :
    Calls Tryd.prog 38 #[.pointer (some ⟨t, 0, none⟩), .agg #[.int .u64 (st.1 : Int), .int .u64 (st.2 : Int)], .int .u8 (b : Int)] W fun e w' => e = .returned (.agg #[.int .u64 ((stepN D st.1 b).1 : Int), .int .u64 ((stepN D st.1 b).2 : Int)]) ∧ StC B K c r lx lb t p room mb D s l dn f v T fr at' st w w' := by
  obtain ⟨l', hC, hT, hF⟩ := h
  refine (tstep_any B hC.b1 D hD t p room dn 0 f mb l' st hst b hb W hC.tb hC.ti).mono ?_
  rintro e w3 ⟨l2, rfl, hI3, hT3, hn3⟩
  exact ⟨rfl, l2, hC.asked hI3 hC.fs hT3, hT.next hT3 (fun j hj e => Or.inl (tbS_fresh hF hj e)), hF.trans hn3 hT.size⟩

set_option maxRecDepth 100000 in
set_option maxHeartbeats 100000000 in
theorem rstep_any (B K : Nat) (c r lx lb t p room mb : Nat) (D : PlD) (hD : D.ok) (s : ByteArray) (hs : s.size ≤ 1048576) (l : List (S2 × Nat)) (dn : Int) (f : S2) (v : Value) (T : List Tok) (fr at' : Nat) (st : S2) (hst : st.ok) (hat : at' < s.size) (hKB : B ≤ K) (hTl : T.length ≤ s.size) (w : World) (hKW : K ≤ w.heap.size) (hI : CutI B K w c r lx lb t p room mb D s l dn f v T fr at' st) :
    Calls Tryd.prog 25 #[.pointer (some ⟨c, 0, none⟩)] w fun e w' => ∃ l' dn' f' v', e = .returned (.tuple #[]) ∧ CutI B K w' c r lx lb t p room mb D s l' dn' f' v' (stepR D s ⟨T, fr, at', st⟩).tk (stepR D s ⟨T, fr, at', st⟩).fr (stepR D s ⟨T, fr, at', st⟩).at' (stepR D s ⟨T, fr, at', st⟩).st ∧ Turn (cutS t mb l c v) w w' ∧ Fresh l l' w ∧ Moved w v v' := by
  have c0 := hI.run.cell 0
  have c2 := hI.run.cell 2
  have c3 := hI.run.cell 3
  have c4 := hI.run.cell 4
  have c5 := hI.run.cell 5
  have cf := hI.run.fz
  simp only [List.getElem?_toArray, List.getElem?_cons_succ, List.getElem?_cons_zero] at c0 c2 c3 c4 c5
  have mixed : Tryd.prog.follows .mixedOrders = true := by kernel_rfl
  have HR : Hid (stepR D s ⟨T, fr, at', st⟩ = stepR2 D s T fr at' (if (if at' = fr then firstN D else st).meets (leadN D s at') = true then stepN D (if at' = fr then firstN D else st).1 (byteN s at') else (0, 0))) := rfl
  generalize stepR D s ⟨T, fr, at', st⟩ = RES at *
  go_enter Tryd.func25, Tryd.ntmps25
  go_wp2_with fail
  go_quiet (fail)
  have hI1 := hI.below (w' := w.drewN nq) ⟨rfl, rfl, rfl, Nat.le_refl _, fun _ _ => rfl⟩
  have hT1 : Turn (cutS t mb l c v) w (w.drewN nq) := (Turn.refl _ w).below (B := w.heap.size) ⟨rfl, rfl, rfl, Nat.le_refl _, fun _ _ => rfl⟩ (Nat.le_refl _)
  clear c0 c2 c3 c4 c5 cf
  generalize w.drewN nq = W1 at *
  go_upto_if 10 with fail
  go_cut [] from 2 to 24 (fun wx => ∃ l' dn' f', CutI B K wx c r lx lb t p room mb D s l' dn' f' v T fr at' (if at' = fr then firstN D else st) ∧ Turn (cutS t mb l c v) w wx ∧ Fresh l l' w)
  case first =>
    by_cases hf : at' = fr
    · have hbI : ((at' : Int) == (fr : Int)) = true := by simp [hf]
      have HF := hid hf
      clear hf
      have c0 := hI1.run.cell 0
      have x1 : W1.cell? ⟨lx, 1, none⟩ = some (.pointer (some ⟨t, 0, none⟩)) := by have h : W1.heap[lx]? = _ := hI1.lx'; simp [World.cell?, h]
      have r0 := hI1.rd.c0
      simp only [List.getElem?_toArray, List.getElem?_cons_zero] at c0
      go_wp2_with fail
      refine (tfirst_any B D hD t p room dn f mb l W1 hI1.tb hI1.fs).mono ?_
      rintro e w2 ⟨l', rfl, hI2, hT2, hn2⟩
      have hC2 := hI1.asked hI2 (Or.inr ⟨rfl, rfl⟩) hT2
      have hC3 := hC2.setSt (firstN D)
      have d4 := hC2.run.cell 4
      have d5 := hC2.run.cell 5
      have df := hC2.run.fz
      simp only [List.getElem?_toArray, List.getElem?_cons_succ, List.getElem?_cons_zero] at d4 d5
      have hT3 := (((hT1.trans (hT2.mono (fun j _ e => Or.inl e))).setCell ⟨c, 4, none⟩ (fun _ => Or.inr (Or.inl rfl)) (.int .u64 ((firstN D).1 : Int))).setCell ⟨c, 5, none⟩ (fun _ => Or.inr (Or.inl rfl)) (.int .u64 ((firstN D).2 : Int)))
      go_wp2_with fail
      go_meet
      exact ⟨l', 1, firstN D, by rw [if_pos HF.out]; exact hC3, hT3, fun x hx => (hn2 x hx).imp id (fun h => Nat.le_trans hT1.size h)⟩
    · have hbI : ((at' : Int) == (fr : Int)) = false := by simp; omega
      go_wp2_with fail
      go_meet
      exact ⟨l, dn, f, by rw [if_neg hf]; exact hI1, hT1, Fresh.refl l w⟩
  case rest =>
    obtain ⟨l1, dn1, f1, hC, hTc, hFc⟩ := hcut
    have hs1 : (if at' = fr then firstN D else st).ok := by
      split
      · exact firstL_ok hD.bg
      · exact hst
    generalize (if at' = fr then firstN D else st) = s1 at *
    clear hI hI1 hT1
    have hatI : (at' : Int) < (s.size : Int) + 1 := by omega
    have hlk : (leadN D s at').ok := leadK_ok D s _
    have kk : ∀ W', Below wc.heap.size wc W' → CutI B K W' c r lx lb t p room mb D s l1 dn1 f1 v T fr at' s1 := fun W' h => hC.below h
    have k0 : ∀ W', Below wc.heap.size wc W' → W'.cell? ⟨c, 0, none⟩ = some (.pointer (some ⟨r, 0, none⟩)) := fun W' h => (kk W' h).run.cell 0
    have k3 : ∀ W', Below wc.heap.size wc W' → W'.cell? ⟨c, 3, none⟩ = some (.int .i64 (at' : Int)) := fun W' h => (kk W' h).run.cell 3
    have k4 : ∀ W', Below wc.heap.size wc W' → W'.cell? ⟨c, 4, none⟩ = some (.int .u64 (s1.1 : Int)) := fun W' h => (kk W' h).run.cell 4
    have k5 : ∀ W', Below wc.heap.size wc W' → W'.cell? ⟨c, 5, none⟩ = some (.int .u64 (s1.2 : Int)) := fun W' h => (kk W' h).run.cell 5
    have kr : ∀ W', Below wc.heap.size wc W' → W'.cell? ⟨r, 2, none⟩ = some (.slice (some ⟨lb, 0, none⟩) (s.size + 1) (s.size + 1)) := fun W' h => (kk W' h).rd.c2
    have kl : ∀ W', Below wc.heap.size wc W' → W'.cell? ⟨lb, at' * 2, none⟩ = some (.int .u64 ((leadN D s at').1 : Int)) ∧ W'.cell? ⟨lb, at' * 2 + 1, none⟩ = some (.int .u64 ((leadN D s at').2 : Int)) := fun W' h => (kk W' h).ld.cells (by omega)
    go_wp2_with fail
    refine (wpIn_wide (n := 5)).1 (region_quiet (C := fun W' => Below wc.heap.size wc W') (by kernel_rfl) mixed (by kernel_rfl) ((Below.refl _ _).drew) ?_)
    refine wpQuietIn_step (fun _ _ _ _ => trivial) (fun K hK => ?_)
    go_simp
    refine ⟨_, fun _ _ => rfl, hK _ ?_⟩
    clear hK K
    refine wpQuietIn_step (fun _ _ _ _ => trivial) (fun K hK => ?_)
    go_simp
    refine ⟨_, fun _ _ => rfl, hK _ ?_⟩
    clear hK K
    refine wpQuietIn_step (fun _ _ _ _ => trivial) (fun K hK => ?_)
    go_simp
    refine ⟨_, fun _ _ => rfl, hK _ ?_⟩
    clear hK K
    refine wpQuietIn_step (fun _ _ _ _ => trivial) (fun K hK => ?_)
    go_simp
    refine ⟨.agg #[.int .u64 (s1.1 : Int), .int .u64 (s1.2 : Int)], fun w' hC => by simp [k4 w' hC, k5 w' hC], hK _ ?_⟩
    clear hK K
    refine wpQuietIn_step (fun _ _ _ _ => trivial) (fun K hK => ?_)
    go_simp
    refine ⟨_, fun _ _ => rfl, hK _ ?_⟩
    clear hK K
    refine wpQuietIn_step (fun _ _ _ _ => trivial) (fun K hK => ?_)
    go_simp
    refine ⟨_, fun _ _ => rfl, hK _ ?_⟩
    clear hK K
    refine wpQuietIn_step (fun _ _ _ _ => trivial) (fun K hK => ?_)
    go_simp
    refine ⟨_, fun _ _ => rfl, hK _ ?_⟩
    clear hK K
    refine wpQuietIn_step (fun _ _ _ _ => trivial) (fun K hK => ?_)
    go_simp
    refine ⟨.pointer (some ⟨r, 0, none⟩), fun w' hC => by simp [k0 w' hC], hK _ ?_⟩
    clear hK K
    refine wpQuietIn_step (fun _ _ _ _ => trivial) (fun K hK => ?_)
    go_simp
    refine ⟨_, fun _ _ => rfl, hK _ ?_⟩
    clear hK K
    refine wpQuietIn_step (fun _ _ _ _ => trivial) (fun K hK => ?_)
    go_simp
    refine ⟨_, fun _ _ => rfl, hK _ ?_⟩
    clear hK K
    refine wpQuietIn_step (fun _ _ _ _ => trivial) (fun K hK => ?_)
    go_simp
    refine ⟨.slice (some ⟨lb, 0, none⟩) (s.size + 1) (s.size + 1), fun w' hC => by simp [kr w' hC], hK _ ?_⟩
    clear hK K
    refine wpQuietIn_step (fun _ _ _ _ => trivial) (fun K hK => ?_)
    go_simp
    refine ⟨_, fun _ _ => rfl, hK _ ?_⟩
    clear hK K
    refine wpQuietIn_step (fun _ _ _ _ => trivial) (fun K hK => ?_)
    go_simp
    refine ⟨_, fun _ _ => rfl, hK _ ?_⟩
    clear hK K
    refine wpQuietIn_step (fun _ _ _ _ => trivial) (fun K hK => ?_)
    go_simp
    refine ⟨_, fun _ _ => rfl, hK _ ?_⟩
    clear hK K
    refine wpQuietIn_step (fun _ _ _ _ => trivial) (fun K hK => ?_)
    go_simp
    refine ⟨.int .i64 (at' : Int), fun w' hC => by simp [k3 w' hC], hK _ ?_⟩
    clear hK K
    refine wpQuietIn_step (fun _ _ _ _ => trivial) (fun K hK => ?_)
    go_simp
    refine ⟨_, fun _ _ => rfl, hK _ ?_⟩
    clear hK K
    refine wpQuietIn_step (fun _ _ _ _ => trivial) (fun K hK => ?_)
    go_simp
    refine ⟨.agg #[.int .u64 ((leadN D s at').1 : Int), .int .u64 ((leadN D s at').2 : Int)], fun w' hC => by simp [(kl w' hC).1, (kl w' hC).2], hK _ ?_⟩
    clear hK K
    refine wpQuietIn_step (fun _ _ _ _ => trivial) (fun K hK => ?_)
    go_simp
    refine ⟨_, fun w' hC => (callsIn_wide.2 (meets_nat s1 (leadN D s at') hs1 hlk w')).mono (fun e w'' hx => ⟨hx.1, hC.trans (hx.2.mono hC.size)⟩), hK _ ?_⟩
    clear hK K
    refine wpQuietIn_nil ?_
    intro W2 hB2
    have hC2 := kk W2 hB2
    have hT2 := hTc.below hB2 hTc.size
    clear kk k0 k3 k4 k5 kr kl hB2 hC hTc
    go_upto_if 42 with fail
    go_cut [] from 2 to 76 (fun wx => ∃ l2 dn2 f2, CutI B K wx c r lx lb t p room mb D s l2 dn2 f2 v T fr at' (if s1.meets (leadN D s at') = true then stepN D s1.1 (byteN s at') else (0, 0)) ∧ Turn (cutS t mb l c v) w wx ∧ Fresh l l2 w)
    case first =>
      have c0 := hC2.run.cell 0
      have c3 := hC2.run.cell 3
      have c4 := hC2.run.cell 4
      have c5 := hC2.run.cell 5
      have cf := hC2.run.fz
      simp only [List.getElem?_toArray, List.getElem?_cons_succ, List.getElem?_cons_zero] at c0 c3 c4 c5
      cases hm : s1.meets (leadN D s at') with
      | true =>
        have hsb := byteN_lt s at'
        have HBY := hid (byteN_at hat)
        have x1 : W2.cell? ⟨lx, 1, none⟩ = some (.pointer (some ⟨t, 0, none⟩)) := by have h : W2.heap[lx]? = _ := hC2.lx'; simp [World.cell?, h]
        have r0 := hC2.rd.c0
        have r1 := hC2.rd.c1
        have hatI2 : (at' : Int) < (s.size : Int) := by omega
        go_wp2_with fail
        clear c0 c3 c4 c5 cf x1 r0 r1
        have k0 : ∀ W', StC B K c r lx lb t p room mb D s l dn1 f1 v T fr at' s1 w W' → W'.cell? ⟨c, 0, none⟩ = some (.pointer (some ⟨r, 0, none⟩)) := fun W' h => (StC.run h).cell 0
        have k3 : ∀ W', StC B K c r lx lb t p room mb D s l dn1 f1 v T fr at' s1 w W' → W'.cell? ⟨c, 3, none⟩ = some (.int .i64 (at' : Int)) := fun W' h => (StC.run h).cell 3
        have k4 : ∀ W', StC B K c r lx lb t p room mb D s l dn1 f1 v T fr at' s1 w W' → W'.cell? ⟨c, 4, none⟩ = some (.int .u64 (s1.1 : Int)) := fun W' h => (StC.run h).cell 4
        have k5 : ∀ W', StC B K c r lx lb t p room mb D s l dn1 f1 v T fr at' s1 w W' → W'.cell? ⟨c, 5, none⟩ = some (.int .u64 (s1.2 : Int)) := fun W' h => (StC.run h).cell 5
        have kx : ∀ W', StC B K c r lx lb t p room mb D s l dn1 f1 v T fr at' s1 w W' → W'.cell? ⟨lx, 1, none⟩ = some (.pointer (some ⟨t, 0, none⟩)) := fun W' h => by have h' : W'.heap[lx]? = _ := (StC.lx h); simp [World.cell?, h']
        have kr : ∀ W', StC B K c r lx lb t p room mb D s l dn1 f1 v T fr at' s1 w W' → W'.cell? ⟨r, 0, none⟩ = some (.pointer (some ⟨lx, 0, none⟩)) := fun W' h => (StC.rd h).c0
        have kt : ∀ W', StC B K c r lx lb t p room mb D s l dn1 f1 v T fr at' s1 w W' → W'.cell? ⟨r, 1, none⟩ = some (.string s) := fun W' h => (StC.rd h).c1
        have hS0 : StC B K c r lx lb t p room mb D s l dn1 f1 v T fr at' s1 w W2.drew := ⟨l1, hC2.below (Below.refl _ _).drew, hT2.drew, hFc⟩
        refine (wpIn_wide (n := 5)).1 (region_tail (C := StC B K c r lx lb t p room mb D s l dn1 f1 v T fr at' s1 w) 30 (by kernel_rfl) mixed (by kernel_rfl) hS0 rfl ?_)
        dsimp only [List.take]
        refine wpQuietIn_step (fun _ _ _ _ => trivial) (fun K hK => ?_)
        go_simp
        refine ⟨_, fun _ _ => rfl, hK _ ?_⟩
        clear hK K
        refine wpQuietIn_step (fun _ _ _ _ => trivial) (fun K hK => ?_)
        go_simp
        refine ⟨_, fun _ _ => rfl, hK _ ?_⟩
        clear hK K
        refine wpQuietIn_step (fun _ _ _ _ => trivial) (fun K hK => ?_)
        go_simp
        refine ⟨_, fun _ _ => rfl, hK _ ?_⟩
        clear hK K
        refine wpQuietIn_step (fun _ _ _ _ => trivial) (fun K hK => ?_)
        go_simp
        refine ⟨_, fun _ _ => rfl, hK _ ?_⟩
        clear hK K
        refine wpQuietIn_step (fun _ _ _ _ => trivial) (fun K hK => ?_)
        go_simp
        refine ⟨.pointer (some ⟨r, 0, none⟩), fun w' hC => by simp [k0 w' hC], hK _ ?_⟩
        clear hK K
        refine wpQuietIn_step (fun _ _ _ _ => trivial) (fun K hK => ?_)
        go_simp
        refine ⟨_, fun _ _ => rfl, hK _ ?_⟩
        clear hK K
        refine wpQuietIn_step (fun _ _ _ _ => trivial) (fun K hK => ?_)
        go_simp
        refine ⟨_, fun _ _ => rfl, hK _ ?_⟩
        clear hK K
        refine wpQuietIn_step (fun _ _ _ _ => trivial) (fun K hK => ?_)
        go_simp
        refine ⟨.pointer (some ⟨lx, 0, none⟩), fun w' hC => by simp [kr w' hC], hK _ ?_⟩
        clear hK K
        refine wpQuietIn_step (fun _ _ _ _ => trivial) (fun K hK => ?_)
        go_simp
        refine ⟨_, fun _ _ => rfl, hK _ ?_⟩
        clear hK K
        refine wpQuietIn_step (fun _ _ _ _ => trivial) (fun K hK => ?_)
        go_simp
        refine ⟨_, fun _ _ => rfl, hK _ ?_⟩
        clear hK K
        refine wpQuietIn_step (fun _ _ _ _ => trivial) (fun K hK => ?_)
        go_simp
        refine ⟨.pointer (some ⟨t, 0, none⟩), fun w' hC => by simp [kx w' hC], hK _ ?_⟩
        clear hK K
        refine wpQuietIn_step (fun _ _ _ _ => trivial) (fun K hK => ?_)
        go_simp
        refine ⟨_, fun _ _ => rfl, hK _ ?_⟩
        clear hK K
        refine wpQuietIn_step (fun _ _ _ _ => trivial) (fun K hK => ?_)
        go_simp
        refine ⟨_, fun _ _ => rfl, hK _ ?_⟩
        clear hK K
        refine wpQuietIn_step (fun _ _ _ _ => trivial) (fun K hK => ?_)
        go_simp
        refine ⟨_, fun _ _ => rfl, hK _ ?_⟩
        clear hK K
        refine wpQuietIn_step (fun _ _ _ _ => trivial) (fun K hK => ?_)
        go_simp
        refine ⟨.agg #[.int .u64 (s1.1 : Int), .int .u64 (s1.2 : Int)], fun w' hC => by simp [k4 w' hC, k5 w' hC], hK _ ?_⟩
        clear hK K
        refine wpQuietIn_step (fun _ _ _ _ => trivial) (fun K hK => ?_)
        go_simp
        refine ⟨_, fun _ _ => rfl, hK _ ?_⟩
        clear hK K
        refine wpQuietIn_step (fun _ _ _ _ => trivial) (fun K hK => ?_)
        go_simp
        refine ⟨_, fun _ _ => rfl, hK _ ?_⟩
        clear hK K
        refine wpQuietIn_step (fun _ _ _ _ => trivial) (fun K hK => ?_)
        go_simp
        refine ⟨_, fun _ _ => rfl, hK _ ?_⟩
        clear hK K
        refine wpQuietIn_step (fun _ _ _ _ => trivial) (fun K hK => ?_)
        go_simp
        refine ⟨.pointer (some ⟨r, 0, none⟩), fun w' hC => by simp [k0 w' hC], hK _ ?_⟩
        clear hK K
        refine wpQuietIn_step (fun _ _ _ _ => trivial) (fun K hK => ?_)
        go_simp
        refine ⟨_, fun _ _ => rfl, hK _ ?_⟩
        clear hK K
        refine wpQuietIn_step (fun _ _ _ _ => trivial) (fun K hK => ?_)
        go_simp
        refine ⟨_, fun _ _ => rfl, hK _ ?_⟩
        clear hK K
        refine wpQuietIn_step (fun _ _ _ _ => trivial) (fun K hK => ?_)
        go_simp
        refine ⟨.string s, fun w' hC => by simp [kt w' hC], hK _ ?_⟩
        clear hK K
        refine wpQuietIn_step (fun _ _ _ _ => trivial) (fun K hK => ?_)
        go_simp
        refine ⟨_, fun _ _ => rfl, hK _ ?_⟩
        clear hK K
        refine wpQuietIn_step (fun _ _ _ _ => trivial) (fun K hK => ?_)
        go_simp
        refine ⟨_, fun _ _ => rfl, hK _ ?_⟩
        clear hK K
        refine wpQuietIn_step (fun _ _ _ _ => trivial) (fun K hK => ?_)
        go_simp
        refine ⟨_, fun _ _ => rfl, hK _ ?_⟩
        clear hK K
        refine wpQuietIn_step (fun _ _ _ _ => trivial) (fun K hK => ?_)
        go_simp
        refine ⟨.int .i64 (at' : Int), fun w' hC => by simp [k3 w' hC], hK _ ?_⟩
        clear hK K
        refine wpQuietIn_step (fun _ _ _ _ => trivial) (fun K hK => ?_)
        go_simp
        refine ⟨.int .u8 (byteN s at' : Int), fun w' hC => by first | (simp [HBY.out]; done) | (rw [← HBY.out]; simp) | (rw [← HBY.out]), hK _ ?_⟩
        clear hK K
        refine wpQuietIn_step (fun _ _ _ _ => trivial) (fun K hK => ?_)
        go_simp
        refine ⟨_, fun w' hC => (callsIn_wide.2 (StC.step hD hs1 hsb hC)).mono (fun e w'' hx => hx), hK _ ?_⟩
        clear hK K
        refine wpQuietIn_step (fun _ _ _ _ => trivial) (fun K hK => ?_)
        go_simp
        refine ⟨_, fun _ _ => rfl, hK _ ?_⟩
        clear hK K
        refine wpQuietIn_step (fun _ _ _ _ => trivial) (fun K hK => ?_)
        go_simp
        refine ⟨_, fun _ _ => rfl, hK _ ?_⟩
        clear hK K
        refine wpQuietIn_nil ?_
        rintro w3 ⟨l2, hC3, hT3, hF3⟩
        have d4 := hC3.run.cell 4
        have d5 := hC3.run.cell 5
        have df := hC3.run.fz
        simp only [List.getElem?_toArray, List.getElem?_cons_succ, List.getElem?_cons_zero] at d4 d5
        clear k0 k3 k4 k5 kx kr kt hS0
        rw [wpOpsIn_cons]
        refine wpOpIn_step rfl (fun K hK => ?_)
        go_simp
        refine hK _ _ ?_
        clear hK K
        simp only [wpOpsIn]
        have hC4 := hC3.setSt (stepN D s1.1 (byteN s at'))
        have hT4 := ((hT3.setCell ⟨c, 4, none⟩ (fun _ => Or.inr (Or.inl rfl)) (.int .u64 ((stepN D s1.1 (byteN s at')).1 : Int))).setCell ⟨c, 5, none⟩ (fun _ => Or.inr (Or.inl rfl)) (.int .u64 ((stepN D s1.1 (byteN s at')).2 : Int)))
        go_wp2_with fail
        go_meet
        exact ⟨l2, dn1, f1, by rw [if_pos hm]; exact hC4, hT4, hF3⟩
      | false =>
        have hC3 := hC2.setSt (0, 0)
        have hT3 := ((hT2.setCell ⟨c, 4, none⟩ (fun _ => Or.inr (Or.inl rfl)) (.int .u64 ((0 : Nat) : Int))).setCell ⟨c, 5, none⟩ (fun _ => Or.inr (Or.inl rfl)) (.int .u64 ((0 : Nat) : Int)))
        go_wp2_with fail
        go_meet
        exact ⟨l1, dn1, f1, by rw [hm, if_neg Bool.false_ne_true]; exact hC3, hT3, hFc⟩
    case rest =>
      obtain ⟨l3, dn3, f3, hC3, hT3, hF3⟩ := hcut
      have hs2 : (if s1.meets (leadN D s at') = true then stepN D s1.1 (byteN s at') else (0, 0)).ok := by
        split
        · exact stepL_ok D hD _ _
        · exact S2.zero_ok
      generalize (if s1.meets (leadN D s at') = true then stepN D s1.1 (byteN s at') else (0, 0)) = s2 at *
      clear hC2 hT2
      have c3 := hC3.run.cell 3
      have cf := hC3.run.fz
      simp only [List.getElem?_toArray, List.getElem?_cons_succ, List.getElem?_cons_zero] at c3
      have hadd : IntKind.i64.wrap ((at' : Int) + 1) = (at' : Int) + 1 := by rw [IntKind.wrap_i64]; omega
      have hC4 : CutI B K (wc.setCell ⟨c, 3, none⟩ (.int .i64 ((at' : Int) + 1))) c r lx lb t p room mb D s l3 dn3 f3 v T fr (at' + 1) s2 := by
        have h := hC3.setAt (at' + 1)
        rw [show ((at' + 1 : Nat) : Int) = (at' : Int) + 1 by omega] at h
        exact h
      have hT4 := hT3.setCell ⟨c, 3, none⟩ (fun _ => Or.inr (Or.inl rfl)) (.int .i64 ((at' : Int) + 1))
      go_wp2_with fail
      clear c3 cf hC3 hT3
      generalize wc.setCell ⟨c, 3, none⟩ (.int .i64 ((at' : Int) + 1)) = W4 at *
      have hat2 : (at' : Int) + 1 < (s.size : Int) + 1 := by omega
      have hlk2 : (leadN D s (at' + 1)).ok := leadK_ok D s _
      have hnot : ∀ (x : Bool) (w : World), (Op.unary .not (.bool x)).run Tryd.prog w = .ok (.bool (!x)) w := fun _ _ => rfl
      have kk : ∀ W', Below W4.heap.size W4 W' → CutI B K W' c r lx lb t p room mb D s l3 dn3 f3 v T fr (at' + 1) s2 := fun W' h => hC4.below h
      have k0 : ∀ W', Below W4.heap.size W4 W' → W'.cell? ⟨c, 0, none⟩ = some (.pointer (some ⟨r, 0, none⟩)) := fun W' h => (kk W' h).run.cell 0
      have k3 : ∀ W', Below W4.heap.size W4 W' → W'.cell? ⟨c, 3, none⟩ = some (.int .i64 ((at' : Int) + 1)) := fun W' h => (kk W' h).run.cell 3
      have k4 : ∀ W', Below W4.heap.size W4 W' → W'.cell? ⟨c, 4, none⟩ = some (.int .u64 (s2.1 : Int)) := fun W' h => (kk W' h).run.cell 4
      have k5 : ∀ W', Below W4.heap.size W4 W' → W'.cell? ⟨c, 5, none⟩ = some (.int .u64 (s2.2 : Int)) := fun W' h => (kk W' h).run.cell 5
      have kr : ∀ W', Below W4.heap.size W4 W' → W'.cell? ⟨r, 2, none⟩ = some (.slice (some ⟨lb, 0, none⟩) (s.size + 1) (s.size + 1)) := fun W' h => (kk W' h).rd.c2
      have kl : ∀ W', Below W4.heap.size W4 W' → W'.cell? ⟨lb, (at' + 1) * 2, none⟩ = some (.int .u64 ((leadN D s (at' + 1)).1 : Int)) ∧ W'.cell? ⟨lb, (at' + 1) * 2 + 1, none⟩ = some (.int .u64 ((leadN D s (at' + 1)).2 : Int)) := fun W' h => (kk W' h).ld.cells (by omega)
      have htn : ((at' : Int) + 1).toNat = at' + 1 := by omega
      have hat0 : (0 : Int) ≤ (at' : Int) + 1 := by omega
      refine (wpIn_wide (n := 5)).1 (region_quiet (C := fun W' => Below W4.heap.size W4 W') (by kernel_rfl) mixed (by kernel_rfl) ((Below.refl _ _).drew) ?_)
      refine wpQuietIn_step (fun _ _ _ _ => trivial) (fun K hK => ?_)
      go_simp
      refine ⟨_, fun _ _ => rfl, hK _ ?_⟩
      clear hK K
      refine wpQuietIn_step (fun _ _ _ _ => trivial) (fun K hK => ?_)
      go_simp
      refine ⟨_, fun _ _ => rfl, hK _ ?_⟩
      clear hK K
      refine wpQuietIn_step (fun _ _ _ _ => trivial) (fun K hK => ?_)
      go_simp
      refine ⟨_, fun _ _ => rfl, hK _ ?_⟩
      clear hK K
      refine wpQuietIn_step (fun _ _ _ _ => trivial) (fun K hK => ?_)
      go_simp
      refine ⟨.agg #[.int .u64 (s2.1 : Int), .int .u64 (s2.2 : Int)], fun w' hC => by simp [k4 w' hC, k5 w' hC], hK _ ?_⟩
      clear hK K
      refine wpQuietIn_step (fun _ _ _ _ => trivial) (fun K hK => ?_)
      go_simp
      refine ⟨_, fun _ _ => rfl, hK _ ?_⟩
      clear hK K
      refine wpQuietIn_step (fun _ _ _ _ => trivial) (fun K hK => ?_)
      go_simp
      refine ⟨_, fun _ _ => rfl, hK _ ?_⟩
      clear hK K
      refine wpQuietIn_step (fun _ _ _ _ => trivial) (fun K hK => ?_)
      go_simp
      refine ⟨_, fun _ _ => rfl, hK _ ?_⟩
      clear hK K
      refine wpQuietIn_step (fun _ _ _ _ => trivial) (fun K hK => ?_)
      go_simp
      refine ⟨.pointer (some ⟨r, 0, none⟩), fun w' hC => by simp [k0 w' hC], hK _ ?_⟩
      clear hK K
      refine wpQuietIn_step (fun _ _ _ _ => trivial) (fun K hK => ?_)
      go_simp
      refine ⟨_, fun _ _ => rfl, hK _ ?_⟩
      clear hK K
      refine wpQuietIn_step (fun _ _ _ _ => trivial) (fun K hK => ?_)
      go_simp
      refine ⟨_, fun _ _ => rfl, hK _ ?_⟩
      clear hK K
      refine wpQuietIn_step (fun _ _ _ _ => trivial) (fun K hK => ?_)
      go_simp
      refine ⟨.slice (some ⟨lb, 0, none⟩) (s.size + 1) (s.size + 1), fun w' hC => by simp [kr w' hC], hK _ ?_⟩
      clear hK K
      refine wpQuietIn_step (fun _ _ _ _ => trivial) (fun K hK => ?_)
      go_simp
      refine ⟨_, fun _ _ => rfl, hK _ ?_⟩
      clear hK K
      refine wpQuietIn_step (fun _ _ _ _ => trivial) (fun K hK => ?_)
      go_simp
      refine ⟨_, fun _ _ => rfl, hK _ ?_⟩
      clear hK K
      refine wpQuietIn_step (fun _ _ _ _ => trivial) (fun K hK => ?_)
      go_simp
      refine ⟨_, fun _ _ => rfl, hK _ ?_⟩
      clear hK K
      refine wpQuietIn_step (fun _ _ _ _ => trivial) (fun K hK => ?_)
      go_simp
      refine ⟨.int .i64 ((at' : Int) + 1), fun w' hC => by simp [k3 w' hC], hK _ ?_⟩
      clear hK K
      refine wpQuietIn_step (fun _ _ _ _ => trivial) (fun K hK => ?_)
      go_simp
      refine ⟨_, fun _ _ => rfl, hK _ ?_⟩
      clear hK K
      refine wpQuietIn_step (fun _ _ _ _ => trivial) (fun K hK => ?_)
      go_simp
      refine ⟨.agg #[.int .u64 ((leadN D s (at' + 1)).1 : Int), .int .u64 ((leadN D s (at' + 1)).2 : Int)], fun w' hC => by simp [(kl w' hC).1, (kl w' hC).2], hK _ ?_⟩
      clear hK K
      refine wpQuietIn_step (fun _ _ _ _ => trivial) (fun K hK => ?_)
      go_simp
      refine ⟨_, fun w' hC => (callsIn_wide.2 (meets_nat s2 (leadN D s (at' + 1)) hs2 hlk2 w')).mono (fun e w'' hx => ⟨hx.1, hC.trans (hx.2.mono hC.size)⟩), hK _ ?_⟩
      clear hK K
      refine wpQuietIn_step (fun _ _ _ _ => trivial) (fun K hK => ?_)
      go_simp
      refine ⟨_, fun _ _ => rfl, hK _ ?_⟩
      clear hK K
      refine wpQuietIn_nil ?_
      intro W5 hB5
      have hC5 := kk W5 hB5
      have hT5 := hT4.below hB5 hT4.size
      clear kk k0 k3 k4 k5 kr kl hB5 hC4 hT4
      cases hm : s2.meets (leadN D s (at' + 1)) with
      | true =>
        have hE : RES = ⟨T, fr, at' + 1, s2⟩ := by rw [HR.out]; unfold stepR2; rw [if_pos hm]
        have HE := hid hE
        clear hE
        go_wp2_with fail
        go_end0
        rw [HE.out]
        first | exact ⟨l3, dn3, f3, v, rfl, hC5, hT5, hF3, Moved.refl _ _⟩ | exact ⟨rfl, l3, dn3, f3, v, hC5, hT5, hF3, Moved.refl _ _⟩
      | false =>
        have hE : RES = ⟨T ++ [⟨ruleN s2, fr, at' + 1⟩], at' + 1, at' + 1, s2⟩ := by rw [HR.out]; unfold stepR2; rw [if_neg (by rw [hm]; exact Bool.false_ne_true)]
        have HE := hid hE
        clear hE HR
        go_wp2_with fail
        go_cut [] from 2 to 125 (fun wx => ∃ v', CutI B K wx c r lx lb t p room mb D s l3 dn3 f3 v' (T ++ [⟨ruleN s2, fr, at' + 1⟩]) fr (at' + 1) s2 ∧ Turn (cutS t mb l c v) w wx ∧ Moved w v v')
        case first =>
          obtain ⟨i0, hi0, hz0, hz1, hz2⟩ := info_parts Tryd.info30
          have hdr : Below W5.heap.size W5 W5.drew := (Below.refl _ _).drew
          have hCd := hC5.below hdr
          have hTd := hT5.below hdr hT5.size
          have hszd : w.heap.size ≤ W5.drew.heap.size := hTd.size
          have HTI := hid hCd.ti
          have HCd := hid hCd
          have HTd := hid hTd
          have hlen1 : T.length + 1 ≤ maxLen := by unfold maxLen; omega
          have hlen2 : (T.length + 1) * 24 ≤ 140737488355328 := by omega
          have hone : ∀ u, u ∈ [Value.int .i64 (ruleN s2), Value.int .i64 (fr : Int), Value.int .i64 ((at' : Int) + 1)] → u.oneCell' = true := by intro u hu; simp at hu; rcases hu with rfl | rfl | rfl <;> rfl
          have k1 : ∀ W', RunB W' c r v fr (at' + 1) s2 → W'.cell? ⟨c, 1, none⟩ = some (v) := fun W' h => h.cell 1
          have k2 : ∀ W', RunB W' c r v fr (at' + 1) s2 → W'.cell? ⟨c, 2, none⟩ = some (.int .i64 (fr : Int)) := fun W' h => h.cell 2
          have k3 : ∀ W', RunB W' c r v fr (at' + 1) s2 → W'.cell? ⟨c, 3, none⟩ = some (.int .i64 ((at' : Int) + 1)) := fun W' h => h.cell 3
          have k4 : ∀ W', RunB W' c r v fr (at' + 1) s2 → W'.cell? ⟨c, 4, none⟩ = some (.int .u64 (s2.1 : Int)) := fun W' h => h.cell 4
          have k5 : ∀ W', RunB W' c r v fr (at' + 1) s2 → W'.cell? ⟨c, 5, none⟩ = some (.int .u64 (s2.2 : Int)) := fun W' h => h.cell 5
          have hRd := hCd.run
          clear hC5 hT5 hCd hTd hm hnot hlk2 hs1 hlk hatI hat2 htn hat0 hadd hdr HE hst hD hs hF3 hFc
          refine region_float (S := fun W' => RunB W' c r v fr (at' + 1) s2) 21 [0, 1, 2, 3, 4, 5, 6, 7, 8, 10, 11, 12, 13, 14, 15, 16, 17] [9, 18, 19, 20, 21, 22, 23] mixed (by kernel_rfl) hRd ?_
          refine lookL_step rfl rfl (fun J hJ => ?_)
          go_simp
          refine ⟨_, fun _ _ => rfl, hJ _ ?_⟩
          clear hJ J
          refine lookL_step rfl rfl (fun J hJ => ?_)
          go_simp
          refine ⟨_, fun _ _ => rfl, hJ _ ?_⟩
          clear hJ J
          refine lookL_step rfl rfl (fun J hJ => ?_)
          go_simp
          refine ⟨_, fun _ _ => rfl, hJ _ ?_⟩
          clear hJ J
          refine lookL_step rfl rfl (fun J hJ => ?_)
          go_simp
          refine ⟨_, fun _ _ => rfl, hJ _ ?_⟩
          clear hJ J
          refine lookL_step rfl rfl (fun J hJ => ?_)
          go_simp
          refine ⟨v, fun w' hS => by simp [k1 w' hS], hJ _ ?_⟩
          clear hJ J
          refine lookL_step rfl rfl (fun J hJ => ?_)
          go_simp
          refine ⟨_, fun _ _ => rfl, hJ _ ?_⟩
          clear hJ J
          refine lookL_step rfl rfl (fun J hJ => ?_)
          go_simp
          refine ⟨_, fun _ _ => rfl, hJ _ ?_⟩
          clear hJ J
          refine lookL_step rfl rfl (fun J hJ => ?_)
          go_simp
          refine ⟨_, fun _ _ => rfl, hJ _ ?_⟩
          clear hJ J
          refine lookL_step rfl rfl (fun J hJ => ?_)
          go_simp
          refine ⟨.agg #[.int .u64 (s2.1 : Int), .int .u64 (s2.2 : Int)], fun w' hS => by simp [k4 w' hS, k5 w' hS], hJ _ ?_⟩
          clear hJ J
          refine lookL_step rfl rfl (fun J hJ => ?_)
          go_simp
          refine ⟨_, fun _ _ => rfl, hJ _ ?_⟩
          clear hJ J
          refine lookL_step rfl rfl (fun J hJ => ?_)
          go_simp
          refine ⟨_, fun _ _ => rfl, hJ _ ?_⟩
          clear hJ J
          refine lookL_step rfl rfl (fun J hJ => ?_)
          go_simp
          refine ⟨_, fun _ _ => rfl, hJ _ ?_⟩
          clear hJ J
          refine lookL_step rfl rfl (fun J hJ => ?_)
          go_simp
          refine ⟨.int .i64 (fr : Int), fun w' hS => by simp [k2 w' hS], hJ _ ?_⟩
          clear hJ J
          refine lookL_step rfl rfl (fun J hJ => ?_)
          go_simp
          refine ⟨_, fun _ _ => rfl, hJ _ ?_⟩
          clear hJ J
          refine lookL_step rfl rfl (fun J hJ => ?_)
          go_simp
          refine ⟨_, fun _ _ => rfl, hJ _ ?_⟩
          clear hJ J
          refine lookL_step rfl rfl (fun J hJ => ?_)
          go_simp
          refine ⟨_, fun _ _ => rfl, hJ _ ?_⟩
          clear hJ J
          refine lookL_step rfl rfl (fun J hJ => ?_)
          go_simp
          refine ⟨.int .i64 ((at' : Int) + 1), fun w' hS => by simp [k3 w' hS], hJ _ ?_⟩
          clear hJ J
          clear k1 k2 k3 k4 k5
          refine lookL_then ?_
          refine thenL_step rfl (fun J hJ => ?_)
          go_simp
          go_at_call 39
          refine (rule_any s2 hs2 _ HTI.out).mono ?_
          rintro e w3 ⟨rfl, hB3⟩
          have HC6 := hid (HCd.out.below hB3)
          have HT6 := hid (HTd.out.below hB3 hszd)
          refine hJ _ _ (fun _ => HC6.out.run) ?_
          clear hJ J HCd HTd HTI hB3 hRd
          refine thenL_step rfl (fun J hJ => ?_)
          go_simp
          refine hJ _ _ (fun _ => HC6.out.run) ?_
          clear hJ J
          have HC7 := hid (HC6.out.below ((Below.refl _ _).alloc (Nat.le_refl _) (.cells #[.int .i64 (ruleN s2), .int .i64 (fr : Int), .int .i64 ((at' : Int) + 1)] 30)))
          have HT7 := hid (HT6.out.alloc (.cells #[.int .i64 (ruleN s2), .int .i64 (fr : Int), .int .i64 ((at' : Int) + 1)] 30))
          have HK7 : K ≤ (w3.alloc (.cells #[.int .i64 (ruleN s2), .int .i64 (fr : Int), .int .i64 ((at' : Int) + 1)] 30)).heap.size := Nat.le_trans hKW HT7.out.size
          refine thenL_step rfl (fun J hJ => ?_)
          go_simp
          refine hJ _ _ (fun _ => HC7.out.run) ?_
          clear hJ J HC6 HT6
          refine thenL_step rfl (fun J hJ => ?_)
          refine step_append_own_at rfl (.tmp 107) (.tmp 122) 27 rfl K 30 i0 _ 3 24 Tryd.underlying27 hi0 hz0 hz1 hz2 rfl (by decide) v T.length (tokCells T) rfl HC7.out.tk ⟨w3.heap.size, 0, none⟩ 1 1 [Value.int .i64 (ruleN s2), Value.int .i64 (fr : Int), Value.int .i64 ((at' : Int) + 1)] rfl rfl (three_cells rfl) hone hlen1 hlen2 HK7 ?_
          intro v' w6 hown6 hg6 hat6
          refine hJ _ _ (fun _ => HC7.out.grown1 hg6) ?_
          clear hJ J
          have q1 := (HC7.out.grown1 hg6).cell 1
          have q2 := (HC7.out.grown1 hg6).fz
          simp only [List.getElem?_toArray, List.getElem?_cons_succ, List.getElem?_cons_zero] at q1
          have HP := hid (HC7.out.push hKB HK7 ⟨ruleN s2, fr, at' + 1⟩ hown6 hg6 hat6)
          have HT8 := hid ((HT7.out.grown hg6 (fun k e _ => Or.inr (Or.inr e))).setCell ⟨c, 1, none⟩ (fun _ => Or.inr (Or.inl rfl)) v')
          have HM : Hid (Moved w v v') := hat6.imp id (fun e => ⟨_, HT7.out.size, e⟩)
          obtain ⟨ad', cc', rfl⟩ := powns_shape hown6
          clear hown6 hg6 hat6 HK7 HC7 HT7
          refine thenL_step rfl (fun J hJ => ?_)
          go_simp
          refine hJ _ _ (fun h => absurd h (by decide)) ?_
          clear hJ J
          refine thenL_step rfl (fun J hJ => ?_)
          go_simp
          refine hJ _ _ (fun h => absurd h (by decide)) ?_
          clear hJ J
          refine thenL_step rfl (fun J hJ => ?_)
          go_simp
          refine hJ _ _ (fun h => absurd h (by decide)) ?_
          clear hJ J
          refine ⟨rfl, ?_⟩
          go_wp2_with fail
          go_meet
          exact ⟨_, HP.out, HT8.out, HM.out⟩
        case rest =>
          obtain ⟨v', hC6, hT6, hM6⟩ := hcut
          have c3 := hC6.run.cell 3
          have c2 := hC6.run.cell 2
          have cf := hC6.run.fz
          simp only [List.getElem?_toArray, List.getElem?_cons_succ, List.getElem?_cons_zero] at c2 c3
          have hC7 := hC6.setFr (at' + 1)
          have hT7 := hT6.setCell ⟨c, 2, none⟩ (fun _ => Or.inr (Or.inl rfl)) (.int .i64 ((at' + 1 : Nat) : Int))
          go_wp2_with fail
          go_end0
          rw [HE.out]
          first | exact ⟨l3, dn3, f3, v', rfl, hC7, hT7, hF3, hM6⟩ | exact ⟨rfl, l3, dn3, f3, v', hC7, hT7, hF3, hM6⟩
end Go.Proofs.YtjhmlcilabnlbaaDoor
/- How a text is cut: the pure side: tokens tile the text, and what stands behind a token is cut anew just so. -/
namespace Go.Proofs.YtjhmlcilabnlbaaDoor
open Go.RowKit

def iterR (D : PlD) (s : ByteArray) : Nat → Rn → Rn
  | 0, x => x
  | k + 1, x => iterR D s k (stepR D s x)
def rn0 : Rn := ⟨[], 0, 0, (0, 0)⟩
/-- The tokens of a text. -/
def lexN (D : PlD) (s : ByteArray) : List Tok := (iterR D s s.size rn0).tk
theorem iterR_add (D : PlD) (s : ByteArray) : ∀ (j k : Nat) (x : Rn), iterR D s (j + k) x = iterR D s k (iterR D s j x)
  | 0, k, x => by rw [Nat.zero_add]; rfl
  | j + 1, k, x => by
    rw [show j + 1 + k = (j + k) + 1 by omega]
    exact iterR_add D s j k (stepR D s x)
theorem iterR_succ (D : PlD) (s : ByteArray) (k : Nat) (x : Rn) : iterR D s (k + 1) x = stepR D s (iterR D s k x) := by
  rw [iterR_add D s k 1 x]; rfl

/-- The state behind the next byte. -/
def nextS (D : PlD) (s : ByteArray) (x : Rn) : S2 :=
  let s1 := if x.at' = x.fr then firstN D else x.st
  if s1.meets (leadN D s x.at') = true then stepN D s1.1 (byteN s x.at') else (0, 0)
theorem stepR_eq (D : PlD) (s : ByteArray) (x : Rn) : stepR D s x = if (nextS D s x).meets (leadN D s (x.at' + 1)) = true then ⟨x.tk, x.fr, x.at' + 1, nextS D s x⟩ else ⟨x.tk ++ [⟨ruleN (nextS D s x), x.fr, x.at' + 1⟩], x.at' + 1, x.at' + 1, nextS D s x⟩ := rfl
theorem stepR_at (D : PlD) (s : ByteArray) (x : Rn) : (stepR D s x).at' = x.at' + 1 := by rw [stepR_eq]; split <;> rfl
theorem iterR_at (D : PlD) (s : ByteArray) (k : Nat) (x : Rn) : (iterR D s k x).at' = x.at' + k := by
  induction k with
  | zero => rfl
  | succ k ih => rw [iterR_succ, stepR_at, ih]; omega

theorem S2.meets_zero (a : S2) : a.meets (0, 0) = false := by unfold S2.meets; simp
/-- At the text's end a token ends. -/
theorem stepR_end (D : PlD) (s : ByteArray) (x : Rn) (h : x.at' + 1 = s.size) : (stepR D s x).fr = s.size := by
  rw [stepR_eq, h, leadN_end, S2.meets_zero, if_neg Bool.false_ne_true]
theorem iterR_end (D : PlD) (s : ByteArray) : (iterR D s s.size rn0).fr = s.size := by
  cases hs : s.size with
  | zero => rfl
  | succ n =>
    rw [iterR_succ]
    have h := iterR_at D s n rn0
    have h' : (iterR D s n rn0).at' = n := by rw [h]; show 0 + n = n; omega
    rw [stepR_end D s _ (by rw [h', hs]), hs]

/-- Tokens that lie one behind the other, from a to b. -/
def Tiled : Nat → List Tok → Nat → Prop
  | a, [], b => a = b
  | a, x :: xs, b => x.fr = a ∧ a < x.tt ∧ (x.rl < 0 → x.tt = a + 1) ∧ Tiled x.tt xs b
theorem Tiled.snoc {a b : Nat} : ∀ {l : List Tok} {x : Tok}, Tiled a l b → x.fr = b → b < x.tt → (x.rl < 0 → x.tt = b + 1) → Tiled a (l ++ [x]) x.tt := by
  intro l
  induction l generalizing a with
  | nil => intro x h h1 h2 h3; cases h; exact ⟨h1, h2, h3, rfl⟩
  | cons y ys ih => intro x h h1 h2 h3; exact ⟨h.1, h.2.1, h.2.2.1, ih h.2.2.2 h1 h2 h3⟩

/-- While a run goes on, its state leads on; a token of more than a byte has a rule. -/
structure RunOk (D : PlD) (s : ByteArray) (x : Rn) : Prop where
  fr : x.fr ≤ x.at'
  tl : Tiled 0 x.tk x.fr
  on : x.fr < x.at' → x.st.meets (leadN D s x.at') = true
theorem S2.meets_or {a b c : S2} : a.meets (b.or c) = (a.meets b || a.meets c) := by
  unfold S2.meets S2.or
  simp only [Nat.and_or_distrib_left]
  rw [Bool.eq_iff_iff]
  simp only [Bool.or_eq_true, bne_iff_ne, ne_eq, Nat.or_eq_zero_iff]
  by_cases h1 : a.1 &&& b.1 = 0 <;> by_cases h2 : a.1 &&& c.1 = 0 <;> by_cases h3 : a.2 &&& b.2 = 0 <;> by_cases h4 : a.2 &&& c.2 = 0 <;> simp [h1, h2, h3, h4]
theorem testBit_or_mono {a b k : Nat} (h : a.testBit k = true) : (a ||| b).testBit k = true := by rw [Nat.testBit_or, h]; rfl
theorem meets_mono {a a' c : S2} (h1 : ∀ k, a.1.testBit k = true → a'.1.testBit k = true) (h2 : ∀ k, a.2.testBit k = true → a'.2.testBit k = true) (h : a.meets c = true) : a'.meets c = true := by
  unfold S2.meets at h ⊢
  have key : ∀ x x' y : Nat, (∀ k, x.testBit k = true → x'.testBit k = true) → (x &&& y != 0) = true → (x' &&& y != 0) = true := by
    intro x x' y hk hne
    simp only [bne_iff_ne, ne_eq] at hne ⊢
    intro e
    apply hne
    apply Nat.eq_of_testBit_eq
    intro i
    rw [Nat.zero_testBit, Nat.testBit_and]
    cases hx : x.testBit i with
    | false => rfl
    | true =>
      have h' := congrArg (fun z => z.testBit i) e
      simp only [Nat.testBit_and, hk i hx, Bool.true_and, Nat.zero_testBit] at h'
      rw [h']; rfl
  simp only [Bool.or_eq_true] at h ⊢
  rcases h with h | h
  · exact Or.inl (key _ _ _ h1 h)
  · exact Or.inr (key _ _ _ h2 h)
theorem stepL_has (D : PlD) (b : Nat) : ∀ (ks : List Nat) (acc : S2) (k : Nat), k ∈ ks → (D.mt b).1.testBit k = true →
    (∀ j, ((D.nx.getD k (0, 0)).1.testBit j = true → (ks.foldl (fun acc k => if (D.mt b).1.testBit k then acc.or (D.nx.getD k (0, 0)) else acc) acc).1.testBit j = true) ∧ ((D.nx.getD k (0, 0)).2.testBit j = true → (ks.foldl (fun acc k => if (D.mt b).1.testBit k then acc.or (D.nx.getD k (0, 0)) else acc) acc).2.testBit j = true)) := by
  have grow : ∀ (ks : List Nat) (acc : S2) (j : Nat), (acc.1.testBit j = true → (ks.foldl (fun acc k => if (D.mt b).1.testBit k then acc.or (D.nx.getD k (0, 0)) else acc) acc).1.testBit j = true) ∧ (acc.2.testBit j = true → (ks.foldl (fun acc k => if (D.mt b).1.testBit k then acc.or (D.nx.getD k (0, 0)) else acc) acc).2.testBit j = true) := by
    intro ks
    induction ks with
    | nil => intro acc j; exact ⟨id, id⟩
    | cons k ks ih =>
      intro acc j
      rw [List.foldl_cons]
      refine ⟨fun h => (ih _ j).1 ?_, fun h => (ih _ j).2 ?_⟩
      · split
        · exact testBit_or_mono h
        · exact h
      · split
        · exact testBit_or_mono h
        · exact h
  intro ks
  induction ks with
  | nil => intro acc k hk; cases hk
  | cons k0 ks ih =>
    intro acc k hk hb j
    rw [List.foldl_cons]
    rcases List.mem_cons.1 hk with e | hk
    · subst e
      rw [if_pos hb]
      refine ⟨fun h => (grow ks _ j).1 ?_, fun h => (grow ks _ j).2 ?_⟩
      · show (acc.1 ||| _).testBit j = true
        rw [Nat.testBit_or, h, Bool.or_true]
      · show (acc.2 ||| _).testBit j = true
        rw [Nat.testBit_or, h, Bool.or_true]
    · exact ih _ k hk hb j
theorem backL_mem (D : PlD) (goal : S2) : ∀ (ks : List Nat) (acc : S2) (j : Nat), (ks.foldl (fun acc k => if (D.nx.getD k (0, 0)).meets goal then acc.or (S2.bit k) else acc) acc).1.testBit j = true → acc.1.testBit j = true ∨ j ∈ ks ∧ (D.nx.getD j (0, 0)).meets goal = true := by
  intro ks
  induction ks with
  | nil => intro acc j h; exact Or.inl h
  | cons k ks ih =>
    intro acc j h
    rw [List.foldl_cons] at h
    rcases ih _ j h with h1 | ⟨h1, h2⟩
    · split at h1
      · rename_i hm
        have h1' : (acc.1 ||| (S2.bit k).1).testBit j = true := h1
        rw [Nat.testBit_or, Bool.or_eq_true] at h1'
        rcases h1' with h1' | h1'
        · exact Or.inl h1'
        · unfold S2.bit at h1'
          split at h1'
          · have e : k = j := by simpa [Nat.testBit_two_pow] using h1'
            subst e
            exact Or.inr ⟨List.mem_cons_self, hm⟩
          · simp at h1'
      · exact Or.inl h1
    · exact Or.inr ⟨List.mem_cons_of_mem _ h1, h2⟩
theorem backL_two (D : PlD) (goal : S2) : ∀ (ks : List Nat) (acc : S2), (∀ k, k ∈ ks → k < 64) → acc.2 = 0 → (ks.foldl (fun acc k => if (D.nx.getD k (0, 0)).meets goal then acc.or (S2.bit k) else acc) acc).2 = 0 := by
  intro ks
  induction ks with
  | nil => intro acc _ h; exact h
  | cons k ks ih =>
    intro acc hk h
    rw [List.foldl_cons]
    apply ih _ (fun j hj => hk j (List.mem_cons_of_mem _ hj))
    split
    · show acc.2 ||| (S2.bit k).2 = 0
      unfold S2.bit
      rw [if_pos (hk k List.mem_cons_self), h]; simp
    · exact h

/-- What meets where the text leads to an end goes on, or ends there. -/
theorem leads (D : PlD) (s : ByteArray) {m : Nat} (hm : m < s.size) (a : S2) (h : a.meets (leadN D s m) = true) : (stepN D a.1 (byteN s m)).meets ((leadN D s (m + 1)).or D.en) = true := by
  rw [leadN_step D s hm] at h
  unfold backN at h
  have h2 : (backL D ((leadN D s (m + 1)).or D.en) (bitsN (D.mt (byteN s m)).1)).2 = 0 := backL_two D _ _ _ (fun k hk => (mem_bitsN.1 hk).1) rfl
  unfold S2.meets at h
  rw [h2, Nat.and_zero] at h
  simp only [bne_self_eq_false, Bool.or_false, bne_iff_ne, ne_eq] at h
  obtain ⟨k, hk⟩ : ∃ k, (a.1 &&& (backL D ((leadN D s (m + 1)).or D.en) (bitsN (D.mt (byteN s m)).1)).1).testBit k = true := by
    by_cases hex : ∃ k, (a.1 &&& (backL D ((leadN D s (m + 1)).or D.en) (bitsN (D.mt (byteN s m)).1)).1).testBit k = true
    · exact hex
    · exfalso
      apply h
      apply Nat.eq_of_testBit_eq
      intro i
      rw [Nat.zero_testBit]
      cases e : (a.1 &&& (backL D ((leadN D s (m + 1)).or D.en) (bitsN (D.mt (byteN s m)).1)).1).testBit i with
      | false => rfl
      | true => exact absurd ⟨i, e⟩ hex
  rw [Nat.testBit_and, Bool.and_eq_true] at hk
  rcases backL_mem D _ _ (0, 0) k hk.2 with h3 | ⟨h3, h4⟩
  · simp at h3
  · obtain ⟨hk64, hkb⟩ := mem_bitsN.1 h3
    have hst := stepL_has D (byteN s m) (bitsN a.1) (0, 0) k (mem_bitsN.2 ⟨hk64, hk.1⟩) hkb
    exact meets_mono (fun j => (hst j).1) (fun j => (hst j).2) h4
theorem ruleN_neg {a : S2} (h : ruleN a < 0) : a.2 = 0 := by
  unfold ruleN at h
  split at h
  · assumption
  · omega
theorem meets_ends {a e : S2} (he : e.1 = 0) (h : a.meets e = true) : a.2 ≠ 0 := by
  intro h0
  unfold S2.meets at h
  rw [he, h0] at h
  simp at h
theorem RunOk.step {D : PlD} {s : ByteArray} {x : Rn} (h : RunOk D s x) (he : D.en.1 = 0) (hat : x.at' < s.size) : RunOk D s (stepR D s x) := by
  rw [stepR_eq]
  cases hm : (nextS D s x).meets (leadN D s (x.at' + 1)) with
  | true =>
    rw [if_pos rfl]
    exact ⟨Nat.le_succ_of_le h.fr, h.tl, fun _ => hm⟩
  | false =>
    rw [if_neg Bool.false_ne_true]
    refine ⟨Nat.le_refl _, h.tl.snoc rfl (Nat.lt_succ_of_le h.fr) (fun hr => ?_), fun hlt => absurd hlt (Nat.lt_irrefl _)⟩
    show x.at' + 1 = x.fr + 1
    rcases Nat.lt_or_ge x.fr x.at' with hlt | hge
    · exfalso
      have hon := h.on hlt
      have hne : ¬ x.at' = x.fr := by omega
      have hn : nextS D s x = stepN D x.st.1 (byteN s x.at') := by
        unfold nextS
        simp only [if_neg hne, hon, if_true]
      have hl := leads D s hat x.st hon
      rw [← hn, S2.meets_or, hm, Bool.false_or] at hl
      exact meets_ends he hl (ruleN_neg hr)
    · have := h.fr; omega
theorem RunOk.iter {D : PlD} {s : ByteArray} (he : D.en.1 = 0) : ∀ k, k ≤ s.size → RunOk D s (iterR D s k rn0)
  | 0, _ => ⟨Nat.le_refl _, rfl, fun h => absurd h (Nat.lt_irrefl _)⟩
  | k + 1, hk => by
    rw [iterR_succ]
    exact (RunOk.iter he k (by omega)).step he (by rw [iterR_at]; show 0 + k < s.size; omega)
/-- The tokens of a text tile it. -/
theorem lexN_tiled {D : PlD} (s : ByteArray) (he : D.en.1 = 0) : Tiled 0 (lexN D s) s.size := by
  have h := (RunOk.iter (D := D) (s := s) he s.size (Nat.le_refl _)).tl
  rw [iterR_end] at h
  exact h

theorem ctz_less {y n : Nat} (h0 : y ≠ 0) (h64 : y < 2 ^ 64) (hn : y < 2 ^ n) : Lib.ctz 64 y < n := by
  obtain ⟨m, hm, -⟩ := ctz_odd y h0 h64
  have h1 : 2 ^ Lib.ctz 64 y ≤ y := by
    conv => rhs; rw [hm]
    exact Nat.le_mul_of_pos_right _ (by omega)
  exact (Nat.pow_lt_pow_iff_right (by decide)).1 (Nat.lt_of_le_of_lt h1 hn)
theorem stepN_two {D : PlD} {n : Nat} (h : ∀ a, a ∈ D.nx → a.2 < 2 ^ n) (x b : Nat) : (stepN D x b).2 < 2 ^ n := by
  have key : ∀ (ks : List Nat) (acc : S2), acc.2 < 2 ^ n → (ks.foldl (fun acc k => if (D.mt b).1.testBit k then acc.or (D.nx.getD k (0, 0)) else acc) acc).2 < 2 ^ n := by
    intro ks
    induction ks with
    | nil => intro acc ha; exact ha
    | cons k ks ih =>
      intro acc ha
      rw [List.foldl_cons]
      apply ih
      split
      · refine Nat.or_lt_two_pow ha ?_
        rw [List.getD_eq_getElem?_getD]
        cases e : D.nx[k]? with
        | none => exact Nat.two_pow_pos n
        | some a => exact h a (List.mem_of_getElem? e)
      · exact ha
  exact key _ _ (Nat.two_pow_pos n)
theorem nextS_two {D : PlD} {n : Nat} (h : ∀ a, a ∈ D.nx → a.2 < 2 ^ n) (s : ByteArray) (x : Rn) : (nextS D s x).2 < 2 ^ n := by
  unfold nextS
  simp only
  generalize (if x.at' = x.fr then firstN D else x.st) = s1
  split
  · exact stepN_two h _ _
  · exact Nat.two_pow_pos n
def rlOk (n : Nat) (l : List Tok) : Prop := ∀ x, x ∈ l → -1 ≤ x.rl ∧ x.rl < (n : Int)
theorem lexN_rules {D : PlD} {n : Nat} (h : ∀ a, a ∈ D.nx → a.2 < 2 ^ n) (hn : n ≤ 64) (s : ByteArray) : rlOk n (lexN D s) := by
  have key : ∀ k, rlOk n (iterR D s k rn0).tk := by
    intro k
    induction k with
    | zero => intro x hx; cases hx
    | succ k ih =>
      rw [iterR_succ, stepR_eq]
      split
      · exact ih
      · intro x hx
        rcases List.mem_append.1 hx with hx | hx
        · exact ih x hx
        · rw [List.mem_singleton] at hx
          subst hx
          show -1 ≤ ruleN _ ∧ ruleN _ < _
          have h2 := nextS_two h s (iterR D s k rn0)
          generalize nextS D s (iterR D s k rn0) = z at *
          unfold ruleN
          split
          · exact ⟨by omega, by omega⟩
          · rename_i h0
            have h64 : z.2 < 2 ^ 64 := Nat.lt_of_lt_of_le h2 (Nat.pow_le_pow_right (by decide) hn)
            have := ctz_less h0 h64 h2
            exact ⟨by omega, by omega⟩
  exact key s.size

/-- A token further on. -/
def Tok.sh (a : Nat) (x : Tok) : Tok := ⟨x.rl, x.fr + a, x.tt + a⟩
def Rn.sh (T : List Tok) (a : Nat) (x : Rn) : Rn := ⟨T ++ x.tk.map (Tok.sh a), x.fr + a, x.at' + a, x.st⟩
theorem byteN_ext (s : ByteArray) (a i : Nat) (h : a + i < s.size) : byteN (s.extract a s.size) i = byteN s (a + i) := by
  have h1 : i < (s.extract a s.size).size := by rw [ByteArray.size_extract]; omega
  rw [← byteN_at h1, ← byteN_at h]
  rw [ByteArray.getElem_extract]
theorem size_ext (s : ByteArray) (a : Nat) : (s.extract a s.size).size = s.size - a := by rw [ByteArray.size_extract]; omega
theorem leadK_ext (D : PlD) (s : ByteArray) (a : Nat) : ∀ k, k ≤ s.size - a → leadK D (s.extract a s.size) k = leadK D s k
  | 0, _ => rfl
  | k + 1, hk => by
    show backN D (byteN (s.extract a s.size) ((s.extract a s.size).size - (k + 1))) (leadK D (s.extract a s.size) k) = backN D (byteN s (s.size - (k + 1))) (leadK D s k)
    rw [leadK_ext D s a k (by omega), size_ext, byteN_ext s a _ (by omega), show a + (s.size - a - (k + 1)) = s.size - (k + 1) by omega]
theorem leadN_ext (D : PlD) (s : ByteArray) (a i : Nat) (h : a ≤ s.size) : leadN D (s.extract a s.size) i = leadN D s (i + a) := by
  unfold leadN
  rw [size_ext, leadK_ext D s a _ (by omega), show s.size - a - i = s.size - (i + a) by omega]
theorem stepR_sh (D : PlD) (s : ByteArray) (T : List Tok) (a : Nat) (x : Rn) (h : x.at' + a < s.size) : stepR D s (x.sh T a) = (stepR D (s.extract a s.size) x).sh T a := by
  have hn : nextS D s (x.sh T a) = nextS D (s.extract a s.size) x := by
    unfold nextS
    have e : ((x.sh T a).at' = (x.sh T a).fr) = (x.at' = x.fr) := by
      show (x.at' + a = x.fr + a) = _
      simp
    simp only [e]
    rw [leadN_ext D s a x.at' (by omega), byteN_ext s a x.at' (by omega)]
    show (if (if x.at' = x.fr then firstN D else x.st).meets (leadN D s (x.at' + a)) = true then stepN D (if x.at' = x.fr then firstN D else x.st).1 (byteN s (x.at' + a)) else (0, 0)) = _
    rw [Nat.add_comm a x.at']
  rw [stepR_eq, stepR_eq, hn, leadN_ext D s a _ (by omega)]
  rw [show (x.sh T a).at' + 1 = x.at' + 1 + a by show x.at' + a + 1 = _; omega]
  split
  · show _ = Rn.mk _ _ _ _
    congr 1
  · show Rn.mk _ _ _ _ = Rn.mk _ _ _ _
    congr 1
    show T ++ x.tk.map (Tok.sh a) ++ [_] = T ++ (x.tk ++ [_]).map (Tok.sh a)
    rw [List.map_append, List.append_assoc]
    rfl
theorem iterR_sh (D : PlD) (s : ByteArray) (T : List Tok) (a : Nat) : ∀ (k : Nat) (x : Rn), x.at' + k + a ≤ s.size → iterR D s k (x.sh T a) = (iterR D (s.extract a s.size) k x).sh T a
  | 0, _, _ => rfl
  | k + 1, x, h => by
    show iterR D s k (stepR D s (x.sh T a)) = (iterR D (s.extract a s.size) k (stepR D (s.extract a s.size) x)).sh T a
    rw [stepR_sh D s T a x (by omega)]
    exact iterR_sh D s T a k _ (by rw [stepR_at]; omega)
theorem stepR_fresh (D : PlD) (s : ByteArray) (T : List Tok) (a : Nat) (z z' : S2) : stepR D s ⟨T, a, a, z⟩ = stepR D s ⟨T, a, a, z'⟩ := by
  have hn : nextS D s ⟨T, a, a, z⟩ = nextS D s ⟨T, a, a, z'⟩ := by
    unfold nextS
    simp only [if_true]
  rw [stepR_eq, stepR_eq, hn]
/-- Behind a token the text is cut as by itself. -/
theorem lexN_behind (D : PlD) (s : ByteArray) (k : Nat) (hk : k ≤ s.size) (hb : (iterR D s k rn0).fr = k) : lexN D s = (iterR D s k rn0).tk ++ (lexN D (s.extract k s.size)).map (Tok.sh k) := by
  have hat : (iterR D s k rn0).at' = k := by rw [iterR_at]; show 0 + k = k; omega
  obtain ⟨j, hj⟩ : ∃ j, s.size = k + j := ⟨s.size - k, by omega⟩
  unfold lexN
  rw [size_ext, show s.size - k = j by omega]
  conv => lhs; rw [hj, iterR_add]
  generalize hx : iterR D s k rn0 = x at *
  obtain ⟨T, fr, at', st⟩ := x
  dsimp only at hat hb
  subst hb
  subst hat
  cases j with
  | zero => show T = T ++ _; simp [iterR, rn0]
  | succ j =>
    show (iterR D s j (stepR D s ⟨T, at', at', st⟩)).tk = _
    rw [stepR_fresh D s T at' st (0, 0)]
    have e : (⟨T, at', at', (0, 0)⟩ : Rn) = rn0.sh T at' := by
      show _ = Rn.mk _ _ _ _
      simp [rn0]
    rw [e]
    show (iterR D s (j + 1) (rn0.sh T at')).tk = _
    rw [iterR_sh D s T at' (j + 1) rn0 (by show 0 + (j + 1) + at' ≤ s.size; omega)]
    rfl
/-- Each token was the last one once, and a new one began behind it. -/
theorem was_last (D : PlD) (s : ByteArray) : ∀ k, ∀ i x, (iterR D s k rn0).tk[i]? = some x → ∃ j, j ≤ k ∧ j = x.tt ∧ (iterR D s j rn0).fr = j ∧ (iterR D s j rn0).tk = (iterR D s k rn0).tk.take (i + 1) := by
  intro k
  induction k with
  | zero => intro i x h; simp [iterR, rn0] at h
  | succ k ih =>
    intro i x h
    have hat : (iterR D s k rn0).at' = k := by rw [iterR_at]; show 0 + k = k; omega
    have hs := iterR_succ D s k rn0
    by_cases hm : (nextS D s (iterR D s k rn0)).meets (leadN D s ((iterR D s k rn0).at' + 1)) = true
    · rw [stepR_eq, if_pos hm] at hs
      rw [hs] at h ⊢
      obtain ⟨j, h1, h2, h3, h4⟩ := ih i x h
      exact ⟨j, by omega, h2, h3, h4⟩
    · rw [stepR_eq, if_neg hm] at hs
      have htk : (iterR D s (k + 1) rn0).tk = (iterR D s k rn0).tk ++ [⟨ruleN (nextS D s (iterR D s k rn0)), (iterR D s k rn0).fr, (iterR D s k rn0).at' + 1⟩] := by rw [hs]
      have hfr : (iterR D s (k + 1) rn0).fr = k + 1 := by rw [hs]; show (iterR D s k rn0).at' + 1 = _; omega
      rw [htk] at h
      rcases Nat.lt_or_ge i (iterR D s k rn0).tk.length with hlt | hge
      · rw [List.getElem?_append_left hlt] at h
        obtain ⟨j, h1, h2, h3, h4⟩ := ih i x h
        refine ⟨j, by omega, h2, h3, ?_⟩
        rw [h4, htk, List.take_append_of_le_length (by omega)]
      · have hi : i = (iterR D s k rn0).tk.length := by
          rcases Nat.lt_or_ge (iterR D s k rn0).tk.length i with hlt | h2
          · rw [List.getElem?_eq_none (by simp; omega)] at h; cases h
          · omega
        subst hi
        rw [List.getElem?_append_right (Nat.le_refl _), Nat.sub_self] at h
        simp only [List.getElem?_cons_zero, Option.some.injEq] at h
        refine ⟨k + 1, Nat.le_refl _, ?_, hfr, ?_⟩
        · rw [← h]; show k + 1 = (iterR D s k rn0).at' + 1; omega
        · rw [htk, List.take_of_length_le (by simp)]
/-- What stands behind any token is cut anew just so. -/
theorem lexN_rest (D : PlD) (s : ByteArray) (i : Nat) (x : Tok) (h : (lexN D s)[i]? = some x) : x.tt ≤ s.size ∧ lexN D s = (lexN D s).take (i + 1) ++ (lexN D (s.extract x.tt s.size)).map (Tok.sh x.tt) := by
  obtain ⟨j, h1, rfl, h3, h4⟩ := was_last D s s.size i x h
  refine ⟨h1, ?_⟩
  have hb := lexN_behind D s x.tt h1 h3
  rw [h4] at hb
  exact hb
end Go.Proofs.YtjhmlcilabnlbaaDoor
/- The lexer: cut, Lex. -/
namespace Go.Proofs.YtjhmlcilabnlbaaDoor
open Go.RowKit Go.Shelf

attribute [local go_sem] Oper.semAt_some

theorem nextS_ok {D : PlD} (hD : D.ok) (s : ByteArray) (x : Rn) : (nextS D s x).ok := by
  unfold nextS
  simp only
  generalize (if x.at' = x.fr then firstN D else x.st) = s1
  split
  · exact stepL_ok D hD _ _
  · exact S2.zero_ok
theorem iterR_ok {D : PlD} (hD : D.ok) (s : ByteArray) : ∀ k, (iterR D s k rn0).st.ok
  | 0 => S2.zero_ok
  | k + 1 => by
    rw [iterR_succ, stepR_eq]
    split <;> exact nextS_ok hD s _
theorem iterR_len (D : PlD) (s : ByteArray) : ∀ k, (iterR D s k rn0).tk.length ≤ k
  | 0 => Nat.le_refl _
  | k + 1 => by
    have := iterR_len D s k
    rw [iterR_succ, stepR_eq]
    split
    · exact Nat.le_succ_of_le this
    · simp; exact this

theorem tok_base {w : World} {K K' : Nat} {v : Value} {T : List Tok} (h : w.ownsRow K 30 3 v T.length (tokCells T)) (hK : K' ≤ K) : w.ownsRow K' 30 3 v T.length (tokCells T) := by
  refine ⟨h.1, ?_⟩
  rcases h.2 with h0 | ⟨g, c, cur, hv, h1, h2⟩
  · exact .inl h0
  · exact .inr ⟨g, c, cur, hv, by omega, h2⟩
theorem tok_ge {w : World} {K : Nat} {v : Value} {T : List Tok} (h : w.ownsRow K 30 3 v T.length (tokCells T)) {g : Nat} (hg : v.ownBlock = some g) : K ≤ g := by
  rcases h.2 with ⟨e, -⟩ | ⟨g', cap, cur, e, h1, -⟩
  · rw [e] at hg; cases hg
  · rw [e] at hg; cases hg; exact h1
/-- A run's cells stored into a box. -/
def putRn (w : World) (g : Nat) (u0 u1 u2 u3 u4 u5 : Value) : World := (((((w.setCell ⟨g, 0, none⟩ u0).setCell ⟨g, 1, none⟩ u1).setCell ⟨g, 2, none⟩ u2).setCell ⟨g, 3, none⟩ u3).setCell ⟨g, 4, none⟩ u4).setCell ⟨g, 5, none⟩ u5
theorem putRn_other (w : World) (g : Nat) (u0 u1 u2 u3 u4 u5 : Value) {k : Nat} (hk : k ≠ g) : (putRn w g u0 u1 u2 u3 u4 u5).heap[k]? = w.heap[k]? :=
  (Below.heap_setCell _ _ _ _ hk).trans ((Below.heap_setCell _ _ _ _ hk).trans ((Below.heap_setCell _ _ _ _ hk).trans ((Below.heap_setCell _ _ _ _ hk).trans ((Below.heap_setCell _ _ _ _ hk).trans (Below.heap_setCell _ _ _ _ hk)))))
theorem putRn_at {w : World} {g : Nat} {a0 a1 a2 a3 a4 a5 : Value} {T : TypeId} {fz : Nat × Nat} (h : w.heap[g]? = some (.cells #[a0, a1, a2, a3, a4, a5] T fz)) (u0 u1 u2 u3 u4 u5 : Value) : (putRn w g u0 u1 u2 u3 u4 u5).heap[g]? = some (.cells #[u0, u1, u2, u3, u4, u5] T fz) := hset (hset (hset (hset (hset (hset h _) _) _) _) _) _
theorem putRn_turn {S : Nat → Prop} {a w : World} {g : Nat} (h : Turn S a w) (hg : a.heap.size ≤ g) (u0 u1 u2 u3 u4 u5 : Value) : Turn S a (putRn w g u0 u1 u2 u3 u4 u5) := by
  have n : ∀ i, (⟨g, i, none⟩ : Addr).block < a.heap.size → S (⟨g, i, none⟩ : Addr).block := fun i hi => absurd hi (by show ¬ g < a.heap.size; omega)
  exact (((((h.setCell ⟨g, 0, none⟩ (n 0) _).setCell ⟨g, 1, none⟩ (n 1) _).setCell ⟨g, 2, none⟩ (n 2) _).setCell ⟨g, 3, none⟩ (n 3) _).setCell ⟨g, 4, none⟩ (n 4) _).setCell ⟨g, 5, none⟩ (n 5) _

theorem putRn_below {B : Nat} {w : World} {g : Nat} (hg : B ≤ g) {u0 u1 u2 u3 u4 u5 : Value} : Below B w (putRn w g u0 u1 u2 u3 u4 u5) :=
  ((((((Below.refl B w).setCell (p := ⟨g, 0, none⟩) hg _).setCell (p := ⟨g, 1, none⟩) hg _).setCell (p := ⟨g, 2, none⟩) hg _).setCell (p := ⟨g, 3, none⟩) hg _).setCell (p := ⟨g, 4, none⟩) hg _).setCell (p := ⟨g, 5, none⟩) hg _
/-- What cut comes to. -/
def CutOut (B r t p room mb : Nat) (D : PlD) (s : ByteArray) (l : List (S2 × Nat)) (w : World) (e : Ending) (w' : World) : Prop :=
  ∃ (l' : List (S2 × Nat)) (dn' : Int) (f' : S2) (v : Value) (a b c d : Int), e = .returned (.agg #[.pointer (some ⟨r, 0, none⟩), v, .int .i64 a, .int .i64 b, .int .u64 c, .int .u64 d]) ∧ w'.ownsRow w.heap.size 30 3 v (lexN D s).length (tokCells (lexN D s)) ∧ TblI B w' t p room D dn' 0 f' 0 mb l' ∧ Firsts D dn' f' ∧ Turn (tbS t mb l) w w' ∧ Fresh l l' w

set_option maxRecDepth 100000 in
set_option maxHeartbeats 4000000 in
theorem cut_any (B : Nat) (hB1 : 1 ≤ B) (r lx lb t p room mb : Nat) (D : PlD) (hD : D.ok) (s : ByteArray) (hs : s.size ≤ 1048576) (l : List (S2 × Nat)) (dn : Int) (f : S2) (w : World)
    (hrd : RdB w r lx s lb) (hld : Led w lb s.size (leadN D s)) (hlx : LxB w lx p t) (htb : TblI B w t p room D dn 0 f 0 mb l) (hfs : Firsts D dn f) (hti : TabIn w) :
    Calls Tryd.prog 16 #[.pointer (some ⟨r, 0, none⟩), .int .i64 0, .int .i64 (s.size : Int)] w fun e w' => CutOut B r t p room mb D s l w e w' := by
  have htl := htb.tb.lt
  have hBw : B ≤ w.heap.size := by have := htb.gt; omega
  have hV : Below w.heap.size w ((w.alloc (.cells #[.pointer none, .slice none 0 0, .int .i64 0, .int .i64 0, .int .u64 0, .int .u64 0] 60)).alloc (.cells #[.pointer (some ⟨r, 0, none⟩), .slice none 0 0, .int .i64 0, .int .i64 0, .int .u64 0, .int .u64 0] 60)) := ((Below.refl _ w).alloc (Nat.le_refl _) _).alloc (by simp) _
  have v0 : ((w.alloc (.cells #[.pointer none, .slice none 0 0, .int .i64 0, .int .i64 0, .int .u64 0, .int .u64 0] 60)).alloc (.cells #[.pointer (some ⟨r, 0, none⟩), .slice none 0 0, .int .i64 0, .int .i64 0, .int .u64 0, .int .u64 0] 60)).heap[w.heap.size]? = some (.cells #[.pointer none, .slice none 0 0, .int .i64 0, .int .i64 0, .int .u64 0, .int .u64 0] 60 (0, 0)) := heap_alloc_old (heap_alloc_at _ _) (by simp)
  have v1 : ((w.alloc (.cells #[.pointer none, .slice none 0 0, .int .i64 0, .int .i64 0, .int .u64 0, .int .u64 0] 60)).alloc (.cells #[.pointer (some ⟨r, 0, none⟩), .slice none 0 0, .int .i64 0, .int .i64 0, .int .u64 0, .int .u64 0] 60)).heap[w.heap.size + 1]? = some (.cells #[.pointer (some ⟨r, 0, none⟩), .slice none 0 0, .int .i64 0, .int .i64 0, .int .u64 0, .int .u64 0] 60 (0, 0)) := by
    have h := heap_alloc_at (w.alloc (.cells #[.pointer none, .slice none 0 0, .int .i64 0, .int .i64 0, .int .u64 0, .int .u64 0] 60)) (.cells #[.pointer (some ⟨r, 0, none⟩), .slice none 0 0, .int .i64 0, .int .i64 0, .int .u64 0, .int .u64 0] 60)
    rw [World.size_alloc] at h
    exact h
  have hVs : ((w.alloc (.cells #[.pointer none, .slice none 0 0, .int .i64 0, .int .i64 0, .int .u64 0, .int .u64 0] 60)).alloc (.cells #[.pointer (some ⟨r, 0, none⟩), .slice none 0 0, .int .i64 0, .int .i64 0, .int .u64 0, .int .u64 0] 60)).heap.size = w.heap.size + 1 + 1 := by simp
  go_enter Tryd.func16, Tryd.ntmps16
  go_wp2_with fail
  generalize ((w.alloc (.cells #[.pointer none, .slice none 0 0, .int .i64 0, .int .i64 0, .int .u64 0, .int .u64 0] 60)).alloc (.cells #[.pointer (some ⟨r, 0, none⟩), .slice none 0 0, .int .i64 0, .int .i64 0, .int .u64 0, .int .u64 0] 60)) = V at *
  have hI0 : CutI B V.heap.size V (w.heap.size + 1) r lx lb t p room mb D s l dn f (.slice none 0 0) [] 0 0 (0, 0) :=
    ⟨v1, (hV.block _ hrd.lt).trans hrd, hld.keep (hV.block _ hld.lt), (hV.block _ (Array.getElem?_eq_some_iff.1 hlx).1).trans hlx, htb.below hV, hfs, World.ownsRow_nil _ _ _ _, hti.below hV (by omega), hB1, by omega⟩
  have ltS : ∀ k, w.heap.size ≤ k → ¬ tbS t mb l k := fun k hk h => by have := (htb.ltS h).2; omega
  clear v1
  go_loopg [16] s.size (fun gk _x wr => ∃ k l' dn' f' v, k + gk = s.size ∧ CutI B V.heap.size wr (w.heap.size + 1) r lx lb t p room mb D s l' dn' f' v (iterR D s k rn0).tk (iterR D s k rn0).fr (iterR D s k rn0).at' (iterR D s k rn0).st ∧ Turn (fun j => tbS t mb l j ∨ j = w.heap.size + 1) V wr ∧ Fresh l l' V)
  case atStart => exact ⟨0, l, dn, f, .slice none 0 0, by omega, hI0, Turn.refl _ _, Fresh.refl l V⟩
  case round =>
    obtain ⟨k, l', dn', f', v, hk, hI, hT, hF⟩ := hrel
    have hat : (iterR D s k rn0).at' = k := by rw [iterR_at]; show 0 + k = k; omega
    have hok := iterR_ok hD s k
    have hlen := iterR_len D s k
    have HSU := hid (iterR_succ D s k rn0)
    have HEN : Hid (k = s.size → iterR D s k rn0 = iterR D s s.size rn0) := fun e => by rw [e]
    generalize iterR D s k rn0 = x at *
    obtain ⟨T, fr, at', st⟩ := x
    dsimp only at hI hat hok hlen
    subst hat
    have c3 := hI.run.cell 3
    simp only [List.getElem?_toArray, List.getElem?_cons_succ, List.getElem?_cons_zero] at c3
    have htn := hT.size
    by_cases hlt : at' < s.size
    · have hltI : (at' : Int) < (s.size : Int) := by omega
      go_wp2_with fail
      refine (rstep_any B V.heap.size (w.heap.size + 1) r lx lb t p room mb D hD s hs l' dn' f' v T fr at' st hok hlt (by omega) (by omega) wr htn hI).mono ?_
      rintro e w2 ⟨l2, dn2, f2, v2, rfl, hI2, hT2, hF2, hM2⟩
      rw [← HSU.out] at hI2
      have hT3 : Turn (fun j => tbS t mb l j ∨ j = w.heap.size + 1) V w2 := hT.next hT2 (fun j hj e => by
        rcases e with e | e | e
        · exact Or.inl (tbS_fresh hF hj e)
        · exact Or.inr e
        · have := tok_ge hI.tk e; omega)
      go_wp2_with fail
      go_roundg (gk - 1)
      case measure => omega
      case rel => exact ⟨at' + 1, l2, dn2, f2, v2, by omega, hI2, hT3, hF.trans hF2 hT.size⟩
    · have hge : ¬ (at' : Int) < (s.size : Int) := by omega
      have hE := HEN.out (by omega)
      have HLX : Hid (lexN D s = T) := by unfold Hid lexN; rw [← hE]
      clear HEN hE HSU
      have c0 := hI.run.cell 0
      have c1 := hI.run.cell 1
      have c2 := hI.run.cell 2
      have c4 := hI.run.cell 4
      have c5 := hI.run.cell 5
      have hrb : wr.heap[w.heap.size]? = some (.cells #[.pointer none, .slice none 0 0, .int .i64 0, .int .i64 0, .int .u64 0, .int .u64 0] 60 (0, 0)) := (hT.block _ (by omega) (fun e => by
        rcases e with e | e
        · exact ltS _ (Nat.le_refl _) e
        · omega)).trans v0
      have r0 : wr.cell? ⟨w.heap.size, 0, none⟩ = some (.pointer none) := by simp [World.cell?, hrb]
      have r1 : wr.cell? ⟨w.heap.size, 1, none⟩ = some (.slice none 0 0) := by simp [World.cell?, hrb]
      have r2 : wr.cell? ⟨w.heap.size, 2, none⟩ = some (.int .i64 0) := by simp [World.cell?, hrb]
      have r3 : wr.cell? ⟨w.heap.size, 3, none⟩ = some (.int .i64 0) := by simp [World.cell?, hrb]
      have r4 : wr.cell? ⟨w.heap.size, 4, none⟩ = some (.int .u64 0) := by simp [World.cell?, hrb]
      have r5 : wr.cell? ⟨w.heap.size, 5, none⟩ = some (.int .u64 0) := by simp [World.cell?, hrb]
      have rf : ∀ j, wr.frozen? ⟨w.heap.size, j, none⟩ = false := fun j => by simp [World.frozen?, hrb]
      simp only [List.getElem?_toArray, List.getElem?_cons_succ, List.getElem?_cons_zero] at c0 c1 c2 c4 c5
      obtain ⟨ad, cc, rfl⟩ := powns_shape hI.tk
      go_wp2_with fail
      have hq : (putRn wr w.heap.size (.pointer (some ⟨r, 0, none⟩)) (.slice ad T.length cc) (.int .i64 (fr : Int)) (.int .i64 (at' : Int)) (.int .u64 (st.1 : Int)) (.int .u64 (st.2 : Int))).heap[w.heap.size]? = some (.cells #[.pointer (some ⟨r, 0, none⟩), .slice ad T.length cc, .int .i64 (fr : Int), .int .i64 (at' : Int), .int .u64 (st.1 : Int), .int .u64 (st.2 : Int)] 60 (0, 0)) := putRn_at hrb _ _ _ _ _ _
      have q0 : (putRn wr w.heap.size (.pointer (some ⟨r, 0, none⟩)) (.slice ad T.length cc) (.int .i64 (fr : Int)) (.int .i64 (at' : Int)) (.int .u64 (st.1 : Int)) (.int .u64 (st.2 : Int))).cell? ⟨w.heap.size, 0, none⟩ = some (.pointer (some ⟨r, 0, none⟩)) := by simp [World.cell?, hq]
      have q1 : (putRn wr w.heap.size (.pointer (some ⟨r, 0, none⟩)) (.slice ad T.length cc) (.int .i64 (fr : Int)) (.int .i64 (at' : Int)) (.int .u64 (st.1 : Int)) (.int .u64 (st.2 : Int))).cell? ⟨w.heap.size, 1, none⟩ = some (.slice ad T.length cc) := by simp [World.cell?, hq]
      have q2 : (putRn wr w.heap.size (.pointer (some ⟨r, 0, none⟩)) (.slice ad T.length cc) (.int .i64 (fr : Int)) (.int .i64 (at' : Int)) (.int .u64 (st.1 : Int)) (.int .u64 (st.2 : Int))).cell? ⟨w.heap.size, 2, none⟩ = some (.int .i64 (fr : Int)) := by simp [World.cell?, hq]
      have q3 : (putRn wr w.heap.size (.pointer (some ⟨r, 0, none⟩)) (.slice ad T.length cc) (.int .i64 (fr : Int)) (.int .i64 (at' : Int)) (.int .u64 (st.1 : Int)) (.int .u64 (st.2 : Int))).cell? ⟨w.heap.size, 3, none⟩ = some (.int .i64 (at' : Int)) := by simp [World.cell?, hq]
      have q4 : (putRn wr w.heap.size (.pointer (some ⟨r, 0, none⟩)) (.slice ad T.length cc) (.int .i64 (fr : Int)) (.int .i64 (at' : Int)) (.int .u64 (st.1 : Int)) (.int .u64 (st.2 : Int))).cell? ⟨w.heap.size, 4, none⟩ = some (.int .u64 (st.1 : Int)) := by simp [World.cell?, hq]
      have q5 : (putRn wr w.heap.size (.pointer (some ⟨r, 0, none⟩)) (.slice ad T.length cc) (.int .i64 (fr : Int)) (.int .i64 (at' : Int)) (.int .u64 (st.1 : Int)) (.int .u64 (st.2 : Int))).cell? ⟨w.heap.size, 5, none⟩ = some (.int .u64 (st.2 : Int)) := by simp [World.cell?, hq]
      have hTe : Turn (tbS t mb l) w (putRn wr w.heap.size (.pointer (some ⟨r, 0, none⟩)) (.slice ad T.length cc) (.int .i64 (fr : Int)) (.int .i64 (at' : Int)) (.int .u64 (st.1 : Int)) (.int .u64 (st.2 : Int))) := putRn_turn ((Turn.ofBelow hV).next hT (fun j hj e => by
        rcases e with e | e
        · exact e
        · omega)) (Nat.le_refl _) _ _ _ _ _ _
      have hIe : TblI B (putRn wr w.heap.size (.pointer (some ⟨r, 0, none⟩)) (.slice ad T.length cc) (.int .i64 (fr : Int)) (.int .i64 (at' : Int)) (.int .u64 (st.1 : Int)) (.int .u64 (st.2 : Int))) t p room D dn' 0 f' 0 mb l' := hI.tb.keep (fun j hj => putRn_other _ _ _ _ _ _ _ _ (fun e => hI.tb.sepT hrb (by decide) (by decide) (e ▸ hj))) (putRn_below hBw)
      have hown : (putRn wr w.heap.size (.pointer (some ⟨r, 0, none⟩)) (.slice ad T.length cc) (.int .i64 (fr : Int)) (.int .i64 (at' : Int)) (.int .u64 (st.1 : Int)) (.int .u64 (st.2 : Int))).ownsRow w.heap.size 30 3 (.slice ad T.length cc) T.length (tokCells T) := tok_keep (tok_base hI.tk (by omega)) (fun g hg => putRn_other _ _ _ _ _ _ _ _ (fun e => by
        obtain ⟨cur, hcur⟩ := tok_own hI.tk hg
        rw [e, hrb] at hcur
        simp at hcur))
      refine bodyPost_ret (v := .agg #[.pointer (some ⟨r, 0, none⟩), .slice ad T.length cc, .int .i64 (fr : Int), .int .i64 (at' : Int), .int .u64 (st.1 : Int), .int .u64 (st.2 : Int)]) (by unfold putRn at q0 q1 q2 q3 q4 q5; simp [results, Tryd.results16, go_sem, q0, q1, q2, q3, q4, q5]) rfl ?_
      exact ⟨l', dn', f', _, _, _, _, _, rfl, by rw [HLX.out]; exact hown, hIe, hI.fs, hTe, fun x hx => (hF x hx).imp id (fun h => by omega)⟩
/-- A lexer in memory. -/
structure LexI (B : Nat) (w : World) (lx t p room mb : Nat) (D : PlD) (l : List (S2 × Nat)) (dn : Int) (f : S2) : Prop where
  lx' : LxB w lx p t
  tb : TblI B w t p room D dn 0 f 0 mb l
  fs : Firsts D dn f
  ti : TabIn w
  b1 : 1 ≤ B
/-- What Lex comes to. -/
def LexOut (B lx t p room mb : Nat) (D : PlD) (s : ByteArray) (l : List (S2 × Nat)) (w : World) (e : Ending) (w' : World) : Prop :=
  ∃ (l' : List (S2 × Nat)) (dn' : Int) (f' : S2) (v : Value), e = .returned v ∧ w'.ownsRow w.heap.size 30 3 v (lexN D s).length (tokCells (lexN D s)) ∧ LexI B w' lx t p room mb D l' dn' f' ∧ Turn (tbS t mb l) w w' ∧ Fresh l l' w
theorem LexI.ltx {B : Nat} {w : World} {lx t p room mb : Nat} {D : PlD} {l : List (S2 × Nat)} {dn : Int} {f : S2} (h : LexI B w lx t p room mb D l dn f) : lx < w.heap.size := (Array.getElem?_eq_some_iff.1 h.lx').1
/-- The lexer stands where only other blocks have turned. -/
theorem LexI.keep {B : Nat} {w w' : World} {lx t p room mb : Nat} {D : PlD} {l : List (S2 × Nat)} {dn : Int} {f : S2} (h : LexI B w lx t p room mb D l dn f) (k : ∀ j, j < w.heap.size → w'.heap[j]? = w.heap[j]?) (hB : Below B w w') : LexI B w' lx t p room mb D l dn f :=
  ⟨(k _ h.ltx).trans h.lx', h.tb.keep (fun j hj => k j (h.tb.ltS hj).2) hB, h.fs, h.ti.blocks (k 0 (by have := h.ltx; omega)), h.b1⟩

theorem Tryd.fld60 (w : World) (r : Option Addr) (ad : Option Addr) (n m : Nat) (a b c d : Int) : (Instr.field 60 (.agg #[.pointer r, .slice ad n m, .int .i64 a, .int .i64 b, .int .u64 c, .int .u64 d]) 1).run Tryd.prog w = .ok (.slice ad n m) w := by kernel_rfl

set_option maxRecDepth 100000 in
set_option maxHeartbeats 4000000 in
theorem lex_any (B : Nat) (lx t p room mb : Nat) (D : PlD) (hD : D.ok) (s : ByteArray) (hs : s.size ≤ 1048576) (l : List (S2 × Nat)) (dn : Int) (f : S2) (w : World) (hI : LexI B w lx t p room mb D l dn f) :
    Calls Tryd.prog 7 #[.pointer (some ⟨lx, 0, none⟩), .string s] w fun e w' => LexOut B lx t p room mb D s l w e w' := by
  have hBw : B ≤ w.heap.size := by have := hI.tb.gt; have := hI.tb.tb.lt; omega
  go_enter Tryd.func7, Tryd.ntmps7
  go_wp2_with fail
  refine (read_any lx s hs w).mono ?_
  rintro e w1 ⟨r, lb, rfl, hr, hlb, hne, hR1, hL1, hB1⟩
  have hI1 := hI.keep (fun j hj => hB1.block j hj) (hB1.mono hBw)
  have hP1 : PlanAt B w1 p D := hI1.tb.pl
  go_wp2_with fail
  refine (lead_any B hI.b1 D hD lx p t r lb s hs w1 hR1 hL1 hI1.lx' hP1 (by omega) hI1.ti).mono ?_
  rintro e w2 ⟨rfl, hL2, hT2⟩
  have hl1 := hL1.lt
  have ne : ∀ {k : Nat} {cs : Array Value} {Ty : TypeId} {fz : Nat × Nat}, w1.heap[k]? = some (.cells cs Ty fz) → Ty ≠ 58 → k ≠ lb := fun {k cs Ty fz} hk hTy e => by
    obtain ⟨cs', hc, -⟩ := hL1
    rw [e, hc] at hk
    injection hk with hk
    injection hk with _ hk _
    exact hTy hk.symm
  have hR2 : RdB w2 r lx s lb := (hT2.block r hR1.lt (ne hR1 (by decide))).trans hR1
  have hT2' : Turn (tbS t mb l) w w2 := (Turn.ofBelow hB1).next hT2 (fun j hj e => by omega)
  have hall : ∀ j, j < w.heap.size → w2.heap[j]? = w.heap[j]? := fun j hj => (hT2.block j (Nat.lt_of_lt_of_le hj hB1.size) (by omega)).trans (hB1.block j hj)
  have hI2 : LexI B w2 lx t p room mb D l dn f := hI.keep hall (hT2'.toBelow hBw (fun j hj e => by have := (hI.tb.ltS e).1; omega))
  go_wp2_with fail
  refine (cut_any B hI.b1 r lx lb t p room mb D hD s hs l dn f w2 hR2 hL2 hI2.lx' hI2.tb hI2.fs hI2.ti).mono ?_
  rintro e w3 ⟨l', dn', f', v, a, b, c, d, rfl, hown, htb, hfs, hT3, hF3⟩
  have hx2 : w2.heap[lx]? = _ := hI2.lx'
  have hI3 : LexI B w3 lx t p room mb D l' dn' f' := ⟨(hT3.block lx hI2.ltx (hI2.tb.sepT hx2 (by decide) (by decide))).trans hI2.lx', htb, hfs, hI2.ti.blocks (hT3.block 0 (by have := hI2.ltx; omega) (fun e => by have := (hI2.tb.ltS e).1; have := hI.b1; omega)), hI.b1⟩
  have hT3' : Turn (tbS t mb l) w w3 := hT2'.trans hT3
  have hF3' : Fresh l l' w := fun x hx => (hF3 x hx).imp id (fun h => Nat.le_trans hT2'.size h)
  have hown' := tok_base hown hT2'.size
  clear hown hT3 hF3 htb hfs
  obtain ⟨ad, cc, rfl⟩ := powns_shape hown'
  have hfd := Tryd.fld60 w3 (some ⟨r, 0, none⟩) ad (lexN D s).length cc a b c d
  go_wp2_with fail
  go_ret
  exact ⟨l', dn', f', _, rfl, hown', hI3, hT3', hF3'⟩
end Go.Proofs.YtjhmlcilabnlbaaDoor
/- The lexer: New: the pure side. -/
namespace Go.Proofs.YtjhmlcilabnlbaaDoor
open Go.RowKit Go.Shelf

theorem text_some (s : ByteArray) (F : Nat) : ∀ (g i : Nat) (acc l : List P.Rl) (j : Nat), P.text s F g i acc = .ok l j → l ≠ [] := by
  intro g
  induction g with
  | zero => intro i acc l j h; cases h
  | succ g ih =>
    intro i acc l j h
    unfold P.text at h
    cases hr : P.rule s F i with
    | out => rw [hr] at h; cases h
    | bad p => rw [hr] at h; cases h
    | ok r k =>
      rw [hr] at h
      simp only [P.PR.bind] at h
      split at h
      · cases h; simp
      · split at h
        · split at h
          · cases h; simp
          · exact ih _ _ _ _ h
        · cases h
theorem judge_none : ∀ (l done : List P.Rl) (size : Nat), P.judge done size l = none → (l ≠ [] → done.length + l.length ≤ 8 ∧ size + (l.map fun r => r.t.sz).sum ≤ 60) ∧ ∀ r, r ∈ l → r.t.em = false := by
  intro l
  induction l with
  | nil => intro done size _; exact ⟨fun h => absurd rfl h, fun r hr => by cases hr⟩
  | cons r rest ih =>
    intro done size h
    unfold P.judge at h
    split at h
    · cases h
    · rename_i h1
      split at h
      · cases h
      · split at h
        · cases h
        · rename_i h3
          obtain ⟨h4, h5⟩ := ih _ _ h
          refine ⟨fun _ => ?_, fun x hx => ?_⟩
          · by_cases hn : rest = []
            · subst hn
              simp
              omega
            · have := h4 hn
              simp at this ⊢
              omega
          · rcases List.mem_cons.1 hx with rfl | hx
            · simpa using h3
            · exact h5 x hx

mutual
theorem lay_len : ∀ (t : Tr) (D : PlD), (lay t D).1.nx.length = D.nx.length + t.lv
  | .leaf x0 x1 x2 x3, D => by unfold lay Tr.lv; exact PlD.leaf_len D x0 x1 x2 x3
  | .rep no ag t, D => by
    unfold lay Tr.lv
    have h := lay_len t D
    unfold repEnd rowStep
    cases ag
    · show ((lay t D).1.lnk _ _).nx.length = _
      rw [PlD.lnk_len]; exact h
    · show (((lay t D).1.lnk _ _).lnk _ _).nx.length = _
      rw [PlD.lnk_len, PlD.lnk_len]; exact h
  | .row l, D => by unfold lay Tr.lv; exact layRow_len l D pc1
  | .alt l, D => by unfold lay Tr.lv; exact layAlt_len l D pc0
theorem layRow_len : ∀ (l : List Tr) (D : PlD) (a : Pc), (layRow l D a).1.nx.length = D.nx.length + lvs l
  | [], D, a => by unfold layRow lvs; rfl
  | t :: ts, D, a => by
    unfold layRow lvs
    rw [layRow_len ts]
    show ((lay t D).1.lnk _ _).nx.length + _ = _
    rw [PlD.lnk_len, lay_len t D]; omega
theorem layAlt_len : ∀ (l : List Tr) (D : PlD) (a : Pc), (layAlt l D a).1.nx.length = D.nx.length + lvs l
  | [], D, a => by unfold layAlt lvs; rfl
  | t :: ts, D, a => by
    unfold layAlt lvs
    rw [layAlt_len ts, lay_len t D]; omega
end
theorem mkStep_len (i : Nat) (t : Tr) (D : PlD) : (mkStep i t D).nx.length = D.nx.length + t.lv := by
  unfold mkStep
  show (((lay t D).1.beg _).lnk _ _).nx.length = _
  rw [PlD.lnk_len]
  exact lay_len t D
theorem mkAll_len : ∀ (ts : List Tr) (i : Nat) (D : PlD), (mkAll i ts D).nx.length = D.nx.length + lvs ts
  | [], i, D => by unfold mkAll lvs; rfl
  | t :: ts, i, D => by
    unfold mkAll lvs
    rw [mkAll_len ts, mkStep_len]; omega

/-- A plan that was made, as the others ask for it. -/
theorem PlanIn.done {B B' : Nat} {w : World} {p : Nat} {vb vn : Value} {D : PlD} (h : PlanIn B w p vb vn D) (hb : 0 < D.bg.length) (hn : 0 < D.nx.length) (hw : w.heap.size ≤ B') : PlanAt B' w p D := by
  obtain ⟨g1, c1, cur1, hv1, -, hc1, hl1, -, -, ht1⟩ := h.ob.some hb
  obtain ⟨g2, c2, cur2, hv2, -, hc2, hl2, -, -, ht2⟩ := h.on.some hn
  have hg1 := (Array.getElem?_eq_some_iff.1 hc1).1
  have hg2 := (Array.getElem?_eq_some_iff.1 hc2).1
  have hp := h.lt
  have at' : ∀ (g : Nat) (cur : Array Value) (l : List S2), w.heap[g]? = some (.cells cur 58 (0, 0)) → cur.toList.take (l.length * 2) = setCells l → SetsAt w g l := fun g cur l hc ht i a ha => by
    have hi : i < l.length := (List.getElem?_eq_some_iff.1 ha).1
    exact ⟨(cell_of_take hc ht (by omega)).trans (setCells_get l i a ha).1, (cell_of_take hc ht (by omega)).trans (setCells_get l i a ha).2⟩
  refine ⟨by omega, ⟨g1, c1, by rw [h.cb, hv1], by omega, hl1, at' g1 cur1 _ hc1 ht1⟩, ⟨g2, c2, by rw [h.cn, hv2], by omega, hl2, at' g2 cur2 _ hc2 ht2⟩, fun b hb => h.cm hb, h.ce⟩
theorem PlD.whole.ok {D : PlD} {n : Nat} (h : D.whole n) (hn : n ≤ 64) (hx : D.nx.length ≤ 64) : D.ok :=
  ⟨h.good.fine.bg, h.good.fine.nx, h.good.fine.mt, h.good.fine.en, fun b k hb hk ht => h.good.fine.fit b hb k hk ht, hx, by rw [h.len]; exact hn⟩
/-- Trees for the rules that were read. -/
theorem trees_for {w : World} {S : Nat → Prop} : ∀ (xs : List (P.Rl × Nd)), (∀ x, x ∈ xs → PN w S x.2 x.1.t) → (∀ x, x ∈ xs → x.1.t.em = false) →
    ∃ ts : List Tr, xs.length = ts.length ∧ (∀ (i : Nat) (x : P.Rl × Nd) (t : Tr), xs[i]? = some x → ts[i]? = some t → PT w S x.2 t) ∧ lvs ts ≤ (xs.map fun x => x.1.t.sz).sum ∧ (xs ≠ [] → 1 ≤ lvs ts)
  | [], _, _ => ⟨[], rfl, fun i x t h => by simp at h, by unfold lvs; simp, fun h => absurd rfl h⟩
  | x :: xs, h, he => by
    obtain ⟨ts, h1, h2, h3, -⟩ := trees_for xs (fun y hy => h y (List.mem_cons_of_mem _ hy)) (fun y hy => he y (List.mem_cons_of_mem _ hy))
    obtain ⟨tr, k1, k2, -, k4⟩ := (h x List.mem_cons_self).tree
    have hle := k4 (he x List.mem_cons_self)
    have e1 : lvs (tr :: ts) = tr.lv + lvs ts := by conv => lhs; unfold lvs
    refine ⟨tr :: ts, by simp [h1], fun i y t hy ht => ?_, ?_, fun _ => by rw [e1]; omega⟩
    · cases i with
      | zero => simp at hy ht; subst hy; subst ht; exact k1
      | succ i => exact h2 i y t (by simpa using hy) (by simpa using ht)
    · rw [e1]
      simp only [List.map_cons, List.sum_cons]
      omega
end Go.Proofs.YtjhmlcilabnlbaaDoor
/- The lexer: New, for rules that Check lets pass. -/
namespace Go.Proofs.YtjhmlcilabnlbaaDoor
open Go.RowKit Go.Shelf

attribute [local go_sem] Oper.semAt_some

theorem judge_some : ∀ (l done : List P.Rl) (size : Nat) (x : Int × Nat), P.judge done size l = some x → x.1 ≠ 0 := by
  intro l
  induction l with
  | nil => intro done size x h; cases h
  | cons r rest ih =>
    intro done size x h
    unfold P.judge at h
    split at h
    · cases h; simp
    · split at h
      · cases h; simp
      · split at h
        · cases h; simp
        · exact ih _ _ _ h
/-- What a text that Check lets pass reads as. -/
theorem check_ok {s : ByteArray} (h : (P.check s).2.1 = 0) (hno : readP s ≠ .out) : ∃ l j, readP s = .ok l j ∧ (P.check s).1 = l.length ∧ l ≠ [] ∧ l.length ≤ 8 ∧ (l.map fun r => r.t.sz).sum ≤ 60 ∧ (∀ r, r ∈ l → r.t.em = false) ∧ (P.check s).2.2 = 0 := by
  rw [check_read] at h ⊢
  cases hr : readP s with
  | out => exact absurd hr hno
  | bad p => rw [hr] at h; exact absurd h (by show ¬ (1 : Int) = 0; decide)
  | ok l j =>
    rw [hr] at h
    have hv : P.outcome (.ok l j) = P.verdict l := rfl
    rw [hv] at h ⊢
    unfold P.verdict at h ⊢
    cases hj : P.judge [] 0 l with
    | some x => rw [hj] at h; exact absurd h (judge_some l [] 0 x hj)
    | none =>
      have hne : l ≠ [] := by
        unfold readP at hr
        split at hr
        · cases hr
        · exact text_some s 3210 401 0 [] l j hr
      obtain ⟨h1, h2⟩ := judge_none l [] 0 hj
      have h3 := h1 hne
      simp only [List.length_nil, Nat.zero_add] at h3
      exact ⟨l, j, rfl, rfl, hne, h3.1, h3.2, h2, rfl⟩

/-- What New comes to. -/
def NewOut (s : ByteArray) (room : Nat) (w : World) (e : Ending) (w' : World) : Prop :=
  ∃ lx t p mb B D, e = .returned (.tuple #[.pointer (some ⟨lx, 0, none⟩), .int .i64 0, .int .i64 0]) ∧ LexI B w' lx t p room mb D [] 0 (0, 0) ∧ D.ok ∧ D.whole (P.check s).1 ∧ (P.check s).1 ≤ 8 ∧ 1 ≤ (P.check s).1 ∧ w.heap.size ≤ B ∧ w.heap.size ≤ lx ∧ Below w.heap.size w w'

set_option maxRecDepth 100000 in
set_option maxHeartbeats 4000000 in
theorem new_any (s : ByteArray) (room : Nat) (h2 : 2 ≤ room) (hm : room ≤ 1000) (hck : (P.check s).2.1 = 0) (w : World) (h1 : 1 ≤ w.heap.size) (hT : TabIn w) :
    Calls Tryd.prog 9 #[.string s, .int .i64 (room : Int)] w fun e w' => NewOut s room w e w' := by
  have hno : readP s ≠ .out := by
    unfold readP
    split
    · intro e; cases e
    · exact P.text_enough s (by omega) 401 0 [] (by omega)
  obtain ⟨l, j, hrd, hn, hne, h8, h60, hem, h0⟩ := check_ok hck hno
  have hC : Calls Tryd.prog 6 #[.string s] w fun e w' => e = .returned (.tuple #[.int .i64 (l.length : Int), .int .i64 0, .int .i64 0]) ∧ Below w.heap.size w w' := (pcheck_any s w).mono (fun e w' h => ⟨by have h3 := h.1; unfold CheckOut at h3; rw [h3, hn, hck, h0]; rfl, h.2⟩)
  have hr2 : decide ((room : Int) < 2) = false := by simp; omega
  have hr3 : decide ((1000 : Int) < (room : Int)) = false := by simp; omega
  have hr4 : decide ((room : Int) > 1000) = false := by simp; omega
  unfold NewOut
  rw [hn]
  have HNE := hid hne
  have HEM := hid hem
  have HRD := hid hrd
  have H60 := hid h60
  clear hno hne hem hrd hn h0 hck h60
  go_enter Tryd.func9, Tryd.ntmps9
  go_wp2_with fail
  refine hC.mono ?_
  rintro e w1 ⟨rfl, hB1⟩
  clear hC
  have hs1 := hB1.size
  go_wp2_with fail
  refine (pread_any s w1).mono ?_
  rintro e w2 ⟨hB2, hF⟩
  rw [HRD.out] at hF
  obtain ⟨v, xs, rfl, hl, hlen, hown, hN⟩ := hF
  have hs2 := hB2.size
  have hxl : xs.length = l.length := by rw [← hl]; simp
  have hx0 : 0 < xs.length := by
    rw [hxl]
    exact List.length_pos_iff.2 HNE.out
  obtain ⟨g, cap, hv, hcap, hrl⟩ : ∃ g cap, v = .slice (some ⟨g, 0, none⟩) xs.length cap ∧ xs.length ≤ cap ∧ RlIn w2 g xs := by
    rcases hown.2 with ⟨_, h0⟩ | ⟨g, cap, cur, hv, hge, hh, hc, -, -, ht⟩
    · omega
    · exact ⟨g, cap, hv, hc, cur, _, hh, ht⟩
  subst hv
  obtain ⟨ts, hts, hPT, hlv, hlv1⟩ := trees_for xs (fun x hx => (hN x hx).1) (fun x hx => HEM.out x.1 (by rw [← hl]; exact List.mem_map_of_mem hx))
  have hlv60 : lvs ts ≤ 64 := by
    have e : (xs.map fun x => x.1.t.sz) = (l.map fun r => r.t.sz) := by rw [← hl, List.map_map]; rfl
    have := H60.out
    rw [e] at hlv
    omega
  have hlv0 : 1 ≤ lvs ts := hlv1 (by intro e; rw [e] at hx0; exact absurd hx0 (by decide))
  have HPT := hid hPT
  have HTS := hid hts
  have HV := hid hlv60
  clear hown hN hPT hts hlv hlv1 hcap hlv60
  have hT2 : TabIn w2 := (hT.below hB1 (by omega)).below hB2 (by omega)
  have hx8 : xs.length ≤ 8 := by omega
  have h12 : 1 ≤ w2.heap.size := by omega
  have hl1 : 1 ≤ l.length := by omega
  have HXL := hid hxl
  clear hxl
  have hPT2 : ∀ (i : Nat) (x : P.Rl × Nd) (t : Tr), xs[i]? = some x → ts[i]? = some t → PT w2 (fun k => w2.heap.size ≤ k) x.2 t := fun i x t hx ht => (HPT.out i x t hx ht).bars (fun k hk hk2 => absurd hk (Nat.not_lt.2 hk2))
  have hM := make_any xs ts HTS.out hx8 g cap w2 h12 hrl hPT2 HV.out hT2
  clear hPT2 HPT
  generalize hDD : mkAll 0 ts PlD.none = D at hM
  have HDD := hid hDD
  clear hDD
  have HTS2 := HTS
  clear HTS
  go_wp2_with fail
  refine hM.mono ?_
  rintro e w3 ⟨p, vb, vn, rfl, hP, hW, hx64, hB3⟩
  have hnl : 0 < D.nx.length := by rw [← HDD.out, mkAll_len]; omega
  have hbl : 0 < D.bg.length := by rw [hW.len]; exact hx0
  have hs3 := hB3.size
  have HP := hid (hP.done hbl hnl (Nat.le_refl _))
  have HOK := hid (hW.ok (by omega) hx64)
  have HW : Hid (D.whole l.length) := by unfold Hid; rw [← HXL.out]; exact hW
  clear hP hW hx64 hnl hbl HDD hM
  go_wp2_with fail
  refine (newtable_any p room w3).mono ?_
  rintro e w4 ⟨t, mb, rfl, ht, hmb, htm, hTB, hMp, hB4⟩
  have hs4 := hB4.size
  have HB5 : Hid (Below w4.heap.size w4 (w4.alloc (.cells #[.pointer (some ⟨p, 0, none⟩), .pointer (some ⟨t, 0, none⟩)] 67))) := (Below.refl _ _).alloc (Nat.le_refl _) _
  have HLX : Hid (LxB (w4.alloc (.cells #[.pointer (some ⟨p, 0, none⟩), .pointer (some ⟨t, 0, none⟩)] 67)) w4.heap.size p t) := heap_alloc_at _ _
  have htl : t < w4.heap.size := hTB.lt
  have hml : mb < w4.heap.size := hMp.lt
  have HTB := hid hTB
  have HMP := hid hMp
  clear hTB hMp
  go_wp2_with fail
  go_ret3
  have k5 := HB5.out
  refine ⟨w4.heap.size, t, p, mb, w3.heap.size, D, rfl, ⟨HLX.out, ⟨(k5.block t htl).trans HTB.out, HMP.out.keep (k5.block mb hml), fun x hx => (by cases hx), ht, hmb, fun x hx => (by cases hx), htm, fun x hx => (by cases hx), List.Pairwise.nil, Nat.zero_le _, (HP.out.below hB4).below (k5.mono hs4)⟩, Or.inl rfl, ?_, by omega⟩, HOK.out, HW.out, by omega, by omega, by omega, by omega, ?_⟩
  · exact ((hT2.below hB3 (by omega)).below hB4 (by omega)).below k5 (by omega)
  · exact (((hB1.trans (hB2.mono hs1)).trans (hB3.mono (by omega))).trans (hB4.mono (by omega))).trans (k5.mono (by omega))
end Go.Proofs.YtjhmlcilabnlbaaDoor
/- The keeper's lexer. -/
namespace Go.Proofs.YtjhmlcilabnlbaaDoor
open Go.RowKit Go.Shelf

attribute [local go_sem] Oper.semAt_some

def plainSrc : ByteArray := { data := #[97, 61, 97, 98, 10, 98, 61, 97, 98, 99, 100] }
theorem plain_check : P.check plainSrc = (2, 0, 0) := by kernel_rfl

theorem pick_any (c : Int) (h0 : -9223372036854775808 ≤ c) (h1 : c < 9223372036854775808) (w : World) :
    Calls Tryd.prog 10 #[.int .i64 c, .int .i64 999] w fun e w' => (∃ k : Nat, k < 999 ∧ e = .returned (.int .i64 (k : Int))) ∧ Below w.heap.size w w' := by
  have fin : ∀ x : Int, 0 ≤ x → ∃ k : Nat, k < 999 ∧ x.tmod 999 = (k : Int) := fun x hx => ⟨(x.tmod 999).toNat, by rw [Int.tmod_eq_emod_of_nonneg hx]; omega, by rw [Int.tmod_eq_emod_of_nonneg hx]; omega⟩
  by_cases hc : c < 0
  · have a1 : IntKind.i64.wrap (c + 1) = c + 1 := by rw [IntKind.wrap_i64]; omega
    have a2 : IntKind.i64.wrap (-(c + 1)) = -(c + 1) := by rw [IntKind.wrap_i64]; omega
    obtain ⟨k, hk, hk2⟩ := fin (-(c + 1)) (by omega)
    have a3 : IntKind.i64.wrap (k : Int) = (k : Int) := by rw [IntKind.wrap_i64]; omega
    have HK := hid hk
    clear fin hk
    go_enter Tryd.func10, Tryd.ntmps10
    go_wp2_with fail
    go_ret
    exact ⟨⟨k, HK.out, rfl⟩, Below.refl _ _⟩
  · obtain ⟨k, hk, hk2⟩ := fin c (by omega)
    have a3 : IntKind.i64.wrap (k : Int) = (k : Int) := by rw [IntKind.wrap_i64]; omega
    have HK := hid hk
    clear fin hk
    go_enter Tryd.func10, Tryd.ntmps10
    go_wp2_with fail
    go_ret
    exact ⟨⟨k, HK.out, rfl⟩, Below.refl _ _⟩

/-- How many rules the keeper's lexer has. -/
def ruleCount (s : ByteArray) : Nat := if (P.check s).1 = 0 then 2 else (P.check s).1
theorem check_bad {s : ByteArray} (h : (P.check s).2.1 ≠ 0) : (P.check s).1 = 0 := by
  rw [check_read] at h ⊢
  cases hr : readP s with
  | out => rfl
  | bad p => rfl
  | ok l j =>
    rw [hr] at h
    have hv : P.outcome (.ok l j) = P.verdict l := rfl
    rw [hv] at h ⊢
    unfold P.verdict at h ⊢
    cases hj : P.judge [] 0 l with
    | some x => rfl
    | none => rw [hj] at h; exact absurd rfl h

theorem check_pos {s : ByteArray} (h : (P.check s).2.1 = 0) : (P.check s).1 ≠ 0 := by
  have hno : readP s ≠ .out := by
    unfold readP
    split
    · intro e; cases e
    · exact P.text_enough s (by omega) 401 0 [] (by omega)
  obtain ⟨l, -, -, hn, hne, -⟩ := check_ok h hno
  rw [hn]
  intro e
  exact hne (List.length_eq_zero_iff.1 e)

/-- What it comes to. -/
def KeptOut (s : ByteArray) (w : World) (e : Ending) (w' : World) : Prop :=
  ∃ lx t p mb B D room, e = .returned (.pointer (some ⟨lx, 0, none⟩)) ∧ LexI B w' lx t p room mb D [] 0 (0, 0) ∧ D.ok ∧ D.whole (ruleCount s) ∧ ruleCount s ≤ 8 ∧ w.heap.size ≤ B ∧ w.heap.size ≤ lx ∧ Below w.heap.size w w'

set_option maxRecDepth 100000 in
set_option maxHeartbeats 4000000 in
theorem lexerOf_any (s : ByteArray) (c : Int) (h0 : -9223372036854775808 ≤ c) (h1 : c < 9223372036854775808) (w : World) (hw : 1 ≤ w.heap.size) (hT : TabIn w) :
    Calls Tryd.prog 5 #[.string s, .int .i64 c] w fun e w' => KeptOut s w e w' := by
  have hC0 : Calls Tryd.prog 6 #[.string { data := #[97, 61, 97, 98, 10, 98, 61, 97, 98, 99, 100] }] w fun e w' => e = .returned (.tuple #[.int .i64 2, .int .i64 0, .int .i64 0]) ∧ Below w.heap.size w w' := (pcheck_any plainSrc w).mono (fun e w' h => ⟨by have h3 := h.1; unfold CheckOut at h3; rw [h3, plain_check]; rfl, h.2⟩)
  have hP := pick_any c h0 h1
  by_cases hck : (P.check s).2.1 = 0
  · have hn1 : (P.check s).1 ≠ 0 := check_pos hck
    have hC1 : ∀ w1, Calls Tryd.prog 6 #[.string s] w1 fun e w' => (∃ n z : Int, e = .returned (.tuple #[.int .i64 n, .int .i64 0, .int .i64 z])) ∧ Below w1.heap.size w1 w' := fun w1 => (pcheck_any s w1).mono (fun e w' h => ⟨⟨_, _, by have h3 := h.1; unfold CheckOut at h3; rw [hck] at h3; exact h3⟩, h.2⟩)
    have hrc : ruleCount s = (P.check s).1 := by unfold ruleCount; rw [if_neg hn1]
    have HRC := hid hrc
    have HCK := hid hck
    clear hrc hck hn1
    go_enter Tryd.func5, Tryd.ntmps5
    go_wp2_with fail
    refine hC0.mono ?_
    rintro e w1 ⟨rfl, hB1⟩
    have hs1 := hB1.size
    go_wp2_with fail
    refine (hC1 w1).mono ?_
    rintro e w2 ⟨⟨n, z, rfl⟩, hB2⟩
    have hs2 := hB2.size
    go_wp2_with fail
    refine (hP w2).mono ?_
    rintro e w3 ⟨⟨k, hk, rfl⟩, hB3⟩
    have hs3 := hB3.size
    obtain ⟨room, hroom, hr2, hr3⟩ : ∃ room : Nat, IntKind.i64.wrap (2 + (k : Int)) = (room : Int) ∧ 2 ≤ room ∧ room ≤ 1000 := ⟨2 + k, by rw [IntKind.wrap_i64]; omega, by omega, by omega⟩
    have hT3 : TabIn w3 := ((hT.below hB1 (by omega)).below hB2 (by omega)).below hB3 (by omega)
    have hN := new_any s room hr2 hr3 HCK.out w3 (by omega) hT3
    clear hC0 hC1 hP
    go_wp2_with fail
    refine hN.mono ?_
    rintro e w4 ⟨lx, t, p, mb, B, D, rfl, hL, hok, hwh, h8, -, hBB, hlx, hB4⟩
    have HL := hid hL
    have HO := hid hok
    have HW : Hid (D.whole (ruleCount s)) := by unfold Hid; rw [HRC.out]; exact hwh
    have H8 : Hid (ruleCount s ≤ 8) := by unfold Hid; rw [HRC.out]; exact h8
    clear hL hok hwh h8 hN
    go_wp2_with fail
    go_ret
    exact ⟨lx, t, p, mb, B, D, room, rfl, HL.out, HO.out, HW.out, H8.out, by omega, by omega, ((hB1.trans (hB2.mono hs1)).trans (hB3.mono (by omega))).trans (hB4.mono (by omega))⟩
  · obtain ⟨x, hxe⟩ : ∃ x, (P.check s).2.1 = x := ⟨_, rfl⟩
    have hx0 : (x == 0) = false := by rw [← hxe]; exact beq_false_of_ne hck
    have hC1 : ∀ w1, Calls Tryd.prog 6 #[.string s] w1 fun e w' => (∃ n z : Int, e = .returned (.tuple #[.int .i64 n, .int .i64 x, .int .i64 z])) ∧ Below w1.heap.size w1 w' := fun w1 => (pcheck_any s w1).mono (fun e w' h => ⟨⟨_, _, by have h3 := h.1; unfold CheckOut at h3; rw [hxe] at h3; exact h3⟩, h.2⟩)
    have hrc : ruleCount s = (P.check plainSrc).1 := by unfold ruleCount; rw [if_pos (check_bad hck), plain_check]
    have HRC := hid hrc
    have HCK := hid hck
    clear hrc hck hxe
    go_enter Tryd.func5, Tryd.ntmps5
    go_wp2_with fail
    refine hC0.mono ?_
    rintro e w1 ⟨rfl, hB1⟩
    have hs1 := hB1.size
    go_wp2_with fail
    refine (hC1 w1).mono ?_
    rintro e w2 ⟨⟨n, z, rfl⟩, hB2⟩
    have hs2 := hB2.size
    go_wp2_with fail
    refine (hP w2).mono ?_
    rintro e w3 ⟨⟨k, hk, rfl⟩, hB3⟩
    have hs3 := hB3.size
    obtain ⟨room, hroom, hr2, hr3⟩ : ∃ room : Nat, IntKind.i64.wrap (2 + (k : Int)) = (room : Int) ∧ 2 ≤ room ∧ room ≤ 1000 := ⟨2 + k, by rw [IntKind.wrap_i64]; omega, by omega, by omega⟩
    have hT3 : TabIn w3 := ((hT.below hB1 (by omega)).below hB2 (by omega)).below hB3 (by omega)
    have hN := new_any plainSrc room hr2 hr3 (by rw [plain_check]) w3 (by omega) hT3
    clear hC0 hC1 hP
    go_wp2_with fail
    refine hN.mono ?_
    rintro e w4 ⟨lx, t, p, mb, B, D, rfl, hL, hok, hwh, h8, -, hBB, hlx, hB4⟩
    have HL := hid hL
    have HO := hid hok
    have HW : Hid (D.whole (ruleCount s)) := by unfold Hid; rw [HRC.out]; exact hwh
    have H8 : Hid (ruleCount s ≤ 8) := by unfold Hid; rw [HRC.out]; exact h8
    clear hL hok hwh h8 hN
    go_wp2_with fail
    go_ret
    exact ⟨lx, t, p, mb, B, D, room, rfl, HL.out, HO.out, HW.out, H8.out, by omega, by omega, ((hB1.trans (hB2.mono hs1)).trans (hB3.mono (by omega))).trans (hB4.mono (by omega))⟩
end Go.Proofs.YtjhmlcilabnlbaaDoor
/- Tiles: the tokens in memory; Lex, again and again. -/
namespace Go.Proofs.YtjhmlcilabnlbaaDoor
open Go.RowKit Go.Shelf

attribute [local go_sem] Oper.semAt_some

theorem tokCells_cons (a : Tok) (l : List Tok) : tokCells (a :: l) = .int .i64 a.rl :: .int .i64 (a.fr : Int) :: .int .i64 (a.tt : Int) :: tokCells l := by simp [tokCells]
theorem tokCells_get : ∀ (l : List Tok) (i : Nat) (x : Tok), l[i]? = some x → (tokCells l)[i * 3]? = some (.int .i64 x.rl) ∧ (tokCells l)[i * 3 + 1]? = some (.int .i64 (x.fr : Int)) ∧ (tokCells l)[i * 3 + 2]? = some (.int .i64 (x.tt : Int))
  | [], i, x, h => by simp at h
  | a :: l, 0, x, h => by
    simp at h
    subst h
    rw [tokCells_cons]
    exact ⟨rfl, rfl, rfl⟩
  | a :: l, i + 1, x, h => by
    have := tokCells_get l i x (by simpa using h)
    rw [tokCells_cons, show (i + 1) * 3 = i * 3 + 3 by omega, show i * 3 + 3 + 1 = i * 3 + 1 + 3 by omega, show i * 3 + 3 + 2 = i * 3 + 2 + 3 by omega]
    exact this
/-- Tokens in a block. -/
def TokAt (w : World) (g : Nat) (T : List Tok) : Prop := ∃ cur, w.heap[g]? = some (.cells cur 30 (0, 0)) ∧ cur.toList.take (T.length * 3) = tokCells T
theorem TokAt.lt {w : World} {g : Nat} {T : List Tok} (h : TokAt w g T) : g < w.heap.size := by
  obtain ⟨cur, hc, -⟩ := h
  exact (Array.getElem?_eq_some_iff.1 hc).1
theorem TokAt.keep {w w' : World} {g : Nat} {T : List Tok} (h : TokAt w g T) (k : w'.heap[g]? = w.heap[g]?) : TokAt w' g T := by
  obtain ⟨cur, hc, h2⟩ := h
  exact ⟨cur, k.trans hc, h2⟩
theorem TokAt.cells {w : World} {g : Nat} {T : List Tok} (h : TokAt w g T) {i : Nat} {x : Tok} (hx : T[i]? = some x) : w.cell? ⟨g, i * 3, none⟩ = some (.int .i64 x.rl) ∧ w.cell? ⟨g, i * 3 + 1, none⟩ = some (.int .i64 (x.fr : Int)) ∧ w.cell? ⟨g, i * 3 + 2, none⟩ = some (.int .i64 (x.tt : Int)) := by
  obtain ⟨cur, hc, ht⟩ := h
  have hi : i < T.length := (List.getElem?_eq_some_iff.1 hx).1
  obtain ⟨h0, h1, h2⟩ := tokCells_get T i x hx
  exact ⟨(cell_of_take hc ht (by omega)).trans h0, (cell_of_take hc ht (by omega)).trans h1, (cell_of_take hc ht (by omega)).trans h2⟩
theorem tok_at {w : World} {K : Nat} {v : Value} {T : List Tok} (h : w.ownsRow K 30 3 v T.length (tokCells T)) : ∃ ad cap, v = .slice ad T.length cap ∧ (0 < T.length → ∃ g, ad = some ⟨g, 0, none⟩ ∧ TokAt w g T ∧ T.length ≤ cap) := by
  rcases h.2 with ⟨hv, h0⟩ | ⟨g, cap, cur, hv, hge, hh, hc, -, -, ht⟩
  · exact ⟨none, 0, by rw [hv, h0], fun h => by omega⟩
  · exact ⟨some ⟨g, 0, none⟩, cap, hv, fun _ => ⟨g, rfl, ⟨cur, hh, ht⟩, hc⟩⟩

/-- The lexer stands, and nothing that was there at first has turned. -/
def Kp (B : Nat) (w0 : World) (lx t p room mb : Nat) (D : PlD) (W : World) : Prop := (∃ l dn f, LexI B W lx t p room mb D l dn f) ∧ Below w0.heap.size w0 W
theorem Kp.alloc {B : Nat} {w0 : World} {lx t p room mb : Nat} {D : PlD} {W W' : World} (h : Kp B w0 lx t p room mb D W) (k : Below W.heap.size W W') : Kp B w0 lx t p room mb D W' := by
  obtain ⟨⟨l, dn, f, hI⟩, hB⟩ := h
  have hg : B ≤ W.heap.size := by have := hI.tb.gt; have := hI.tb.tb.lt; omega
  exact ⟨⟨l, dn, f, hI.keep k.block (k.mono hg)⟩, hB.trans (k.mono hB.size)⟩
theorem lex_kept (B : Nat) (w0 : World) (lx t p room mb : Nat) (D : PlD) (hD : D.ok) (h0B : w0.heap.size ≤ B) (s : ByteArray) (hs : s.size ≤ 1048576) (W : World) (h : Kp B w0 lx t p room mb D W) :
    Calls Tryd.prog 7 #[.pointer (some ⟨lx, 0, none⟩), .string s] W fun e W' => ∃ ad cap, e = .returned (.slice ad (lexN D s).length cap) ∧ (0 < (lexN D s).length → ∃ g, ad = some ⟨g, 0, none⟩ ∧ TokAt W' g (lexN D s) ∧ (lexN D s).length ≤ cap) ∧ Kp B w0 lx t p room mb D W' ∧ ∀ g T, TokAt W g T → TokAt W' g T := by
  obtain ⟨⟨l, dn, f, hI⟩, hB⟩ := h
  refine (lex_any B lx t p room mb D hD s hs l dn f W hI).mono ?_
  rintro e W' ⟨l', dn', f', v, rfl, hown, hI', hT, -⟩
  obtain ⟨ad, cap, rfl, hg⟩ := tok_at hown
  have hBw : w0.heap.size ≤ W.heap.size := hB.size
  refine ⟨ad, cap, rfl, hg, ⟨⟨l', dn', f', hI'⟩, hB.trans (hT.toBelow hBw (fun j hj e => ?_))⟩, fun g T hg => hg.keep ?_⟩
  · have := (hI.tb.ltS e).1
    omega
  · obtain ⟨cur, hc, -⟩ := hg
    exact hT.block g (Array.getElem?_eq_some_iff.1 hc).1 (hI.tb.sepT hc (by decide) (by decide))
end Go.Proofs.YtjhmlcilabnlbaaDoor
/- Tiles: the walk. -/
namespace Go.Proofs.YtjhmlcilabnlbaaDoor
open Go.RowKit Go.Shelf

attribute [local go_sem] Oper.semAt_some

theorem lexN_len (D : PlD) (s : ByteArray) : (lexN D s).length ≤ s.size := by
  exact iterR_len D s s.size

theorem Tiled.mem : ∀ {l : List Tok} {a b : Nat}, Tiled a l b → ∀ y, y ∈ l → y.fr < y.tt
  | [], _, _, _, y, hy => by cases hy
  | z :: l, a, b, h, y, hy => by
    obtain ⟨h1, h2, -, h4⟩ := h
    rcases List.mem_cons.1 hy with rfl | hy
    · omega
    · exact Tiled.mem h4 y hy

set_option maxRecDepth 100000 in
set_option maxHeartbeats 8000000 in
theorem tiles_any (s : ByteArray) (c : Int) (h0 : -9223372036854775808 ≤ c) (h1 : c < 9223372036854775808) (x : ByteArray) (hx : x.size ≤ 1048576) (w : World) (hw : 1 ≤ w.heap.size) (hT : TabIn w) :
    Calls Tryd.prog 3 #[.string s, .int .i64 c, .string x] w fun e w' => e = .returned (.bool true) ∧ Below w.heap.size w w' := by
  have mixed : Tryd.prog.follows .mixedOrders = true := by kernel_rfl
  have hC1 : ∀ w1, Calls Tryd.prog 6 #[.string s] w1 fun e w' => (∃ y z : Int, e = .returned (.tuple #[.int .i64 ((P.check s).1 : Int), .int .i64 y, .int .i64 z])) ∧ Below w1.heap.size w1 w' := fun w1 => (pcheck_any s w1).mono (fun e w' h => ⟨⟨_, _, h.1⟩, h.2⟩)
  obtain ⟨n0, hn0⟩ : ∃ n0, (P.check s).1 = n0 := ⟨_, rfl⟩
  rw [hn0] at hC1
  have HRC : Hid (ruleCount s = if n0 = 0 then 2 else n0) := by unfold Hid ruleCount; rw [hn0]
  clear hn0
  have hL := lexerOf_any s c h0 h1 w hw hT
  go_enter Tryd.func3, Tryd.ntmps3
  go_wp2_with fail
  refine hL.mono ?_
  rintro e w1 ⟨lx, t, p, mb, B, D, room, rfl, hI, hok, hwh, h8, hBB, hlx, hB1⟩
  have HK : Hid (Kp B w lx t p room mb D w1) := ⟨⟨_, _, _, hI⟩, hB1⟩
  have HOK := hid hok
  have HWH := hid hwh
  have H8 := hid h8
  clear hL hI hok hwh h8
  go_wp2_with fail
  refine (hC1 w1).mono ?_
  rintro e w2 ⟨⟨y, z, rfl⟩, hB2⟩
  have HK2 := hid (HK.out.alloc hB2)
  clear hC1 HK
  go_upto_if 27 with fail
  go_cut [8] from 17 to 27 (fun nv wx => nv = .int .i64 (ruleCount s : Int) ∧ wx = w2)
  case first =>
    by_cases hz : n0 = 0
    · have hz' : ((n0 : Int) == 0) = true := by simp [hz]
      go_wp2_with fail
      go_meet
      exact ⟨by rw [HRC.out, if_pos hz]; rfl, rfl⟩
    · have hz' : ((n0 : Int) == 0) = false := by simp [hz]
      go_wp2_with fail
      go_meet
      exact ⟨by rw [HRC.out, if_neg hz], rfl⟩
  case rest =>
    obtain ⟨rfl, rfl⟩ := hcut
    clear HRC
    generalize ruleCount s = nr at *
    go_wp2_with fail
    refine (lex_kept B w lx t p room mb D HOK.out hBB x hx _ HK2.out).mono ?_
    rintro e w3 ⟨ad, cap, rfl, hg, hK3, -⟩
    have HTL := hid (lexN_tiled (D := D) x HWH.out.e1)
    have HRO := hid (lexN_rules HWH.out.good.ne (Nat.le_trans H8.out (by decide)) x)
    have HRE := hid (lexN_rest D x)
    have hlen : (lexN D x).length ≤ x.size := lexN_len D x
    have HLT : Hid (∀ y, y ∈ lexN D x → y.fr < y.tt) := (lexN_tiled (D := D) x HWH.out.e1).mem
    have HK3 := hid hK3
    clear hK3 HK2
    generalize lexN D x = T at *
    by_cases hT0 : 0 < T.length
    · obtain ⟨g, rfl, hta, hcap⟩ := hg hT0
      have HTA := hid hta
      clear hg hta
      go_wp2_with fail
      go_loopg [12, 13] T.length (fun gk av ix wr => ∃ i a : Nat, i + gk = T.length ∧ av = .int .i64 (a : Int) ∧ ix = .int .i64 (i : Int) ∧ Hid (Tiled a (T.drop i) x.size) ∧ Hid (Kp B w lx t p room mb D wr) ∧ Hid (TokAt wr g T))
      case atStart => exact ⟨0, 0, by omega, rfl, rfl, HTL.out, HK3.out, HTA.out⟩
      case round =>
        obtain ⟨i, a, hi, rfl, rfl, hTi, hKi, hAi⟩ := hrel
        clear HTA HK3
        by_cases hlt : i < T.length
        · obtain ⟨tk, htk⟩ : ∃ tk, T[i]? = some tk := ⟨T[i], List.getElem?_eq_getElem hlt⟩
          have hdr : T.drop i = tk :: T.drop (i + 1) := by
            rw [List.drop_eq_getElem_cons hlt]
            congr 1
            rw [List.getElem?_eq_getElem hlt] at htk
            exact Option.some.inj htk
          have hti := hTi.out
          rw [hdr] at hti
          obtain ⟨e1, e2, e3, e4⟩ := hti
          have HT2 := hid e4
          obtain ⟨c0, c1, c2⟩ := hAi.out.cells htk
          rw [e1] at c1
          obtain ⟨r1, r2⟩ := HRO.out tk (List.mem_of_getElem? htk)
          obtain ⟨hle, hsp⟩ := HRE.out i tk htk
          have HSP := hid hsp
          clear hTi hdr e4 hsp e1
          have hltI : (i : Int) < (T.length : Int) := by omega
          have b1 : decide ((tk.tt : Int) ≤ (a : Int)) = false := by simp; omega
          have b2 : decide ((x.size : Int) < (tk.tt : Int)) = false := by simp; omega
          have b3 : decide (tk.rl < -1) = false := by simp; omega
          have b4 : decide ((nr : Int) ≤ tk.rl) = false := by simp; omega
          have hexs : (x.extract tk.tt x.size).size ≤ 1048576 := by rw [ByteArray.size_extract]; omega
          have hLX := lex_kept B w lx t p room mb D HOK.out hBB (x.extract tk.tt x.size) hexs wr hKi.out
          have hRl : (lexN D (x.extract tk.tt x.size)).length = T.length - (i + 1) := by
            have h := congrArg List.length HSP.out
            rw [List.length_append, List.length_take, List.length_map] at h
            omega
          have HSH : Hid (∀ k r, (lexN D (x.extract tk.tt x.size))[k]? = some r → T[i + 1 + k]? = some (Tok.sh tk.tt r)) := fun k r h => by
            rw [HSP.out, List.getElem?_append_right (by rw [List.length_take]; omega), List.length_take, show i + 1 + k - min (i + 1) T.length = k by omega, List.getElem?_map, h]
            rfl
          clear HSP hexs
          generalize lexN D (x.extract tk.tt x.size) = R at *
          have HAi := hAi
          have a1 : IntKind.i64.wrap ((T.length : Int) - (i : Int)) = (T.length : Int) - (i : Int) := by rw [IntKind.wrap_i64]; omega
          have a2 : IntKind.i64.wrap ((T.length : Int) - (i : Int) - 1) = (R.length : Int) := by rw [IntKind.wrap_i64]; omega
          have hb : decide (tk.rl < 0) = false ∨ (decide (tk.rl < 0) = true ∧ IntKind.i64.wrap ((a : Int) + 1) = (tk.tt : Int)) := by
            by_cases hneg : tk.rl < 0
            · exact Or.inr ⟨by simp [hneg], by have := e3 hneg; rw [IntKind.wrap_i64]; omega⟩
            · exact Or.inl (by simp; omega)
          have hRp : 0 < R.length → i + 1 < T.length := by omega
          have HRL := hid hRl
          obtain ⟨go, hgo⟩ : ∃ go, go = gk := ⟨_, rfl⟩
          clear e3 htk hRl
          rw [← hgo] at hi
          rcases hb with b5 | ⟨b5, b6⟩
          all_goals
            go_wp2_with fail
            refine hLX.mono ?_
            rintro e w4 ⟨ad2, cap2, rfl, hg2, hK4, hA4⟩
            have HA4 := hid (hA4 g T HAi.out)
            have HK4 := hid hK4
            have HG2 : Hid (0 < R.length → ∃ g2, ad2 = some ⟨g2, 0, none⟩ ∧ TokAt w4 g2 R ∧ R.length ≤ cap2) := hg2
            clear hLX hA4 hK4 hg2 HAi hKi b1 b2 b3 b4 b5 c0 c1 c2
            go_wp2_with fail
            go_loopg [15] R.length (fun gj kv wi => ∃ k : Nat, k + gj = R.length ∧ kv = .int .i64 (k : Int) ∧ Hid (Kp B w lx t p room mb D wi) ∧ Hid (TokAt wi g T) ∧ Hid (0 < R.length → ∀ g2, ad2 = some ⟨g2, 0, none⟩ → TokAt wi g2 R))
            case atStart => exact ⟨0, by omega, rfl, HK4.out, HA4.out, fun h g2 e => by
              obtain ⟨g3, e3, h3, -⟩ := HG2.out h
              rw [e] at e3
              cases e3
              exact h3⟩
            case round =>
              obtain ⟨k, hk, rfl, hKk, hAk, hBk⟩ := hrel
              have HG3 : Hid (0 < R.length → ∃ g2, ad2 = some ⟨g2, 0, none⟩ ∧ R.length ≤ cap2) := fun h => (HG2.out h).imp (fun _ h => ⟨h.1, h.2.2⟩)
              clear HG2 HK4 HA4
              by_cases hkl : k < R.length
              · obtain ⟨g2, rfl, hcap2⟩ := HG3.out (by omega)
                obtain ⟨r, hr⟩ : ∃ r, R[k]? = some r := ⟨R[k], List.getElem?_eq_getElem hkl⟩
                obtain ⟨d0, d1, d2⟩ := (hBk.out (by omega) g2 rfl).cells hr
                have hsh := HSH.out k r hr
                obtain ⟨j, hj⟩ : ∃ j, j = i + 1 + k := ⟨_, rfl⟩
                rw [← hj] at hsh
                obtain ⟨f0, f1, f2⟩ := hAk.out.cells hsh
                simp only [Tok.sh] at f0 f1 f2
                obtain ⟨qf, hqf⟩ : ∃ qf, qf = r.fr + tk.tt := ⟨_, rfl⟩
                obtain ⟨qt, hqt⟩ : ∃ qt, qt = r.tt + tk.tt := ⟨_, rfl⟩
                rw [← hqf] at f1
                rw [← hqt] at f2
                have hjl : j < T.length := (List.getElem?_eq_some_iff.1 hsh).1
                have hjI : (j : Int) < (T.length : Int) := by omega
                have hkI : (k : Int) < (R.length : Int) := by omega
                have a3 : IntKind.i64.wrap ((i : Int) + 1) = (i : Int) + 1 := by rw [IntKind.wrap_i64]; omega
                have a4 : IntKind.i64.wrap ((i : Int) + 1 + (k : Int)) = (j : Int) := by rw [IntKind.wrap_i64]; omega
                have hqb : qt ≤ x.size ∧ qf ≤ qt := by
                  have h1 := (HRE.out j _ hsh).1
                  have h2 := HLT.out _ (List.mem_of_getElem? hsh)
                  simp only [Tok.sh] at h1 h2
                  omega
                have a5 : IntKind.i64.wrap ((r.fr : Int) + (tk.tt : Int)) = (qf : Int) := by rw [IntKind.wrap_i64]; omega
                have a6 : IntKind.i64.wrap ((r.tt : Int) + (tk.tt : Int)) = (qt : Int) := by rw [IntKind.wrap_i64]; omega
                have a7 : IntKind.i64.wrap ((k : Int) + 1) = (k : Int) + 1 := by rw [IntKind.wrap_i64]; omega
                clear hr hsh hj HG3 hqf hqt hqb
                go_wp2_with fail
                have hB5 : Below wr.heap.size wr (wr.alloc (.cells #[.int .i64 r.rl, .int .i64 (qf : Int), .int .i64 (qt : Int)] 30)) := (Below.refl _ _).alloc (Nat.le_refl _) _
                have hg2l := (hBk.out (by omega) g2 rfl).lt
                have m0 : (wr.alloc (.cells #[.int .i64 r.rl, .int .i64 (qf : Int), .int .i64 (qt : Int)] 30)).cell? ⟨wr.heap.size, 0, none⟩ = some (.int .i64 r.rl) := by unfold World.cell?; rw [heap_alloc_at]; rfl
                have m1 : (wr.alloc (.cells #[.int .i64 r.rl, .int .i64 (qf : Int), .int .i64 (qt : Int)] 30)).cell? ⟨wr.heap.size, 1, none⟩ = some (.int .i64 (qf : Int)) := by unfold World.cell?; rw [heap_alloc_at]; rfl
                have m2 : (wr.alloc (.cells #[.int .i64 r.rl, .int .i64 (qf : Int), .int .i64 (qt : Int)] 30)).cell? ⟨wr.heap.size, 2, none⟩ = some (.int .i64 (qt : Int)) := by unfold World.cell?; rw [heap_alloc_at]; rfl
                have hz5 : (wr.alloc (.cells #[.int .i64 r.rl, .int .i64 (qf : Int), .int .i64 (qt : Int)] 30)).heap.size = wr.heap.size + 1 := by simp
                generalize wr.alloc (.cells #[.int .i64 r.rl, .int .i64 (qf : Int), .int .i64 (qt : Int)] 30) = W5 at *
                have kd0 : ∀ W', Below W5.heap.size W5 W' → W'.cell? ⟨g2, k * 3, none⟩ = some (.int .i64 r.rl) := fun W' h => (h.cell (p := ⟨g2, k * 3, none⟩) (by show g2 < _; omega)).trans ((hB5.cell (p := ⟨g2, k * 3, none⟩) hg2l).trans d0)
                have kq0 : ∀ W', Below W5.heap.size W5 W' → W'.cell? ⟨wr.heap.size, 0, none⟩ = some (.int .i64 r.rl) := fun W' h => (h.cell (p := ⟨wr.heap.size, 0, none⟩) (by show wr.heap.size < _; omega)).trans m0
                have kd1 : ∀ W', Below W5.heap.size W5 W' → W'.cell? ⟨g2, k * 3 + 1, none⟩ = some (.int .i64 (r.fr : Int)) := fun W' h => (h.cell (p := ⟨g2, k * 3 + 1, none⟩) (by show g2 < _; omega)).trans ((hB5.cell (p := ⟨g2, k * 3 + 1, none⟩) hg2l).trans d1)
                have kq1 : ∀ W', Below W5.heap.size W5 W' → W'.cell? ⟨wr.heap.size, 1, none⟩ = some (.int .i64 (qf : Int)) := fun W' h => (h.cell (p := ⟨wr.heap.size, 1, none⟩) (by show wr.heap.size < _; omega)).trans m1
                have kd2 : ∀ W', Below W5.heap.size W5 W' → W'.cell? ⟨g2, k * 3 + 2, none⟩ = some (.int .i64 (r.tt : Int)) := fun W' h => (h.cell (p := ⟨g2, k * 3 + 2, none⟩) (by show g2 < _; omega)).trans ((hB5.cell (p := ⟨g2, k * 3 + 2, none⟩) hg2l).trans d2)
                have kq2 : ∀ W', Below W5.heap.size W5 W' → W'.cell? ⟨wr.heap.size, 2, none⟩ = some (.int .i64 (qt : Int)) := fun W' h => (h.cell (p := ⟨wr.heap.size, 2, none⟩) (by show wr.heap.size < _; omega)).trans m2
                clear d0 d1 d2 f0 f1 f2 m0 m1 m2 hz5
                refine (wpIn_wide (n := 5)).1 (region_quiet (C := fun W' => Below W5.heap.size W5 W') (by kernel_rfl) mixed (by kernel_rfl) ((Below.refl _ _).drew) ?_)
                refine wpQuietIn_step (fun _ _ _ _ => trivial) (fun K hK => ?_)
                go_simp
                refine ⟨_, fun _ _ => rfl, hK _ ?_⟩
                clear hK K
                refine wpQuietIn_step (fun _ _ _ _ => trivial) (fun K hK => ?_)
                go_simp
                refine ⟨_, fun _ _ => rfl, hK _ ?_⟩
                clear hK K
                refine wpQuietIn_step (fun _ _ _ _ => trivial) (fun K hK => ?_)
                go_simp
                refine ⟨_, fun _ _ => rfl, hK _ ?_⟩
                clear hK K
                refine wpQuietIn_step (fun _ _ _ _ => trivial) (fun K hK => ?_)
                go_simp
                refine ⟨_, fun _ _ => rfl, hK _ ?_⟩
                clear hK K
                refine wpQuietIn_step (fun _ _ _ _ => trivial) (fun K hK => ?_)
                go_simp
                refine ⟨.int .i64 r.rl, fun w' hC => by simp [kd0 w' hC], hK _ ?_⟩
                clear hK K
                refine wpQuietIn_step (fun _ _ _ _ => trivial) (fun K hK => ?_)
                go_simp
                refine ⟨_, fun _ _ => rfl, hK _ ?_⟩
                clear hK K
                refine wpQuietIn_step (fun _ _ _ _ => trivial) (fun K hK => ?_)
                go_simp
                refine ⟨.int .i64 r.rl, fun w' hC => by simp [kq0 w' hC], hK _ ?_⟩
                clear hK K
                refine wpQuietIn_step (fun _ _ _ _ => trivial) (fun K hK => ?_)
                go_simp
                refine ⟨_, fun _ _ => rfl, hK _ ?_⟩
                clear hK K
                refine wpQuietIn_step (fun _ _ _ _ => trivial) (fun K hK => ?_)
                go_simp
                refine ⟨_, fun _ _ => rfl, hK _ ?_⟩
                clear hK K
                refine wpQuietIn_step (fun _ _ _ _ => trivial) (fun K hK => ?_)
                go_simp
                refine ⟨_, fun _ _ => rfl, hK _ ?_⟩
                clear hK K
                refine wpQuietIn_step (fun _ _ _ _ => trivial) (fun K hK => ?_)
                go_simp
                refine ⟨_, fun _ _ => rfl, hK _ ?_⟩
                clear hK K
                refine wpQuietIn_step (fun _ _ _ _ => trivial) (fun K hK => ?_)
                go_simp
                refine ⟨_, fun _ _ => rfl, hK _ ?_⟩
                clear hK K
                refine wpQuietIn_step (fun _ _ _ _ => trivial) (fun K hK => ?_)
                go_simp
                refine ⟨_, fun _ _ => rfl, hK _ ?_⟩
                clear hK K
                refine wpQuietIn_step (fun _ _ _ _ => trivial) (fun K hK => ?_)
                go_simp
                refine ⟨.int .i64 (r.fr : Int), fun w' hC => by simp [kd1 w' hC], hK _ ?_⟩
                clear hK K
                refine wpQuietIn_step (fun _ _ _ _ => trivial) (fun K hK => ?_)
                go_simp
                refine ⟨_, fun _ _ => rfl, hK _ ?_⟩
                clear hK K
                refine wpQuietIn_step (fun _ _ _ _ => trivial) (fun K hK => ?_)
                go_simp
                refine ⟨_, fun _ _ => rfl, hK _ ?_⟩
                clear hK K
                refine wpQuietIn_step (fun _ _ _ _ => trivial) (fun K hK => ?_)
                go_simp
                refine ⟨_, fun _ _ => rfl, hK _ ?_⟩
                clear hK K
                refine wpQuietIn_step (fun _ _ _ _ => trivial) (fun K hK => ?_)
                go_simp
                refine ⟨.int .i64 (qf : Int), fun w' hC => by simp [kq1 w' hC], hK _ ?_⟩
                clear hK K
                refine wpQuietIn_step (fun _ _ _ _ => trivial) (fun K hK => ?_)
                go_simp
                refine ⟨_, fun _ _ => rfl, hK _ ?_⟩
                clear hK K
                refine wpQuietIn_step (fun _ _ _ _ => trivial) (fun K hK => ?_)
                go_simp
                refine ⟨_, fun _ _ => rfl, hK _ ?_⟩
                clear hK K
                refine wpQuietIn_step (fun _ _ _ _ => trivial) (fun K hK => ?_)
                go_simp
                refine ⟨_, fun _ _ => rfl, hK _ ?_⟩
                clear hK K
                refine wpQuietIn_step (fun _ _ _ _ => trivial) (fun K hK => ?_)
                go_simp
                refine ⟨_, fun _ _ => rfl, hK _ ?_⟩
                clear hK K
                refine wpQuietIn_step (fun _ _ _ _ => trivial) (fun K hK => ?_)
                go_simp
                refine ⟨_, fun _ _ => rfl, hK _ ?_⟩
                clear hK K
                refine wpQuietIn_step (fun _ _ _ _ => trivial) (fun K hK => ?_)
                go_simp
                refine ⟨_, fun _ _ => rfl, hK _ ?_⟩
                clear hK K
                refine wpQuietIn_step (fun _ _ _ _ => trivial) (fun K hK => ?_)
                go_simp
                refine ⟨_, fun _ _ => rfl, hK _ ?_⟩
                clear hK K
                refine wpQuietIn_step (fun _ _ _ _ => trivial) (fun K hK => ?_)
                go_simp
                refine ⟨.int .i64 (r.tt : Int), fun w' hC => by simp [kd2 w' hC], hK _ ?_⟩
                clear hK K
                refine wpQuietIn_step (fun _ _ _ _ => trivial) (fun K hK => ?_)
                go_simp
                refine ⟨_, fun _ _ => rfl, hK _ ?_⟩
                clear hK K
                refine wpQuietIn_step (fun _ _ _ _ => trivial) (fun K hK => ?_)
                go_simp
                refine ⟨_, fun _ _ => rfl, hK _ ?_⟩
                clear hK K
                refine wpQuietIn_step (fun _ _ _ _ => trivial) (fun K hK => ?_)
                go_simp
                refine ⟨_, fun _ _ => rfl, hK _ ?_⟩
                clear hK K
                refine wpQuietIn_step (fun _ _ _ _ => trivial) (fun K hK => ?_)
                go_simp
                refine ⟨.int .i64 (qt : Int), fun w' hC => by simp [kq2 w' hC], hK _ ?_⟩
                clear hK K
                refine wpQuietIn_step (fun _ _ _ _ => trivial) (fun K hK => ?_)
                go_simp
                refine ⟨_, fun _ _ => rfl, hK _ ?_⟩
                clear hK K
                refine wpQuietIn_step (fun _ _ _ _ => trivial) (fun K hK => ?_)
                go_simp
                refine ⟨_, fun _ _ => rfl, hK _ ?_⟩
                clear hK K
                refine wpQuietIn_nil ?_
                intro W6 hB6
                have hB7 := hB5.trans (hB6.mono hB5.size)
                clear kd0 kd1 kd2 kq0 kq1 kq2
                go_wp2_with fail
                go_roundg (gk - 1)
                case measure => omega
                case rel => exact ⟨k + 1, by omega, rfl, hKk.out.alloc hB7, hAk.out.keep (hB7.block g hAk.out.lt), fun h g3 e => (hBk.out h g3 e).keep (hB7.block g3 (hBk.out h g3 e).lt)⟩
              · have hkI : ¬ (k : Int) < (R.length : Int) := by omega
                have a3 : IntKind.i64.wrap ((i : Int) + 1) = ((i + 1 : Nat) : Int) := by rw [IntKind.wrap_i64]; omega
                go_wp2_with fail
                go_roundg (go - 1)
                case measure => omega
                case rel => exact ⟨i + 1, tk.tt, by omega, rfl, rfl, HT2.out, hKk.out, hAk.out⟩
        · have hge : ¬ (i : Int) < (T.length : Int) := by omega
          have hti := hTi.out
          rw [List.drop_of_length_le (by omega)] at hti
          have hax : a = x.size := hti
          subst hax
          clear hTi
          go_wp2_with fail
          go_ret
          exact ⟨rfl, hKi.out.2⟩
    · have hT1 : T = [] := List.length_eq_zero_iff.1 (by omega)
      subst hT1
      have hx0 : 0 = x.size := HTL.out
      have hx1 : (0 : Int) = (x.size : Int) := by omega
      have hx2 : ((0 : Int) == (x.size : Int)) = true := by simp [← hx1]
      clear hg
      go_wp2_with fail
      go_loopg [12, 13] 1 (fun gk av ix wr => gk = 1 ∧ av = .int .i64 0 ∧ ix = .int .i64 0 ∧ wr = w3)
      case atStart => exact ⟨rfl, rfl, rfl, rfl⟩
      case round =>
        obtain ⟨rfl, rfl, rfl, rfl⟩ := hrel
        go_wp2_with fail
        go_ret
        exact ⟨rfl, HK3.out.2⟩
end Go.Proofs.YtjhmlcilabnlbaaDoor
/- For every rules, room and text of bulk at most the row's number: what tokens are for (tesserakeep.Tiles) holds, and the arguments read as they did. -/
namespace Go.Proofs.YtjhmlcilabnlbaaDoor
open Go.ChangeShapes Go.WideShapes Go.ChangeAt Go.RowKit
open Go.ChangeMaps (open_string shut_string)

theorem Tryd.own : ownKnob Tryd.prog.godebug = none := by kernel_rfl
theorem Tryd.gTab : Tryd.prog.globalNamed "math/bits.deBruijn64tab" = some 0 := by kernel_rfl
theorem Tryd.gTabType : (Tryd.prog.globals[0]?).map (·.type) = some 131 := by kernel_rfl
theorem Tryd.cells131 : Tryd.prog.cellsOf 131 = 64 := by kernel_rfl
theorem Tryd.cells5 : Tryd.prog.cellsOf 5 = 1 := by kernel_rfl
theorem tiles_laid : Rows.tilesUptoRow.laid = [("math/bits.deBruijn64tab", Lib.tabData .u8 (Lib.deBruijn64tab.map fun (n : Nat) => (n : Int)))] := by kernel_rfl
theorem tab_of {W : World} (h : laidMet Tryd.prog Rows.tilesUptoRow.laid W) : TabIn W := fun j hj => by
  rw [tiles_laid] at h
  have h1 := (Lib.tabIs_of_head (rest := []) Tryd.gTab Tryd.gTabType Tryd.underlying131 Tryd.underlying5 Tryd.cells5 Tryd.cells131 h).cell Tryd.gTab j (by rw [List.length_map]; exact hj)
  have e : (Lib.deBruijn64tab.map fun (n : Nat) => (n : Int)).getD j 0 = ((Lib.deBruijn64tab.getD j 0 : Nat) : Int) := by
    rw [List.getD, List.getD, List.getElem?_map]
    cases Lib.deBruijn64tab[j]? <;> rfl
  rw [e] at h1
  exact h1

theorem tiles_short {H : Type} {s x : ByteArray} {c : Int} (hk : Rows.uptoSmall H [.lit (.string s.data.toList), .lit (.int .i64 c), .lit (.string x.data.toList)] = true) : x.size ≤ 1048576 := by
  have h : Rows.uptoBulkAll [DataW.lit (H := H) (.string s.data.toList), .lit (.int .i64 c), .lit (.string x.data.toList)] ≤ 1048576 := of_decide_eq_true hk
  simp only [Rows.uptoBulkAll, Rows.uptoBulk] at h
  have e : x.data.toList.length = x.size := by rw [Array.length_toList]; rfl
  omega

set_option maxRecDepth 100000 in
theorem tiles_contract (H : Type) (enc : TypeId × Value → H) (W : World) (base : Nat) (args : Array Value) (ds gs : List (DataW H)) (before : List MemPlace)
    (hval : ∀ (j : Nat) t v, Tryd.f3.params[j]? = some t → args[j]? = some v → Value.okWide Tryd.prog W .any base t v)
    (hW : DataW.Whole enc Tryd.prog Tryd.f3.params.toList Rows.tilesSpec.vars false W args.toList ds gs before) (hL : laidMet Tryd.prog Rows.tilesUptoRow.laid W) (hk : Rows.uptoSmall H (ds ++ gs) = true) :
    Calls Tryd.prog 3 args W fun e W' => ∃ v, e = .returned v ∧ Rows.tilesSpec.post enc Tryd.prog Tryd.f3 false true false false W args v W' := by
  have hT := tab_of hL
  have hw : 1 ≤ W.heap.size := by
    have h := hT 0 (by decide)
    rcases Nat.eq_zero_or_pos W.heap.size with e | e
    · rw [show W.cell? ⟨0, 0, none⟩ = none by unfold World.cell?; rw [Array.getElem?_eq_none (by omega)]] at h
      cases h
    · exact e
  have hW' := hW
  obtain ⟨p, q, hA0, hV, rfl, hfz, hnd⟩ := hW
  have hA : DataW.TrodAll enc Tryd.prog W 0 (fun _ => true) true Tryd.f3.params.toList args.toList ds p := hA0
  rw [Tryd.params3] at hA hval
  obtain ⟨v0, vs0, d0, ds0, p0, q0, hargs, rfl, rfl, h0, r0⟩ := trodAll_cons hA
  obtain ⟨v1, vs1, d1, ds1, p1, q1, rfl, rfl, rfl, h1, r1⟩ := trodAll_cons r0
  obtain ⟨v2, vs2, d2, ds2, p2, q2, rfl, rfl, rfl, h2, r2⟩ := trodAll_cons r1
  obtain ⟨rfl, rfl, rfl⟩ := trodAll_nil r2
  obtain rfl : args = #[v0, v1, v2] := by cases args; simp_all
  obtain ⟨rfl, rfl⟩ := trodVars_none hV
  obtain ⟨s, rfl, rfl, rfl, ws⟩ := open_string Tryd.underlying9 (hval 0 9 v0 rfl rfl) h0
  obtain ⟨c, rfl, rfl, rfl, wc⟩ := open_int Tryd.underlying3 (hval 1 3 v1 rfl rfl) h1
  obtain ⟨x, rfl, rfl, rfl, wx⟩ := open_string Tryd.underlying9 (hval 2 9 v2 rfl rfl) h2
  have hc : -9223372036854775808 ≤ c ∧ c ≤ 9223372036854775807 := by
    have h := wc
    simp only [Lit.wf, Bool.and_eq_true, decide_eq_true_eq] at h
    have e1 : IntKind.i64.min = -9223372036854775808 := by kernel_rfl
    have e2 : IntKind.i64.max = 9223372036854775807 := by kernel_rfl
    omega
  simp only [List.append_nil] at hW' hk
  refine (tiles_any s c hc.1 (by omega) x (tiles_short hk) W hw hT).mono fun e W' ⟨he, hB⟩ => ?_
  subst he
  refine ⟨_, rfl, _, _, _, [], [], [], hW', ?_, ?_, ?_, hB.frame _, fun h => by cases h⟩
  · exact trodAll_mk1 (shut_bool Tryd.underlying4 _)
  · exact trodAll_cons_mk (shut_string Tryd.underlying9 ws) (trodAll_cons_mk (shut_int Tryd.underlying3 wc) (trodAll_cons_mk (shut_string Tryd.underlying9 wx) trodAll_mk0))
  · exact rfl

/-- A world for the witness: the settled one, the table as its initialiser lays it. -/
noncomputable def laidWorld (os : Os) : World :=
  { World.holding Tryd.prog os ⟨#[], #[], []⟩ with heap := (World.holding Tryd.prog os ⟨#[], #[], []⟩).heap.modify 0 fun
      | .cells _ t frozen => .cells (Lib.deBruijn64tab.map fun (n : Nat) => Value.int .u8 (n : Int)).toArray t frozen
      | o => o }
theorem laid_met (os : Os) : laidMet Tryd.prog Rows.tilesUptoRow.laid ((laidWorld os).forCall (fun _ _ => 0) ⟨#[], #[.string .empty, .int .i64 0, .string .empty], []⟩).memory :=
  laidMet_of_run' 8 (by kernel_rfl) (by kernel_rfl)
theorem tiles_reads (os : Os) {H : Type} (enc : TypeId × Value → H) : ∃ places, DataW.whole enc Tryd.prog ((laidWorld os).forCall (fun _ _ => 0) ⟨#[], #[.string .empty, .int .i64 0, .string .empty], []⟩).memory Tryd.f3.params.toList Rows.tilesSpec.vars false #[Value.string .empty, .int .i64 0, .string .empty].toList 8 = some ([.lit (.string []), .lit (.int .i64 0), .lit (.string [])], [], places) :=
  ⟨[], by kernel_rfl⟩

set_option maxRecDepth 100000 in
theorem tiles_lifted (os : Os) (started : os.Started) (H : Type) (enc : TypeId × Value → H) (F : Stop.Interp) :
    ReturnsInHanded {} Tryd.checked os 3 .any ((Rows.OpenSpec.upto Rows.tilesSpec).preRow enc Tryd.prog Tryd.f3 Rows.tilesUptoRow.domain false Rows.tilesUptoRow.laid) (((Rows.OpenSpec.upto Rows.tilesSpec).at F).post enc Tryd.prog Tryd.f3 false true false false) := by
  obtain ⟨places, hx⟩ := tiles_reads os enc
  refine returnsInHanded_of_row (C := Tryd.checked) (s := Rows.OpenSpec.upto Rows.tilesSpec) Tryd.own started (by kernel_rfl) Tryd.func3
    (witness_row_at (enc := enc) (C := Tryd.checked) false (laidWorld os) #[.string .empty, .int .i64 0, .string .empty] rfl (by kernel_rfl) (by kernel_rfl) (by kernel_rfl)
      (OpenSpec.preRow_of_cond 8 hx (by kernel_rfl) (fun k hk => by cases hk; kernel_rfl) (by kernel_rfl) (laid_met os))) ?_
  intro W base args ds gs before hval hW _ hcond _ hL _ _
  exact tiles_contract H enc W base args ds gs before hval hW hL (hcond _ rfl)

theorem tiles_upto : Rows.TilesUptoSaid :=
  OpenClaim.holds_of_cond 3 Tryd.f3 rfl rfl rfl rfl rfl rfl rfl ⟨rfl, rfl, rfl, rfl, rfl⟩ rfl rfl rfl rfl rfl (by kernel_rfl) Tryd.func3 (by kernel_rfl)
    (of_decide_eq_true (by kernel_rfl)) (by unfold Func.isWrapper; first | (rw [if_pos (by decide +kernel)]; kernel_rfl) | (rw [if_neg (by decide +kernel)]; exact ⟨rfl, rfl⟩))
    (fun os started H enc _ F => by rw [OpenClaim.pre_eq_preRow]; exact tiles_lifted os started H enc F)

theorem tiles_plain (f : FuncId) (fn : Func) (hf : Tryd.pinned.checked.prog.funcNamed "tessera/tesserakeep.Tiles" = some f) (hfn : Tryd.pinned.checked.prog.funcs[f]? = some fn) :
    false = Tryd.pinned.checked.prog.looks [] ∧ ∀ (j : Nat) t, fn.params[j]? = some t → Tryd.pinned.checked.prog.wantsStandIn t = false := by
  obtain rfl : f = 3 := Option.some.inj ((show Tryd.prog.funcNamed "tessera/tesserakeep.Tiles" = some 3 by kernel_rfl).symm.trans hf) |>.symm
  obtain rfl : fn = Tryd.f3 := (Option.some.inj (Tryd.func3.symm.trans hfn)).symm
  refine ⟨by kernel_rfl, fun j t ht => ?_⟩
  rw [Tryd.params3] at ht
  have hm : t = 9 ∨ t = 3 := by
    have := Array.mem_of_getElem? ht
    simp at this
    first | exact this | (rcases this with h | h | h <;> simp [h])
  rcases hm with rfl | rfl
  · exact (show Tryd.prog.wantsStandIn 9 = false by kernel_rfl)
  · exact (show Tryd.prog.wantsStandIn 3 = false by kernel_rfl)

theorem tiles_holds : Rows.TilesUptoCardSaid :=
  Claim7.holds_tied_plain_at .later [] _ _ _ _ tiles_upto (fun _ h => by cases h) (by kernel_rfl) (fun _ h => by cases h) tilesUpto_row_tie rfl ⟨rfl, rfl⟩ (by kernel_rfl) rfl tiles_plain (by kernel_rfl)

#print axioms tiles_holds
end Go.Proofs.YtjhmlcilabnlbaaDoor
