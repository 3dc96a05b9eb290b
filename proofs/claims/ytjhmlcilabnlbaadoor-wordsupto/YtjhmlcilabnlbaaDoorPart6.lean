import Derived.OrdersHeld
import Derived.StillTail
import Derived.RegionTactic
import Derived.Laws.IdiomStrings
import Derived.Test.YtjhmlcilabnlbaaDoorPart5
import Derived.Test.YtjhmlcilabnlbaaDoorPart1
/- A region that draws its order: what only looks may be taken first, while whoever comes up meanwhile keeps what it looks at; then the rest, one behind the other. -/
namespace Go.Proofs.YtjhmlcilabnlbaaDoor
variable {P : Program} {ops : Array Oper} {Q : Exit → Act → World → Prop} {md : Region.Mode} {S : World → Prop} {m : Nat}

/-- Whatever order is picked; S is kept by every operation that stands before the m-th. -/
def anyS (P : Program) (md : Region.Mode) (ops : Array Oper) (Q : Exit → Act → World → Prop) (S : World → Prop) (m : Nat) : Nat → Array Bool → Act → World → Prop
  | 0, listed, a, w => Region.ready md ops listed = [] ∧ Q .normal a w
  | f + 1, listed, a, w => (Region.ready md ops listed = [] → Q .normal a w) ∧
    ∀ i ∈ Region.ready md ops listed, wpOp P ops Q i (fun a' w' => (i < m → S w') ∧ anyS P md ops Q S m f (listed.setIfInBounds i true) a' w') a w

theorem any_of_S (f : Nat) : ∀ (listed : Array Bool) (a : Act) (w : World), anyS P md ops Q S m f listed a w → wpAny P md ops Q f listed a w := by
  induction f with
  | zero => intro _ _ _ h; exact h
  | succ f ih => intro _ _ _ h; exact ⟨h.1, fun i hi => wpOp_mono (fun a' w' h' => ih _ a' w' h'.2) (h.2 i hi)⟩

theorem S_first {i : Nat} {oi : Oper} {v : Value} (hi : ops[i]? = some oi) (hsel : Region.noSelect ops = true)
    (hQ : ∀ (d : Option Tmp) (v : Value) c a w, Q (.panic c) (a.put d v) w → Q (.panic c) a w)
    (hs : Region.sinkB md ops m = true) (hc : Region.chainB md ops m = true) (hn : m < ops.size) (him : i < m) (f : Nat) :
    ∀ (listed : Array Bool) (a : Act) (w : World), HeadInv md ops m listed →
      (∀ j oj, ops[j]? = some oj → j ≠ i → listed.getD j true = false → (∀ e ∈ oj.after, Region.binds md e = true → e.on ≠ i) → oi.apart ops oj = true) →
      i ∈ Region.ready md ops listed → YieldsIf P ops S oi v a → S w →
      anyS P md ops Q S m f (listed.setIfInBounds i true) (a.put oi.dst v) w → anyS P md ops Q S m (f + 1) listed a w := by
  have ns := Region.noSelect_spec hsel
  induction f with
  | zero =>
    intro listed a w _ _ hr hy hS H
    refine ⟨fun h => (by rw [h] at hr; cases hr), fun j hj => ?_⟩
    by_cases hji : j = i
    · subst hji; exact hy.wpOp hi hS ⟨fun _ => hS, H⟩
    · have := ready_mono hj hji
      rw [H.1] at this
      cases this
  | succ f ih =>
    intro listed a w inv hfree hr hy hS H
    have hun := (mem_ready.1 hr).1
    refine ⟨fun h => (by rw [h] at hr; cases hr), fun j hj => ?_⟩
    by_cases hji : j = i
    · subst hji; exact hy.wpOp hi hS ⟨fun _ => hS, H⟩
    · have hjm : j < m := by
        rcases Nat.lt_or_ge j m with h | h
        · exact h
        · exact absurd hj (tail_waits hs hc hn inv _ i rfl him hun j h)
      obtain ⟨hjun, oj, hoj, hall⟩ := mem_ready.1 hj
      have hnot : ∀ e ∈ oj.after, Region.binds md e = true → e.on ≠ i := fun e he hb heq => by
        have h1 := hall e he hb
        rw [heq, getD_both hun] at h1
        cases h1
      have h2 := wpOp_putIf hoj (hfree j oj hoj hji hjun hnot) (fun cs b => ns i oi cs b hi) (fun cs b => ns j oj cs b hoj) (hQ _ _) hy (H.2 j (ready_mono hj hji))
      refine wpOp_mono (fun a' w' h3 => ⟨h3.2.1, ih (listed.setIfInBounds j true) a' w' (inv.set hj hjm) (fun k ok hk hki hku hno => ?_) (ready_mono hr (Ne.symm hji)) h3.1 (h3.2.1 hjm) ?_⟩) h2
      · refine hfree k ok hk hki ?_ hno
        by_cases hjk : j = k
        · subst hjk; exact hjun
        · rw [getD_set_ne true hjk] at hku; exact hku
      · rw [Array.setIfInBounds_comm _ _ hji]
        exact h3.2.2

/-- Those that only look, in the order in which they are taken. -/
def lookL (P : Program) (ops : Array Oper) (S : World → Prop) (L : Act → Prop) : List Nat → Act → Prop
  | [], a => L a
  | i :: l, a => ∃ o v, ops[i]? = some o ∧ o.guard = none ∧ (∀ w, S w → (execOp a.eval o).run P w = .ok (.value v) w) ∧ lookL P ops S L l (a.put o.dst v)
theorem lookL_step {L : Act → Prop} {i : Nat} {o : Oper} {l : List Nat} {a : Act} (ho : ops[i]? = some o) (hg : o.guard = none)
    (h : ∀ K : Act → Prop, (∀ a', lookL P ops S L l a' → K a') → ∃ v, (∀ w, S w → (execOp a.eval o).run P w = .ok (.value v) w) ∧ K (a.put o.dst v)) : lookL P ops S L (i :: l) a := by
  obtain ⟨v, h1, h2⟩ := h _ (fun _ h => h)
  exact ⟨o, v, ho, hg, h1, h2⟩
/-- The rest, one behind the other. -/
def thenL (P : Program) (ops : Array Oper) (Q : Exit → Act → World → Prop) (S : World → Prop) (m : Nat) : List Nat → Act → World → Prop
  | [], a, w => Q .normal a w
  | i :: l, a, w => wpOp P ops Q i (fun a' w' => (i < m → S w') ∧ thenL P ops Q S m l a' w') a w

theorem thenL_step {i : Nat} {o : Oper} {l : List Nat} {a : Act} {w : World} (ho : ops[i]? = some o)
    (h : ∀ K : Act → World → Prop, (∀ a w, (i < m → S w) → thenL P ops Q S m l a w → K a w) → if Region.wanted o (yielded ops a.tmps) = true then Oper.wp P o a w K Q else K (a.put o.dst undef) w) : thenL P ops Q S m (i :: l) a w :=
  wpOp_step ho (fun K hK => h K (fun a w h1 h2 => hK a w ⟨h1, h2⟩))
theorem lookL_then {a : Act} {w : World} {r : List Nat} (h : thenL P ops Q S m r a w) : lookL P ops S (fun a' => thenL P ops Q S m r a' w) [] a := h

def lookB (md : Region.Mode) (ops : Array Oper) (m : Nat) (r : List Nat) : List Nat → Array Bool → Bool
  | [], listed => thenB md ops r listed
  | i :: l, listed => decide (i < m) && (Region.ready md ops listed).contains i && Region.free md ops listed i && lookB md ops m r l (listed.setIfInBounds i true)
where
  thenB (md : Region.Mode) (ops : Array Oper) : List Nat → Array Bool → Bool
    | [], listed => (Region.ready md ops listed).isEmpty
    | i :: l, listed => decide (Region.ready md ops listed = [i]) && thenB md ops l (listed.setIfInBounds i true)

theorem S_of_then : ∀ (r : List Nat) (listed : Array Bool) (a : Act) (w : World), lookB.thenB md ops r listed = true → thenL P ops Q S m r a w → anyS P md ops Q S m r.length listed a w
  | [], listed, a, w, hB, h => ⟨by simpa [lookB.thenB] using hB, h⟩
  | i :: r, listed, a, w, hB, h => by
    simp only [lookB.thenB, Bool.and_eq_true, decide_eq_true_eq] at hB
    refine ⟨fun h1 => (by rw [hB.1] at h1; cases h1), fun j hj => ?_⟩
    rw [hB.1] at hj
    have hji : j = i := by simpa using hj
    subst hji
    exact wpOp_mono (fun a' w' h' => ⟨h'.1, S_of_then r _ a' w' hB.2 h'.2⟩) h

theorem S_of_look (hsel : Region.noSelect ops = true) (hQ : ∀ (d : Option Tmp) (v : Value) c a w, Q (.panic c) (a.put d v) w → Q (.panic c) a w)
    (hs : Region.sinkB md ops m = true) (hc : Region.chainB md ops m = true) (hn : m < ops.size) (r : List Nat) :
    ∀ (l : List Nat) (listed : Array Bool) (a : Act) (w : World), HeadInv md ops m listed → lookB md ops m r l listed = true → S w →
      lookL P ops S (fun a' => thenL P ops Q S m r a' w) l a → anyS P md ops Q S m (l.length + r.length) listed a w
  | [], listed, a, w, _, hB, hS, h => by simpa using S_of_then r listed a w hB h
  | i :: l, listed, a, w, inv, hB, hS, h => by
    simp only [lookB, Bool.and_eq_true, decide_eq_true_eq] at hB
    obtain ⟨⟨⟨him, hr⟩, hf⟩, hB'⟩ := hB
    have hr' : i ∈ Region.ready md ops listed := by simpa using hr
    obtain ⟨o, v, ho, hg, hv, hK⟩ := h
    have hy : YieldsIf P ops S o v a := .inl ⟨by simp [Region.wanted, hg], hv⟩
    rw [show (i :: l).length + r.length = (l.length + r.length) + 1 by simp; omega]
    exact S_first ho hsel hQ hs hc hn him _ listed a w inv (Region.free_spec ho hf) hr' hy hS (S_of_look hsel hQ hs hc hn r l _ _ w (inv.set hr' him) hB' hS hK)

/-- The way on, where nothing panics. -/
def onlyOn (Q : Exit → Act → World → Prop) (e : Exit) (a : Act) (w : World) : Prop := e = .normal ∧ Q e a w
/-- The region. -/
theorem region_float {id : Nat} {a : Act} {w : World} (m : Nat) (l r : List Nat) (hm : P.follows .mixedOrders = true)
    (hB : (Region.noSelect ops && Region.sinkB .any ops m && Region.chainB .any ops m && decide (m < ops.size) && decide (l.length + r.length = ops.size) && lookB .any ops m r l (Array.replicate ops.size false)) = true)
    (hS : S w.drew) (h : lookL P ops S (fun a' => thenL P ops (onlyOn Q) S m r a' w.drew) l a) : (Code.region id ops true).wp P Q a w := by
  simp only [Bool.and_eq_true, decide_eq_true_eq] at hB
  obtain ⟨⟨⟨⟨⟨hsel, hs⟩, hc⟩, hn⟩, hlen⟩, hlook⟩ := hB
  have inv0 : HeadInv .any ops m (Array.replicate ops.size false) :=
    ⟨by simp, fun j oj _ hl => (by rw [getD_replicate_false] at hl; cases hl), fun t _ ht => getD_in (by simpa using ht) (getD_replicate_false _ _)⟩
  have H := S_of_look (P := P) (Q := onlyOn Q) (S := S) hsel (fun _ _ _ _ _ h => ⟨h.1, absurd h.1 (by intro e; cases e)⟩) hs hc hn r l _ a w.drew inv0 hlook hS h
  rw [hlen] at H
  exact Code.wp_mono (fun _ _ _ h => h.2) (wp_region_any hm (any_of_S _ _ _ _ H))
end Go.Proofs.YtjhmlcilabnlbaaDoor
/- The lexer: a step of a run. -/
namespace Go.Proofs.YtjhmlcilabnlbaaDoor
open Go.RowKit Go.Shelf

attribute [local go_sem] Oper.semAt_some

theorem Tryd.info30 : (Tryd.prog.info? 30).map (fun i => (i.zero, i.size, i.bytes)) = some (some (.agg #[.int .i64 0, .int .i64 0, .int .i64 0]), 3, 24) := by kernel_rfl
theorem three_cells {W : World} {u0 u1 u2 : Value} {N : Nat} (hN : W.heap.size = N) (j : Nat) (u : Value) (h : [u0, u1, u2][j]? = some u) : (W.alloc (.cells #[u0, u1, u2] 30)).cell? ((⟨N, 0, none⟩ : Addr).add j) = some u := by
  subst hN
  have e : (⟨W.heap.size, 0, none⟩ : Addr).add j = ⟨W.heap.size, j, none⟩ := by
    unfold Addr.add
    by_cases hj : j = 0
    · simp [hj]
    · simp [hj]
  rw [e]
  unfold World.cell?
  rw [heap_alloc_at]
  simpa using h
/-- A token added to the run's list. -/
theorem CutI.push {B K : Nat} {W w6 : World} {c r lx lb t p room mb : Nat} {D : PlD} {s : ByteArray} {l : List (S2 × Nat)} {dn : Int} {f : S2} {v v' : Value} {T : List Tok} {fr at' : Nat} {st : S2} (h : CutI B K W c r lx lb t p room mb D s l dn f v T fr at' st) (hKB : B ≤ K) (hKW : K ≤ W.heap.size) (x : Tok)
    (hown : w6.ownsRow K 30 3 v' (T.length + 1) (tokCells T ++ [.int .i64 x.rl, .int .i64 (x.fr : Int), .int .i64 (x.tt : Int)])) (hg : W.grownBy w6 v.ownBlock) (hat : v'.ownBlock = v.ownBlock ∨ v'.ownBlock = some W.heap.size) :
    CutI B K (w6.setCell ⟨c, 1, none⟩ v') c r lx lb t p room mb D s l dn f v' (T ++ [x]) fr at' st := by
  have hc : W.heap[c]? = _ := h.run
  have hcl := h.run.lt
  have hvB : ∀ g, v.ownBlock = some g → K ≤ g := fun g hv => by
    rcases h.tk.2 with ⟨e, -⟩ | ⟨g', cap, cur, e, h1, -⟩
    · rw [e] at hv; cases hv
    · rw [e] at hv; cases hv; exact h1
  have nv : ∀ {k : Nat} {cs : Array Value} {Ty : TypeId} {fz : Nat × Nat}, W.heap[k]? = some (.cells cs Ty fz) → Ty ≠ 30 → v.ownBlock ≠ some k := fun {k cs Ty fz} hk hT e => by
    obtain ⟨cur, hcur⟩ := tok_own h.tk e
    rw [hcur] at hk
    injection hk with hk
    injection hk with _ hk _
    exact hT hk.symm
  have nc : ∀ {k : Nat} {cs : Array Value} {Ty : TypeId} {fz : Nat × Nat}, W.heap[k]? = some (.cells cs Ty fz) → Ty ≠ 60 → k ≠ c := fun {k cs Ty fz} hk hT e => by
    rw [e, hc] at hk
    injection hk with hk
    injection hk with _ hk _
    exact hT hk.symm
  have o6 : ∀ k, k < W.heap.size → v.ownBlock ≠ some k → w6.heap[k]? = W.heap[k]? := fun k hk hv => hg.block k hk (fun e => hv e.symm)
  have oo : ∀ k, k ≠ c → k < W.heap.size → v.ownBlock ≠ some k → (w6.setCell ⟨c, 1, none⟩ v').heap[k]? = W.heap[k]? := fun k hkc hk hv => (Below.heap_setCell _ _ _ _ hkc).trans (o6 k hk hv)
  have hx : W.heap[lx]? = _ := h.lx'
  have hr : W.heap[r]? = _ := h.rd
  obtain ⟨cs, hl, -⟩ := h.ld
  have hv'c : v'.ownBlock ≠ some c := by
    rcases hat with e | e
    · rw [e]; exact nv hc (by decide)
    · rw [e]; intro e2; have := Option.some.inj e2; omega
  have hB6 : Below B W w6 := (Below.refl B W).grown hg (by omega) (fun k e => by have := hvB k e; omega)
  refine ⟨hset ((o6 c hcl (nv hc (by decide))).trans h.run) _, (oo r (nc hr (by decide)) h.rd.lt (nv hr (by decide))).trans h.rd, h.ld.keep (oo lb (nc hl (by decide)) h.ld.lt (nv hl (by decide))), (oo lx (nc hx (by decide)) (Array.getElem?_eq_some_iff.1 hx).1 (nv hx (by decide))).trans h.lx', h.tb.keep (fun j hj => oo j (fun e => h.tb.sepT hc (by decide) (by decide) (e ▸ hj)) (h.tb.ltS hj).2 (fun e => ?_)) (hB6.setCell (p := ⟨c, 1, none⟩) h.cB v'), h.fs, ?_, ?_, h.b1, h.cB⟩
  · obtain ⟨cur, hcur⟩ := tok_own h.tk e
    exact h.tb.sepT hcur (by decide) (by decide) hj
  · have hrow : w6.ownsRow K 30 3 v' (T ++ [x]).length (tokCells (T ++ [x])) := by rw [List.length_append, tokCells_snoc]; exact hown
    exact tok_keep hrow (fun g hg' => Below.heap_setCell _ _ _ _ (show g ≠ c from fun e => hv'c (e ▸ hg')))
  · refine h.ti.blocks (oo 0 (by have := h.cB; have := h.b1; omega) (by omega) (fun e => ?_))
    have := hvB 0 e
    have := h.b1
    omega

theorem CutI.grown1 {B K : Nat} {W w6 : World} {c r lx lb t p room mb : Nat} {D : PlD} {s : ByteArray} {l : List (S2 × Nat)} {dn : Int} {f : S2} {v : Value} {T : List Tok} {fr at' : Nat} {st : S2} (h : CutI B K W c r lx lb t p room mb D s l dn f v T fr at' st) (hg : W.grownBy w6 v.ownBlock) : RunB w6 c r v fr at' st := by
  have hc : W.heap[c]? = _ := h.run
  have nv : v.ownBlock ≠ some c := fun e => by
    obtain ⟨cur, hcur⟩ := tok_own h.tk e
    rw [hcur] at hc
    simp at hc
  exact (hg.block c h.run.lt (fun e => nv e.symm)).trans h.run

/-- The end of a step, once its state is known. -/
def stepR2 (D : PlD) (s : ByteArray) (T : List Tok) (fr at' : Nat) (s2 : S2) : Rn :=
  if s2.meets (leadN D s (at' + 1)) = true then ⟨T, fr, at' + 1, s2⟩ else ⟨T ++ [⟨ruleN s2, fr, at' + 1⟩], at' + 1, at' + 1, s2⟩

/-- The worlds in which the run stands as it is, whatever the table has come to hold. -/
def StC (B K c r lx lb t p room mb : Nat) (D : PlD) (s : ByteArray) (l : List (S2 × Nat)) (dn : Int) (f : S2) (v : Value) (T : List Tok) (fr at' : Nat) (st : S2) (w W : World) : Prop :=
  ∃ l', CutI B K W c r lx lb t p room mb D s l' dn f v T fr at' st ∧ Turn (cutS t mb l c v) w W ∧ Fresh l l' w
theorem StC.run {B K c r lx lb t p room mb : Nat} {D : PlD} {s : ByteArray} {l : List (S2 × Nat)} {dn : Int} {f : S2} {v : Value} {T : List Tok} {fr at' : Nat} {st : S2} {w W : World} (h : StC B K c r lx lb t p room mb D s l dn f v T fr at' st w W) : RunB W c r v fr at' st := by obtain ⟨_, hC, -⟩ := h; exact hC.run
theorem StC.rd {B K c r lx lb t p room mb : Nat} {D : PlD} {s : ByteArray} {l : List (S2 × Nat)} {dn : Int} {f : S2} {v : Value} {T : List Tok} {fr at' : Nat} {st : S2} {w W : World} (h : StC B K c r lx lb t p room mb D s l dn f v T fr at' st w W) : RdB W r lx s lb := by obtain ⟨_, hC, -⟩ := h; exact hC.rd
theorem StC.lx {B K c r lx lb t p room mb : Nat} {D : PlD} {s : ByteArray} {l : List (S2 × Nat)} {dn : Int} {f : S2} {v : Value} {T : List Tok} {fr at' : Nat} {st : S2} {w W : World} (h : StC B K c r lx lb t p room mb D s l dn f v T fr at' st w W) : LxB W lx p t := by obtain ⟨_, hC, -⟩ := h; exact hC.lx'
theorem StC.step {B K c r lx lb t p room mb : Nat} {D : PlD} {s : ByteArray} {l : List (S2 × Nat)} {dn : Int} {f : S2} {v : Value} {T : List Tok} {fr at' b : Nat} {st : S2} {w W : World} (hD : D.ok) (hst : st.ok) (hb : b < 256) (h : StC B K c r lx lb t p room mb D s l dn f v T fr at' st w W) :
    Calls Tryd.prog 38 #[.pointer (some ⟨t, 0, none⟩), .agg #[.int .u64 (st.1 : Int), .int .u64 (st.2 : Int)], .int .u8 (b : Int)] W fun e w' => e = .returned (.agg #[.int .u64 ((stepN D st.1 b).1 : Int), .int .u64 ((stepN D st.1 b).2 : Int)]) ∧ StC B K c r lx lb t p room mb D s l dn f v T fr at' st w w' := by
  obtain ⟨l', hC, hT, hF⟩ := h
  refine (tstep_any B hC.b1 D hD t p room dn 0 f mb l' st hst b hb W hC.tb hC.ti).mono ?_
  rintro e w3 ⟨l2, rfl, hI3, hT3, hn3⟩
  exact ⟨rfl, l2, hC.asked hI3 hC.fs hT3, hT.next hT3 (fun j hj e => Or.inl (tbS_fresh hF hj e)), hF.trans hn3 hT.size⟩

set_option maxRecDepth 100000 in
set_option maxHeartbeats 100000000 in
theorem rstep_any (B K : Nat) (c r lx lb t p room mb : Nat) (D : PlD) (hD : D.ok) (s : ByteArray) (hs : s.size ≤ 1048576) (l : List (S2 × Nat)) (dn : Int) (f : S2) (v : Value) (T : List Tok) (fr at' : Nat) (st : S2) (hst : st.ok) (hat : at' < s.size) (hKB : B ≤ K) (hTl : T.length ≤ s.size) (w : World) (hKW : K ≤ w.heap.size) (hI : CutI B K w c r lx lb t p room mb D s l dn f v T fr at' st) :
    Calls Tryd.prog 25 #[.pointer (some ⟨c, 0, none⟩)] w fun e w' => ∃ l' dn' f' v', e = .returned (.tuple #[]) ∧ CutI B K w' c r lx lb t p room mb D s l' dn' f' v' (stepR D s ⟨T, fr, at', st⟩).tk (stepR D s ⟨T, fr, at', st⟩).fr (stepR D s ⟨T, fr, at', st⟩).at' (stepR D s ⟨T, fr, at', st⟩).st ∧ Turn (cutS t mb l c v) w w' ∧ Fresh l l' w ∧ Moved w v v' := by
  have c0 := hI.run.cell 0
  have c2 := hI.run.cell 2
  have c3 := hI.run.cell 3
  have c4 := hI.run.cell 4
  have c5 := hI.run.cell 5
  have cf := hI.run.fz
  simp only [List.getElem?_toArray, List.getElem?_cons_succ, List.getElem?_cons_zero] at c0 c2 c3 c4 c5
  have mixed : Tryd.prog.follows .mixedOrders = true := by kernel_rfl
  have HR : Hid (stepR D s ⟨T, fr, at', st⟩ = stepR2 D s T fr at' (if (if at' = fr then firstN D else st).meets (leadN D s at') = true then stepN D (if at' = fr then firstN D else st).1 (byteN s at') else (0, 0))) := rfl
  generalize stepR D s ⟨T, fr, at', st⟩ = RES at *
  go_enter Tryd.func25, Tryd.ntmps25
  go_wp2_with fail
  go_quiet (fail)
  have hI1 := hI.below (w' := w.drewN nq) ⟨rfl, rfl, rfl, Nat.le_refl _, fun _ _ => rfl⟩
  have hT1 : Turn (cutS t mb l c v) w (w.drewN nq) := (Turn.refl _ w).below (B := w.heap.size) ⟨rfl, rfl, rfl, Nat.le_refl _, fun _ _ => rfl⟩ (Nat.le_refl _)
  clear c0 c2 c3 c4 c5 cf
  generalize w.drewN nq = W1 at *
  go_upto_if 10 with fail
  go_cut [] from 2 to 24 (fun wx => ∃ l' dn' f', CutI B K wx c r lx lb t p room mb D s l' dn' f' v T fr at' (if at' = fr then firstN D else st) ∧ Turn (cutS t mb l c v) w wx ∧ Fresh l l' w)
  case first =>
    by_cases hf : at' = fr
    · have hbI : ((at' : Int) == (fr : Int)) = true := by simp [hf]
      have HF := hid hf
      clear hf
      have c0 := hI1.run.cell 0
      have x1 : W1.cell? ⟨lx, 1, none⟩ = some (.pointer (some ⟨t, 0, none⟩)) := by have h : W1.heap[lx]? = _ := hI1.lx'; simp [World.cell?, h]
      have r0 := hI1.rd.c0
      simp only [List.getElem?_toArray, List.getElem?_cons_zero] at c0
      go_wp2_with fail
      refine (tfirst_any B D hD t p room dn f mb l W1 hI1.tb hI1.fs).mono ?_
      rintro e w2 ⟨l', rfl, hI2, hT2, hn2⟩
      have hC2 := hI1.asked hI2 (Or.inr ⟨rfl, rfl⟩) hT2
      have hC3 := hC2.setSt (firstN D)
      have d4 := hC2.run.cell 4
      have d5 := hC2.run.cell 5
      have df := hC2.run.fz
      simp only [List.getElem?_toArray, List.getElem?_cons_succ, List.getElem?_cons_zero] at d4 d5
      have hT3 := (((hT1.trans (hT2.mono (fun j _ e => Or.inl e))).setCell ⟨c, 4, none⟩ (fun _ => Or.inr (Or.inl rfl)) (.int .u64 ((firstN D).1 : Int))).setCell ⟨c, 5, none⟩ (fun _ => Or.inr (Or.inl rfl)) (.int .u64 ((firstN D).2 : Int)))
      go_wp2_with fail
      go_meet
      exact ⟨l', 1, firstN D, by rw [if_pos HF.out]; exact hC3, hT3, fun x hx => (hn2 x hx).imp id (fun h => Nat.le_trans hT1.size h)⟩
    · have hbI : ((at' : Int) == (fr : Int)) = false := by simp; omega
      go_wp2_with fail
      go_meet
      exact ⟨l, dn, f, by rw [if_neg hf]; exact hI1, hT1, Fresh.refl l w⟩
  case rest =>
    obtain ⟨l1, dn1, f1, hC, hTc, hFc⟩ := hcut
    have hs1 : (if at' = fr then firstN D else st).ok := by
      split
      · exact firstL_ok hD.bg
      · exact hst
    generalize (if at' = fr then firstN D else st) = s1 at *
    clear hI hI1 hT1
    have hatI : (at' : Int) < (s.size : Int) + 1 := by omega
    have hlk : (leadN D s at').ok := leadK_ok D s _
    have kk : ∀ W', Below wc.heap.size wc W' → CutI B K W' c r lx lb t p room mb D s l1 dn1 f1 v T fr at' s1 := fun W' h => hC.below h
    have k0 : ∀ W', Below wc.heap.size wc W' → W'.cell? ⟨c, 0, none⟩ = some (.pointer (some ⟨r, 0, none⟩)) := fun W' h => (kk W' h).run.cell 0
    have k3 : ∀ W', Below wc.heap.size wc W' → W'.cell? ⟨c, 3, none⟩ = some (.int .i64 (at' : Int)) := fun W' h => (kk W' h).run.cell 3
    have k4 : ∀ W', Below wc.heap.size wc W' → W'.cell? ⟨c, 4, none⟩ = some (.int .u64 (s1.1 : Int)) := fun W' h => (kk W' h).run.cell 4
    have k5 : ∀ W', Below wc.heap.size wc W' → W'.cell? ⟨c, 5, none⟩ = some (.int .u64 (s1.2 : Int)) := fun W' h => (kk W' h).run.cell 5
    have kr : ∀ W', Below wc.heap.size wc W' → W'.cell? ⟨r, 2, none⟩ = some (.slice (some ⟨lb, 0, none⟩) (s.size + 1) (s.size + 1)) := fun W' h => (kk W' h).rd.c2
    have kl : ∀ W', Below wc.heap.size wc W' → W'.cell? ⟨lb, at' * 2, none⟩ = some (.int .u64 ((leadN D s at').1 : Int)) ∧ W'.cell? ⟨lb, at' * 2 + 1, none⟩ = some (.int .u64 ((leadN D s at').2 : Int)) := fun W' h => (kk W' h).ld.cells (by omega)
    go_wp2_with fail
    refine (wpIn_wide (n := 5)).1 (region_quiet (C := fun W' => Below wc.heap.size wc W') (by kernel_rfl) mixed (by kernel_rfl) ((Below.refl _ _).drew) ?_)
    refine wpQuietIn_step (fun _ _ _ _ => trivial) (fun K hK => ?_)
    go_simp
    refine ⟨_, fun _ _ => rfl, hK _ ?_⟩
    clear hK K
    refine wpQuietIn_step (fun _ _ _ _ => trivial) (fun K hK => ?_)
    go_simp
    refine ⟨_, fun _ _ => rfl, hK _ ?_⟩
    clear hK K
    refine wpQuietIn_step (fun _ _ _ _ => trivial) (fun K hK => ?_)
    go_simp
    refine ⟨_, fun _ _ => rfl, hK _ ?_⟩
    clear hK K
    refine wpQuietIn_step (fun _ _ _ _ => trivial) (fun K hK => ?_)
    go_simp
    refine ⟨.agg #[.int .u64 (s1.1 : Int), .int .u64 (s1.2 : Int)], fun w' hC => by simp [k4 w' hC, k5 w' hC], hK _ ?_⟩
    clear hK K
    refine wpQuietIn_step (fun _ _ _ _ => trivial) (fun K hK => ?_)
    go_simp
    refine ⟨_, fun _ _ => rfl, hK _ ?_⟩
    clear hK K
    refine wpQuietIn_step (fun _ _ _ _ => trivial) (fun K hK => ?_)
    go_simp
    refine ⟨_, fun _ _ => rfl, hK _ ?_⟩
    clear hK K
    refine wpQuietIn_step (fun _ _ _ _ => trivial) (fun K hK => ?_)
    go_simp
    refine ⟨_, fun _ _ => rfl, hK _ ?_⟩
    clear hK K
    refine wpQuietIn_step (fun _ _ _ _ => trivial) (fun K hK => ?_)
    go_simp
    refine ⟨.pointer (some ⟨r, 0, none⟩), fun w' hC => by simp [k0 w' hC], hK _ ?_⟩
    clear hK K
    refine wpQuietIn_step (fun _ _ _ _ => trivial) (fun K hK => ?_)
    go_simp
    refine ⟨_, fun _ _ => rfl, hK _ ?_⟩
    clear hK K
    refine wpQuietIn_step (fun _ _ _ _ => trivial) (fun K hK => ?_)
    go_simp
    refine ⟨_, fun _ _ => rfl, hK _ ?_⟩
    clear hK K
    refine wpQuietIn_step (fun _ _ _ _ => trivial) (fun K hK => ?_)
    go_simp
    refine ⟨.slice (some ⟨lb, 0, none⟩) (s.size + 1) (s.size + 1), fun w' hC => by simp [kr w' hC], hK _ ?_⟩
    clear hK K
    refine wpQuietIn_step (fun _ _ _ _ => trivial) (fun K hK => ?_)
    go_simp
    refine ⟨_, fun _ _ => rfl, hK _ ?_⟩
    clear hK K
    refine wpQuietIn_step (fun _ _ _ _ => trivial) (fun K hK => ?_)
    go_simp
    refine ⟨_, fun _ _ => rfl, hK _ ?_⟩
    clear hK K
    refine wpQuietIn_step (fun _ _ _ _ => trivial) (fun K hK => ?_)
    go_simp
    refine ⟨_, fun _ _ => rfl, hK _ ?_⟩
    clear hK K
    refine wpQuietIn_step (fun _ _ _ _ => trivial) (fun K hK => ?_)
    go_simp
    refine ⟨.int .i64 (at' : Int), fun w' hC => by simp [k3 w' hC], hK _ ?_⟩
    clear hK K
    refine wpQuietIn_step (fun _ _ _ _ => trivial) (fun K hK => ?_)
    go_simp
    refine ⟨_, fun _ _ => rfl, hK _ ?_⟩
    clear hK K
    refine wpQuietIn_step (fun _ _ _ _ => trivial) (fun K hK => ?_)
    go_simp
    refine ⟨.agg #[.int .u64 ((leadN D s at').1 : Int), .int .u64 ((leadN D s at').2 : Int)], fun w' hC => by simp [(kl w' hC).1, (kl w' hC).2], hK _ ?_⟩
    clear hK K
    refine wpQuietIn_step (fun _ _ _ _ => trivial) (fun K hK => ?_)
    go_simp
    refine ⟨_, fun w' hC => (callsIn_wide.2 (meets_nat s1 (leadN D s at') hs1 hlk w')).mono (fun e w'' hx => ⟨hx.1, hC.trans (hx.2.mono hC.size)⟩), hK _ ?_⟩
    clear hK K
    refine wpQuietIn_nil ?_
    intro W2 hB2
    have hC2 := kk W2 hB2
    have hT2 := hTc.below hB2 hTc.size
    clear kk k0 k3 k4 k5 kr kl hB2 hC hTc
    go_upto_if 42 with fail
    go_cut [] from 2 to 76 (fun wx => ∃ l2 dn2 f2, CutI B K wx c r lx lb t p room mb D s l2 dn2 f2 v T fr at' (if s1.meets (leadN D s at') = true then stepN D s1.1 (byteN s at') else (0, 0)) ∧ Turn (cutS t mb l c v) w wx ∧ Fresh l l2 w)
    case first =>
      have c0 := hC2.run.cell 0
      have c3 := hC2.run.cell 3
      have c4 := hC2.run.cell 4
      have c5 := hC2.run.cell 5
      have cf := hC2.run.fz
      simp only [List.getElem?_toArray, List.getElem?_cons_succ, List.getElem?_cons_zero] at c0 c3 c4 c5
      cases hm : s1.meets (leadN D s at') with
      | true =>
        have hsb := byteN_lt s at'
        have HBY := hid (byteN_at hat)
        have x1 : W2.cell? ⟨lx, 1, none⟩ = some (.pointer (some ⟨t, 0, none⟩)) := by have h : W2.heap[lx]? = _ := hC2.lx'; simp [World.cell?, h]
        have r0 := hC2.rd.c0
        have r1 := hC2.rd.c1
        have hatI2 : (at' : Int) < (s.size : Int) := by omega
        go_wp2_with fail
        clear c0 c3 c4 c5 cf x1 r0 r1
        have k0 : ∀ W', StC B K c r lx lb t p room mb D s l dn1 f1 v T fr at' s1 w W' → W'.cell? ⟨c, 0, none⟩ = some (.pointer (some ⟨r, 0, none⟩)) := fun W' h => (StC.run h).cell 0
        have k3 : ∀ W', StC B K c r lx lb t p room mb D s l dn1 f1 v T fr at' s1 w W' → W'.cell? ⟨c, 3, none⟩ = some (.int .i64 (at' : Int)) := fun W' h => (StC.run h).cell 3
        have k4 : ∀ W', StC B K c r lx lb t p room mb D s l dn1 f1 v T fr at' s1 w W' → W'.cell? ⟨c, 4, none⟩ = some (.int .u64 (s1.1 : Int)) := fun W' h => (StC.run h).cell 4
        have k5 : ∀ W', StC B K c r lx lb t p room mb D s l dn1 f1 v T fr at' s1 w W' → W'.cell? ⟨c, 5, none⟩ = some (.int .u64 (s1.2 : Int)) := fun W' h => (StC.run h).cell 5
        have kx : ∀ W', StC B K c r lx lb t p room mb D s l dn1 f1 v T fr at' s1 w W' → W'.cell? ⟨lx, 1, none⟩ = some (.pointer (some ⟨t, 0, none⟩)) := fun W' h => by have h' : W'.heap[lx]? = _ := (StC.lx h); simp [World.cell?, h']
        have kr : ∀ W', StC B K c r lx lb t p room mb D s l dn1 f1 v T fr at' s1 w W' → W'.cell? ⟨r, 0, none⟩ = some (.pointer (some ⟨lx, 0, none⟩)) := fun W' h => (StC.rd h).c0
        have kt : ∀ W', StC B K c r lx lb t p room mb D s l dn1 f1 v T fr at' s1 w W' → W'.cell? ⟨r, 1, none⟩ = some (.string s) := fun W' h => (StC.rd h).c1
        have hS0 : StC B K c r lx lb t p room mb D s l dn1 f1 v T fr at' s1 w W2.drew := ⟨l1, hC2.below (Below.refl _ _).drew, hT2.drew, hFc⟩
        refine (wpIn_wide (n := 5)).1 (region_tail (C := StC B K c r lx lb t p room mb D s l dn1 f1 v T fr at' s1 w) 30 (by kernel_rfl) mixed (by kernel_rfl) hS0 rfl ?_)
        dsimp only [List.take]
        refine wpQuietIn_step (fun _ _ _ _ => trivial) (fun K hK => ?_)
        go_simp
        refine ⟨_, fun _ _ => rfl, hK _ ?_⟩
        clear hK K
        refine wpQuietIn_step (fun _ _ _ _ => trivial) (fun K hK => ?_)
        go_simp
        refine ⟨_, fun _ _ => rfl, hK _ ?_⟩
        clear hK K
        refine wpQuietIn_step (fun _ _ _ _ => trivial) (fun K hK => ?_)
        go_simp
        refine ⟨_, fun _ _ => rfl, hK _ ?_⟩
        clear hK K
        refine wpQuietIn_step (fun _ _ _ _ => trivial) (fun K hK => ?_)
        go_simp
        refine ⟨_, fun _ _ => rfl, hK _ ?_⟩
        clear hK K
        refine wpQuietIn_step (fun _ _ _ _ => trivial) (fun K hK => ?_)
        go_simp
        refine ⟨.pointer (some ⟨r, 0, none⟩), fun w' hC => by simp [k0 w' hC], hK _ ?_⟩
        clear hK K
        refine wpQuietIn_step (fun _ _ _ _ => trivial) (fun K hK => ?_)
        go_simp
        refine ⟨_, fun _ _ => rfl, hK _ ?_⟩
        clear hK K
        refine wpQuietIn_step (fun _ _ _ _ => trivial) (fun K hK => ?_)
        go_simp
        refine ⟨_, fun _ _ => rfl, hK _ ?_⟩
        clear hK K
        refine wpQuietIn_step (fun _ _ _ _ => trivial) (fun K hK => ?_)
        go_simp
        refine ⟨.pointer (some ⟨lx, 0, none⟩), fun w' hC => by simp [kr w' hC], hK _ ?_⟩
        clear hK K
        refine wpQuietIn_step (fun _ _ _ _ => trivial) (fun K hK => ?_)
        go_simp
        refine ⟨_, fun _ _ => rfl, hK _ ?_⟩
        clear hK K
        refine wpQuietIn_step (fun _ _ _ _ => trivial) (fun K hK => ?_)
        go_simp
        refine ⟨_, fun _ _ => rfl, hK _ ?_⟩
        clear hK K
        refine wpQuietIn_step (fun _ _ _ _ => trivial) (fun K hK => ?_)
        go_simp
        refine ⟨.pointer (some ⟨t, 0, none⟩), fun w' hC => by simp [kx w' hC], hK _ ?_⟩
        clear hK K
        refine wpQuietIn_step (fun _ _ _ _ => trivial) (fun K hK => ?_)
        go_simp
        refine ⟨_, fun _ _ => rfl, hK _ ?_⟩
        clear hK K
        refine wpQuietIn_step (fun _ _ _ _ => trivial) (fun K hK => ?_)
        go_simp
        refine ⟨_, fun _ _ => rfl, hK _ ?_⟩
        clear hK K
        refine wpQuietIn_step (fun _ _ _ _ => trivial) (fun K hK => ?_)
        go_simp
        refine ⟨_, fun _ _ => rfl, hK _ ?_⟩
        clear hK K
        refine wpQuietIn_step (fun _ _ _ _ => trivial) (fun K hK => ?_)
        go_simp
        refine ⟨.agg #[.int .u64 (s1.1 : Int), .int .u64 (s1.2 : Int)], fun w' hC => by simp [k4 w' hC, k5 w' hC], hK _ ?_⟩
        clear hK K
        refine wpQuietIn_step (fun _ _ _ _ => trivial) (fun K hK => ?_)
        go_simp
        refine ⟨_, fun _ _ => rfl, hK _ ?_⟩
        clear hK K
        refine wpQuietIn_step (fun _ _ _ _ => trivial) (fun K hK => ?_)
        go_simp
        refine ⟨_, fun _ _ => rfl, hK _ ?_⟩
        clear hK K
        refine wpQuietIn_step (fun _ _ _ _ => trivial) (fun K hK => ?_)
        go_simp
        refine ⟨_, fun _ _ => rfl, hK _ ?_⟩
        clear hK K
        refine wpQuietIn_step (fun _ _ _ _ => trivial) (fun K hK => ?_)
        go_simp
        refine ⟨.pointer (some ⟨r, 0, none⟩), fun w' hC => by simp [k0 w' hC], hK _ ?_⟩
        clear hK K
        refine wpQuietIn_step (fun _ _ _ _ => trivial) (fun K hK => ?_)
        go_simp
        refine ⟨_, fun _ _ => rfl, hK _ ?_⟩
        clear hK K
        refine wpQuietIn_step (fun _ _ _ _ => trivial) (fun K hK => ?_)
        go_simp
        refine ⟨_, fun _ _ => rfl, hK _ ?_⟩
        clear hK K
        refine wpQuietIn_step (fun _ _ _ _ => trivial) (fun K hK => ?_)
        go_simp
        refine ⟨.string s, fun w' hC => by simp [kt w' hC], hK _ ?_⟩
        clear hK K
        refine wpQuietIn_step (fun _ _ _ _ => trivial) (fun K hK => ?_)
        go_simp
        refine ⟨_, fun _ _ => rfl, hK _ ?_⟩
        clear hK K
        refine wpQuietIn_step (fun _ _ _ _ => trivial) (fun K hK => ?_)
        go_simp
        refine ⟨_, fun _ _ => rfl, hK _ ?_⟩
        clear hK K
        refine wpQuietIn_step (fun _ _ _ _ => trivial) (fun K hK => ?_)
        go_simp
        refine ⟨_, fun _ _ => rfl, hK _ ?_⟩
        clear hK K
        refine wpQuietIn_step (fun _ _ _ _ => trivial) (fun K hK => ?_)
        go_simp
        refine ⟨.int .i64 (at' : Int), fun w' hC => by simp [k3 w' hC], hK _ ?_⟩
        clear hK K
        refine wpQuietIn_step (fun _ _ _ _ => trivial) (fun K hK => ?_)
        go_simp
        refine ⟨.int .u8 (byteN s at' : Int), fun w' hC => by first | (simp [HBY.out]; done) | (rw [← HBY.out]; simp) | (rw [← HBY.out]), hK _ ?_⟩
        clear hK K
        refine wpQuietIn_step (fun _ _ _ _ => trivial) (fun K hK => ?_)
        go_simp
        refine ⟨_, fun w' hC => (callsIn_wide.2 (StC.step hD hs1 hsb hC)).mono (fun e w'' hx => hx), hK _ ?_⟩
        clear hK K
        refine wpQuietIn_step (fun _ _ _ _ => trivial) (fun K hK => ?_)
        go_simp
        refine ⟨_, fun _ _ => rfl, hK _ ?_⟩
        clear hK K
        refine wpQuietIn_step (fun _ _ _ _ => trivial) (fun K hK => ?_)
        go_simp
        refine ⟨_, fun _ _ => rfl, hK _ ?_⟩
        clear hK K
        refine wpQuietIn_nil ?_
        rintro w3 ⟨l2, hC3, hT3, hF3⟩
        have d4 := hC3.run.cell 4
        have d5 := hC3.run.cell 5
        have df := hC3.run.fz
        simp only [List.getElem?_toArray, List.getElem?_cons_succ, List.getElem?_cons_zero] at d4 d5
        clear k0 k3 k4 k5 kx kr kt hS0
        rw [wpOpsIn_cons]
        refine wpOpIn_step rfl (fun K hK => ?_)
        go_simp
        refine hK _ _ ?_
        clear hK K
        simp only [wpOpsIn]
        have hC4 := hC3.setSt (stepN D s1.1 (byteN s at'))
        have hT4 := ((hT3.setCell ⟨c, 4, none⟩ (fun _ => Or.inr (Or.inl rfl)) (.int .u64 ((stepN D s1.1 (byteN s at')).1 : Int))).setCell ⟨c, 5, none⟩ (fun _ => Or.inr (Or.inl rfl)) (.int .u64 ((stepN D s1.1 (byteN s at')).2 : Int)))
        go_wp2_with fail
        go_meet
        exact ⟨l2, dn1, f1, by rw [if_pos hm]; exact hC4, hT4, hF3⟩
      | false =>
        have hC3 := hC2.setSt (0, 0)
        have hT3 := ((hT2.setCell ⟨c, 4, none⟩ (fun _ => Or.inr (Or.inl rfl)) (.int .u64 ((0 : Nat) : Int))).setCell ⟨c, 5, none⟩ (fun _ => Or.inr (Or.inl rfl)) (.int .u64 ((0 : Nat) : Int)))
        go_wp2_with fail
        go_meet
        exact ⟨l1, dn1, f1, by rw [hm, if_neg Bool.false_ne_true]; exact hC3, hT3, hFc⟩
    case rest =>
      obtain ⟨l3, dn3, f3, hC3, hT3, hF3⟩ := hcut
      have hs2 : (if s1.meets (leadN D s at') = true then stepN D s1.1 (byteN s at') else (0, 0)).ok := by
        split
        · exact stepL_ok D hD _ _
        · exact S2.zero_ok
      generalize (if s1.meets (leadN D s at') = true then stepN D s1.1 (byteN s at') else (0, 0)) = s2 at *
      clear hC2 hT2
      have c3 := hC3.run.cell 3
      have cf := hC3.run.fz
      simp only [List.getElem?_toArray, List.getElem?_cons_succ, List.getElem?_cons_zero] at c3
      have hadd : IntKind.i64.wrap ((at' : Int) + 1) = (at' : Int) + 1 := by rw [IntKind.wrap_i64]; omega
      have hC4 : CutI B K (wc.setCell ⟨c, 3, none⟩ (.int .i64 ((at' : Int) + 1))) c r lx lb t p room mb D s l3 dn3 f3 v T fr (at' + 1) s2 := by
        have h := hC3.setAt (at' + 1)
        rw [show ((at' + 1 : Nat) : Int) = (at' : Int) + 1 by omega] at h
        exact h
      have hT4 := hT3.setCell ⟨c, 3, none⟩ (fun _ => Or.inr (Or.inl rfl)) (.int .i64 ((at' : Int) + 1))
      go_wp2_with fail
      clear c3 cf hC3 hT3
      generalize wc.setCell ⟨c, 3, none⟩ (.int .i64 ((at' : Int) + 1)) = W4 at *
      have hat2 : (at' : Int) + 1 < (s.size : Int) + 1 := by omega
      have hlk2 : (leadN D s (at' + 1)).ok := leadK_ok D s _
      have hnot : ∀ (x : Bool) (w : World), (Op.unary .not (.bool x)).run Tryd.prog w = .ok (.bool (!x)) w := fun _ _ => rfl
      have kk : ∀ W', Below W4.heap.size W4 W' → CutI B K W' c r lx lb t p room mb D s l3 dn3 f3 v T fr (at' + 1) s2 := fun W' h => hC4.below h
      have k0 : ∀ W', Below W4.heap.size W4 W' → W'.cell? ⟨c, 0, none⟩ = some (.pointer (some ⟨r, 0, none⟩)) := fun W' h => (kk W' h).run.cell 0
      have k3 : ∀ W', Below W4.heap.size W4 W' → W'.cell? ⟨c, 3, none⟩ = some (.int .i64 ((at' : Int) + 1)) := fun W' h => (kk W' h).run.cell 3
      have k4 : ∀ W', Below W4.heap.size W4 W' → W'.cell? ⟨c, 4, none⟩ = some (.int .u64 (s2.1 : Int)) := fun W' h => (kk W' h).run.cell 4
      have k5 : ∀ W', Below W4.heap.size W4 W' → W'.cell? ⟨c, 5, none⟩ = some (.int .u64 (s2.2 : Int)) := fun W' h => (kk W' h).run.cell 5
      have kr : ∀ W', Below W4.heap.size W4 W' → W'.cell? ⟨r, 2, none⟩ = some (.slice (some ⟨lb, 0, none⟩) (s.size + 1) (s.size + 1)) := fun W' h => (kk W' h).rd.c2
      have kl : ∀ W', Below W4.heap.size W4 W' → W'.cell? ⟨lb, (at' + 1) * 2, none⟩ = some (.int .u64 ((leadN D s (at' + 1)).1 : Int)) ∧ W'.cell? ⟨lb, (at' + 1) * 2 + 1, none⟩ = some (.int .u64 ((leadN D s (at' + 1)).2 : Int)) := fun W' h => (kk W' h).ld.cells (by omega)
      have htn : ((at' : Int) + 1).toNat = at' + 1 := by omega
      have hat0 : (0 : Int) ≤ (at' : Int) + 1 := by omega
      refine (wpIn_wide (n := 5)).1 (region_quiet (C := fun W' => Below W4.heap.size W4 W') (by kernel_rfl) mixed (by kernel_rfl) ((Below.refl _ _).drew) ?_)
      refine wpQuietIn_step (fun _ _ _ _ => trivial) (fun K hK => ?_)
      go_simp
      refine ⟨_, fun _ _ => rfl, hK _ ?_⟩
      clear hK K
      refine wpQuietIn_step (fun _ _ _ _ => trivial) (fun K hK => ?_)
      go_simp
      refine ⟨_, fun _ _ => rfl, hK _ ?_⟩
      clear hK K
      refine wpQuietIn_step (fun _ _ _ _ => trivial) (fun K hK => ?_)
      go_simp
      refine ⟨_, fun _ _ => rfl, hK _ ?_⟩
      clear hK K
      refine wpQuietIn_step (fun _ _ _ _ => trivial) (fun K hK => ?_)
      go_simp
      refine ⟨.agg #[.int .u64 (s2.1 : Int), .int .u64 (s2.2 : Int)], fun w' hC => by simp [k4 w' hC, k5 w' hC], hK _ ?_⟩
      clear hK K
      refine wpQuietIn_step (fun _ _ _ _ => trivial) (fun K hK => ?_)
      go_simp
      refine ⟨_, fun _ _ => rfl, hK _ ?_⟩
      clear hK K
      refine wpQuietIn_step (fun _ _ _ _ => trivial) (fun K hK => ?_)
      go_simp
      refine ⟨_, fun _ _ => rfl, hK _ ?_⟩
      clear hK K
      refine wpQuietIn_step (fun _ _ _ _ => trivial) (fun K hK => ?_)
      go_simp
      refine ⟨_, fun _ _ => rfl, hK _ ?_⟩
      clear hK K
      refine wpQuietIn_step (fun _ _ _ _ => trivial) (fun K hK => ?_)
      go_simp
      refine ⟨.pointer (some ⟨r, 0, none⟩), fun w' hC => by simp [k0 w' hC], hK _ ?_⟩
      clear hK K
      refine wpQuietIn_step (fun _ _ _ _ => trivial) (fun K hK => ?_)
      go_simp
      refine ⟨_, fun _ _ => rfl, hK _ ?_⟩
      clear hK K
      refine wpQuietIn_step (fun _ _ _ _ => trivial) (fun K hK => ?_)
      go_simp
      refine ⟨_, fun _ _ => rfl, hK _ ?_⟩
      clear hK K
      refine wpQuietIn_step (fun _ _ _ _ => trivial) (fun K hK => ?_)
      go_simp
      refine ⟨.slice (some ⟨lb, 0, none⟩) (s.size + 1) (s.size + 1), fun w' hC => by simp [kr w' hC], hK _ ?_⟩
      clear hK K
      refine wpQuietIn_step (fun _ _ _ _ => trivial) (fun K hK => ?_)
      go_simp
      refine ⟨_, fun _ _ => rfl, hK _ ?_⟩
      clear hK K
      refine wpQuietIn_step (fun _ _ _ _ => trivial) (fun K hK => ?_)
      go_simp
      refine ⟨_, fun _ _ => rfl, hK _ ?_⟩
      clear hK K
      refine wpQuietIn_step (fun _ _ _ _ => trivial) (fun K hK => ?_)
      go_simp
      refine ⟨_, fun _ _ => rfl, hK _ ?_⟩
      clear hK K
      refine wpQuietIn_step (fun _ _ _ _ => trivial) (fun K hK => ?_)
      go_simp
      refine ⟨.int .i64 ((at' : Int) + 1), fun w' hC => by simp [k3 w' hC], hK _ ?_⟩
      clear hK K
      refine wpQuietIn_step (fun _ _ _ _ => trivial) (fun K hK => ?_)
      go_simp
      refine ⟨_, fun _ _ => rfl, hK _ ?_⟩
      clear hK K
      refine wpQuietIn_step (fun _ _ _ _ => trivial) (fun K hK => ?_)
      go_simp
      refine ⟨.agg #[.int .u64 ((leadN D s (at' + 1)).1 : Int), .int .u64 ((leadN D s (at' + 1)).2 : Int)], fun w' hC => by simp [(kl w' hC).1, (kl w' hC).2], hK _ ?_⟩
      clear hK K
      refine wpQuietIn_step (fun _ _ _ _ => trivial) (fun K hK => ?_)
      go_simp
      refine ⟨_, fun w' hC => (callsIn_wide.2 (meets_nat s2 (leadN D s (at' + 1)) hs2 hlk2 w')).mono (fun e w'' hx => ⟨hx.1, hC.trans (hx.2.mono hC.size)⟩), hK _ ?_⟩
      clear hK K
      refine wpQuietIn_step (fun _ _ _ _ => trivial) (fun K hK => ?_)
      go_simp
      refine ⟨_, fun _ _ => rfl, hK _ ?_⟩
      clear hK K
      refine wpQuietIn_nil ?_
      intro W5 hB5
      have hC5 := kk W5 hB5
      have hT5 := hT4.below hB5 hT4.size
      clear kk k0 k3 k4 k5 kr kl hB5 hC4 hT4
      cases hm : s2.meets (leadN D s (at' + 1)) with
      | true =>
        have hE : RES = ⟨T, fr, at' + 1, s2⟩ := by rw [HR.out]; unfold stepR2; rw [if_pos hm]
        have HE := hid hE
        clear hE
        go_wp2_with fail
        go_end0
        rw [HE.out]
        first | exact ⟨l3, dn3, f3, v, rfl, hC5, hT5, hF3, Moved.refl _ _⟩ | exact ⟨rfl, l3, dn3, f3, v, hC5, hT5, hF3, Moved.refl _ _⟩
      | false =>
        have hE : RES = ⟨T ++ [⟨ruleN s2, fr, at' + 1⟩], at' + 1, at' + 1, s2⟩ := by rw [HR.out]; unfold stepR2; rw [if_neg (by rw [hm]; exact Bool.false_ne_true)]
        have HE := hid hE
        clear hE HR
        go_wp2_with fail
        go_cut [] from 2 to 125 (fun wx => ∃ v', CutI B K wx c r lx lb t p room mb D s l3 dn3 f3 v' (T ++ [⟨ruleN s2, fr, at' + 1⟩]) fr (at' + 1) s2 ∧ Turn (cutS t mb l c v) w wx ∧ Moved w v v')
        case first =>
          obtain ⟨i0, hi0, hz0, hz1, hz2⟩ := info_parts Tryd.info30
          have hdr : Below W5.heap.size W5 W5.drew := (Below.refl _ _).drew
          have hCd := hC5.below hdr
          have hTd := hT5.below hdr hT5.size
          have hszd : w.heap.size ≤ W5.drew.heap.size := hTd.size
          have HTI := hid hCd.ti
          have HCd := hid hCd
          have HTd := hid hTd
          have hlen1 : T.length + 1 ≤ maxLen := by unfold maxLen; omega
          have hlen2 : (T.length + 1) * 24 ≤ 140737488355328 := by omega
          have hone : ∀ u, u ∈ [Value.int .i64 (ruleN s2), Value.int .i64 (fr : Int), Value.int .i64 ((at' : Int) + 1)] → u.oneCell' = true := by intro u hu; simp at hu; rcases hu with rfl | rfl | rfl <;> rfl
          have k1 : ∀ W', RunB W' c r v fr (at' + 1) s2 → W'.cell? ⟨c, 1, none⟩ = some (v) := fun W' h => h.cell 1
          have k2 : ∀ W', RunB W' c r v fr (at' + 1) s2 → W'.cell? ⟨c, 2, none⟩ = some (.int .i64 (fr : Int)) := fun W' h => h.cell 2
          have k3 : ∀ W', RunB W' c r v fr (at' + 1) s2 → W'.cell? ⟨c, 3, none⟩ = some (.int .i64 ((at' : Int) + 1)) := fun W' h => h.cell 3
          have k4 : ∀ W', RunB W' c r v fr (at' + 1) s2 → W'.cell? ⟨c, 4, none⟩ = some (.int .u64 (s2.1 : Int)) := fun W' h => h.cell 4
          have k5 : ∀ W', RunB W' c r v fr (at' + 1) s2 → W'.cell? ⟨c, 5, none⟩ = some (.int .u64 (s2.2 : Int)) := fun W' h => h.cell 5
          have hRd := hCd.run
          clear hC5 hT5 hCd hTd hm hnot hlk2 hs1 hlk hatI hat2 htn hat0 hadd hdr HE hst hD hs hF3 hFc
          refine region_float (S := fun W' => RunB W' c r v fr (at' + 1) s2) 21 [0, 1, 2, 3, 4, 5, 6, 7, 8, 10, 11, 12, 13, 14, 15, 16, 17] [9, 18, 19, 20, 21, 22, 23] mixed (by kernel_rfl) hRd ?_
          refine lookL_step rfl rfl (fun J hJ => ?_)
          go_simp
          refine ⟨_, fun _ _ => rfl, hJ _ ?_⟩
          clear hJ J
          refine lookL_step rfl rfl (fun J hJ => ?_)
          go_simp
          refine ⟨_, fun _ _ => rfl, hJ _ ?_⟩
          clear hJ J
          refine lookL_step rfl rfl (fun J hJ => ?_)
          go_simp
          refine ⟨_, fun _ _ => rfl, hJ _ ?_⟩
          clear hJ J
          refine lookL_step rfl rfl (fun J hJ => ?_)
          go_simp
          refine ⟨_, fun _ _ => rfl, hJ _ ?_⟩
          clear hJ J
          refine lookL_step rfl rfl (fun J hJ => ?_)
          go_simp
          refine ⟨v, fun w' hS => by simp [k1 w' hS], hJ _ ?_⟩
          clear hJ J
          refine lookL_step rfl rfl (fun J hJ => ?_)
          go_simp
          refine ⟨_, fun _ _ => rfl, hJ _ ?_⟩
          clear hJ J
          refine lookL_step rfl rfl (fun J hJ => ?_)
          go_simp
          refine ⟨_, fun _ _ => rfl, hJ _ ?_⟩
          clear hJ J
          refine lookL_step rfl rfl (fun J hJ => ?_)
          go_simp
          refine ⟨_, fun _ _ => rfl, hJ _ ?_⟩
          clear hJ J
          refine lookL_step rfl rfl (fun J hJ => ?_)
          go_simp
          refine ⟨.agg #[.int .u64 (s2.1 : Int), .int .u64 (s2.2 : Int)], fun w' hS => by simp [k4 w' hS, k5 w' hS], hJ _ ?_⟩
          clear hJ J
          refine lookL_step rfl rfl (fun J hJ => ?_)
          go_simp
          refine ⟨_, fun _ _ => rfl, hJ _ ?_⟩
          clear hJ J
          refine lookL_step rfl rfl (fun J hJ => ?_)
          go_simp
          refine ⟨_, fun _ _ => rfl, hJ _ ?_⟩
          clear hJ J
          refine lookL_step rfl rfl (fun J hJ => ?_)
          go_simp
          refine ⟨_, fun _ _ => rfl, hJ _ ?_⟩
          clear hJ J
          refine lookL_step rfl rfl (fun J hJ => ?_)
          go_simp
          refine ⟨.int .i64 (fr : Int), fun w' hS => by simp [k2 w' hS], hJ _ ?_⟩
          clear hJ J
          refine lookL_step rfl rfl (fun J hJ => ?_)
          go_simp
          refine ⟨_, fun _ _ => rfl, hJ _ ?_⟩
          clear hJ J
          refine lookL_step rfl rfl (fun J hJ => ?_)
          go_simp
          refine ⟨_, fun _ _ => rfl, hJ _ ?_⟩
          clear hJ J
          refine lookL_step rfl rfl (fun J hJ => ?_)
          go_simp
          refine ⟨_, fun _ _ => rfl, hJ _ ?_⟩
          clear hJ J
          refine lookL_step rfl rfl (fun J hJ => ?_)
          go_simp
          refine ⟨.int .i64 ((at' : Int) + 1), fun w' hS => by simp [k3 w' hS], hJ _ ?_⟩
          clear hJ J
          clear k1 k2 k3 k4 k5
          refine lookL_then ?_
          refine thenL_step rfl (fun J hJ => ?_)
          go_simp
          go_at_call 39
          refine (rule_any s2 hs2 _ HTI.out).mono ?_
          rintro e w3 ⟨rfl, hB3⟩
          have HC6 := hid (HCd.out.below hB3)
          have HT6 := hid (HTd.out.below hB3 hszd)
          refine hJ _ _ (fun _ => HC6.out.run) ?_
          clear hJ J HCd HTd HTI hB3 hRd
          refine thenL_step rfl (fun J hJ => ?_)
          go_simp
          refine hJ _ _ (fun _ => HC6.out.run) ?_
          clear hJ J
          have HC7 := hid (HC6.out.below ((Below.refl _ _).alloc (Nat.le_refl _) (.cells #[.int .i64 (ruleN s2), .int .i64 (fr : Int), .int .i64 ((at' : Int) + 1)] 30)))
          have HT7 := hid (HT6.out.alloc (.cells #[.int .i64 (ruleN s2), .int .i64 (fr : Int), .int .i64 ((at' : Int) + 1)] 30))
          have HK7 : K ≤ (w3.alloc (.cells #[.int .i64 (ruleN s2), .int .i64 (fr : Int), .int .i64 ((at' : Int) + 1)] 30)).heap.size := Nat.le_trans hKW HT7.out.size
          refine thenL_step rfl (fun J hJ => ?_)
          go_simp
          refine hJ _ _ (fun _ => HC7.out.run) ?_
          clear hJ J HC6 HT6
          refine thenL_step rfl (fun J hJ => ?_)
          refine step_append_own_at rfl (.tmp 107) (.tmp 122) 27 rfl K 30 i0 _ 3 24 Tryd.underlying27 hi0 hz0 hz1 hz2 rfl (by decide) v T.length (tokCells T) rfl HC7.out.tk ⟨w3.heap.size, 0, none⟩ 1 1 [Value.int .i64 (ruleN s2), Value.int .i64 (fr : Int), Value.int .i64 ((at' : Int) + 1)] rfl rfl (three_cells rfl) hone hlen1 hlen2 HK7 ?_
          intro v' w6 hown6 hg6 hat6
          refine hJ _ _ (fun _ => HC7.out.grown1 hg6) ?_
          clear hJ J
          have q1 := (HC7.out.grown1 hg6).cell 1
          have q2 := (HC7.out.grown1 hg6).fz
          simp only [List.getElem?_toArray, List.getElem?_cons_succ, List.getElem?_cons_zero] at q1
          have HP := hid (HC7.out.push hKB HK7 ⟨ruleN s2, fr, at' + 1⟩ hown6 hg6 hat6)
          have HT8 := hid ((HT7.out.grown hg6 (fun k e _ => Or.inr (Or.inr e))).setCell ⟨c, 1, none⟩ (fun _ => Or.inr (Or.inl rfl)) v')
          have HM : Hid (Moved w v v') := hat6.imp id (fun e => ⟨_, HT7.out.size, e⟩)
          obtain ⟨ad', cc', rfl⟩ := powns_shape hown6
          clear hown6 hg6 hat6 HK7 HC7 HT7
          refine thenL_step rfl (fun J hJ => ?_)
          go_simp
          refine hJ _ _ (fun h => absurd h (by decide)) ?_
          clear hJ J
          refine thenL_step rfl (fun J hJ => ?_)
          go_simp
          refine hJ _ _ (fun h => absurd h (by decide)) ?_
          clear hJ J
          refine thenL_step rfl (fun J hJ => ?_)
          go_simp
          refine hJ _ _ (fun h => absurd h (by decide)) ?_
          clear hJ J
          refine ⟨rfl, ?_⟩
          go_wp2_with fail
          go_meet
          exact ⟨_, HP.out, HT8.out, HM.out⟩
        case rest =>
          obtain ⟨v', hC6, hT6, hM6⟩ := hcut
          have c3 := hC6.run.cell 3
          have c2 := hC6.run.cell 2
          have cf := hC6.run.fz
          simp only [List.getElem?_toArray, List.getElem?_cons_succ, List.getElem?_cons_zero] at c2 c3
          have hC7 := hC6.setFr (at' + 1)
          have hT7 := hT6.setCell ⟨c, 2, none⟩ (fun _ => Or.inr (Or.inl rfl)) (.int .i64 ((at' + 1 : Nat) : Int))
          go_wp2_with fail
          go_end0
          rw [HE.out]
          first | exact ⟨l3, dn3, f3, v', rfl, hC7, hT7, hF3, hM6⟩ | exact ⟨rfl, l3, dn3, f3, v', hC7, hT7, hF3, hM6⟩
end Go.Proofs.YtjhmlcilabnlbaaDoor
/- The lexer: cut, Lex. -/
namespace Go.Proofs.YtjhmlcilabnlbaaDoor
open Go.RowKit Go.Shelf

attribute [local go_sem] Oper.semAt_some

theorem nextS_ok {D : PlD} (hD : D.ok) (s : ByteArray) (x : Rn) : (nextS D s x).ok := by
  unfold nextS
  simp only
  generalize (if x.at' = x.fr then firstN D else x.st) = s1
  split
  · exact stepL_ok D hD _ _
  · exact S2.zero_ok
theorem iterR_ok {D : PlD} (hD : D.ok) (s : ByteArray) : ∀ k, (iterR D s k rn0).st.ok
  | 0 => S2.zero_ok
  | k + 1 => by
    rw [iterR_succ, stepR_eq]
    split <;> exact nextS_ok hD s _
theorem iterR_len (D : PlD) (s : ByteArray) : ∀ k, (iterR D s k rn0).tk.length ≤ k
  | 0 => Nat.le_refl _
  | k + 1 => by
    have := iterR_len D s k
    rw [iterR_succ, stepR_eq]
    split
    · exact Nat.le_succ_of_le this
    · simp; exact this

theorem tok_base {w : World} {K K' : Nat} {v : Value} {T : List Tok} (h : w.ownsRow K 30 3 v T.length (tokCells T)) (hK : K' ≤ K) : w.ownsRow K' 30 3 v T.length (tokCells T) := by
  refine ⟨h.1, ?_⟩
  rcases h.2 with h0 | ⟨g, c, cur, hv, h1, h2⟩
  · exact .inl h0
  · exact .inr ⟨g, c, cur, hv, by omega, h2⟩
theorem tok_ge {w : World} {K : Nat} {v : Value} {T : List Tok} (h : w.ownsRow K 30 3 v T.length (tokCells T)) {g : Nat} (hg : v.ownBlock = some g) : K ≤ g := by
  rcases h.2 with ⟨e, -⟩ | ⟨g', cap, cur, e, h1, -⟩
  · rw [e] at hg; cases hg
  · rw [e] at hg; cases hg; exact h1
/-- A run's cells stored into a box. -/
def putRn (w : World) (g : Nat) (u0 u1 u2 u3 u4 u5 : Value) : World := (((((w.setCell ⟨g, 0, none⟩ u0).setCell ⟨g, 1, none⟩ u1).setCell ⟨g, 2, none⟩ u2).setCell ⟨g, 3, none⟩ u3).setCell ⟨g, 4, none⟩ u4).setCell ⟨g, 5, none⟩ u5
theorem putRn_other (w : World) (g : Nat) (u0 u1 u2 u3 u4 u5 : Value) {k : Nat} (hk : k ≠ g) : (putRn w g u0 u1 u2 u3 u4 u5).heap[k]? = w.heap[k]? :=
  (Below.heap_setCell _ _ _ _ hk).trans ((Below.heap_setCell _ _ _ _ hk).trans ((Below.heap_setCell _ _ _ _ hk).trans ((Below.heap_setCell _ _ _ _ hk).trans ((Below.heap_setCell _ _ _ _ hk).trans (Below.heap_setCell _ _ _ _ hk)))))
theorem putRn_at {w : World} {g : Nat} {a0 a1 a2 a3 a4 a5 : Value} {T : TypeId} {fz : Nat × Nat} (h : w.heap[g]? = some (.cells #[a0, a1, a2, a3, a4, a5] T fz)) (u0 u1 u2 u3 u4 u5 : Value) : (putRn w g u0 u1 u2 u3 u4 u5).heap[g]? = some (.cells #[u0, u1, u2, u3, u4, u5] T fz) := hset (hset (hset (hset (hset (hset h _) _) _) _) _) _
theorem putRn_turn {S : Nat → Prop} {a w : World} {g : Nat} (h : Turn S a w) (hg : a.heap.size ≤ g) (u0 u1 u2 u3 u4 u5 : Value) : Turn S a (putRn w g u0 u1 u2 u3 u4 u5) := by
  have n : ∀ i, (⟨g, i, none⟩ : Addr).block < a.heap.size → S (⟨g, i, none⟩ : Addr).block := fun i hi => absurd hi (by show ¬ g < a.heap.size; omega)
  exact (((((h.setCell ⟨g, 0, none⟩ (n 0) _).setCell ⟨g, 1, none⟩ (n 1) _).setCell ⟨g, 2, none⟩ (n 2) _).setCell ⟨g, 3, none⟩ (n 3) _).setCell ⟨g, 4, none⟩ (n 4) _).setCell ⟨g, 5, none⟩ (n 5) _

theorem putRn_below {B : Nat} {w : World} {g : Nat} (hg : B ≤ g) {u0 u1 u2 u3 u4 u5 : Value} : Below B w (putRn w g u0 u1 u2 u3 u4 u5) :=
  ((((((Below.refl B w).setCell (p := ⟨g, 0, none⟩) hg _).setCell (p := ⟨g, 1, none⟩) hg _).setCell (p := ⟨g, 2, none⟩) hg _).setCell (p := ⟨g, 3, none⟩) hg _).setCell (p := ⟨g, 4, none⟩) hg _).setCell (p := ⟨g, 5, none⟩) hg _
/-- What cut comes to. -/
def CutOut (B r t p room mb : Nat) (D : PlD) (s : ByteArray) (l : List (S2 × Nat)) (w : World) (e : Ending) (w' : World) : Prop :=
  ∃ (l' : List (S2 × Nat)) (dn' : Int) (f' : S2) (v : Value) (a b c d : Int), e = .returned (.agg #[.pointer (some ⟨r, 0, none⟩), v, .int .i64 a, .int .i64 b, .int .u64 c, .int .u64 d]) ∧ w'.ownsRow w.heap.size 30 3 v (lexN D s).length (tokCells (lexN D s)) ∧ TblI B w' t p room D dn' 0 f' 0 mb l' ∧ Firsts D dn' f' ∧ Turn (tbS t mb l) w w' ∧ Fresh l l' w

set_option maxRecDepth 100000 in
set_option maxHeartbeats 4000000 in
theorem cut_any (B : Nat) (hB1 : 1 ≤ B) (r lx lb t p room mb : Nat) (D : PlD) (hD : D.ok) (s : ByteArray) (hs : s.size ≤ 1048576) (l : List (S2 × Nat)) (dn : Int) (f : S2) (w : World)
    (hrd : RdB w r lx s lb) (hld : Led w lb s.size (leadN D s)) (hlx : LxB w lx p t) (htb : TblI B w t p room D dn 0 f 0 mb l) (hfs : Firsts D dn f) (hti : TabIn w) :
    Calls Tryd.prog 16 #[.pointer (some ⟨r, 0, none⟩), .int .i64 0, .int .i64 (s.size : Int)] w fun e w' => CutOut B r t p room mb D s l w e w' := by
  have htl := htb.tb.lt
  have hBw : B ≤ w.heap.size := by have := htb.gt; omega
  have hV : Below w.heap.size w ((w.alloc (.cells #[.pointer none, .slice none 0 0, .int .i64 0, .int .i64 0, .int .u64 0, .int .u64 0] 60)).alloc (.cells #[.pointer (some ⟨r, 0, none⟩), .slice none 0 0, .int .i64 0, .int .i64 0, .int .u64 0, .int .u64 0] 60)) := ((Below.refl _ w).alloc (Nat.le_refl _) _).alloc (by simp) _
  have v0 : ((w.alloc (.cells #[.pointer none, .slice none 0 0, .int .i64 0, .int .i64 0, .int .u64 0, .int .u64 0] 60)).alloc (.cells #[.pointer (some ⟨r, 0, none⟩), .slice none 0 0, .int .i64 0, .int .i64 0, .int .u64 0, .int .u64 0] 60)).heap[w.heap.size]? = some (.cells #[.pointer none, .slice none 0 0, .int .i64 0, .int .i64 0, .int .u64 0, .int .u64 0] 60 (0, 0)) := heap_alloc_old (heap_alloc_at _ _) (by simp)
  have v1 : ((w.alloc (.cells #[.pointer none, .slice none 0 0, .int .i64 0, .int .i64 0, .int .u64 0, .int .u64 0] 60)).alloc (.cells #[.pointer (some ⟨r, 0, none⟩), .slice none 0 0, .int .i64 0, .int .i64 0, .int .u64 0, .int .u64 0] 60)).heap[w.heap.size + 1]? = some (.cells #[.pointer (some ⟨r, 0, none⟩), .slice none 0 0, .int .i64 0, .int .i64 0, .int .u64 0, .int .u64 0] 60 (0, 0)) := by
    have h := heap_alloc_at (w.alloc (.cells #[.pointer none, .slice none 0 0, .int .i64 0, .int .i64 0, .int .u64 0, .int .u64 0] 60)) (.cells #[.pointer (some ⟨r, 0, none⟩), .slice none 0 0, .int .i64 0, .int .i64 0, .int .u64 0, .int .u64 0] 60)
    rw [World.size_alloc] at h
    exact h
  have hVs : ((w.alloc (.cells #[.pointer none, .slice none 0 0, .int .i64 0, .int .i64 0, .int .u64 0, .int .u64 0] 60)).alloc (.cells #[.pointer (some ⟨r, 0, none⟩), .slice none 0 0, .int .i64 0, .int .i64 0, .int .u64 0, .int .u64 0] 60)).heap.size = w.heap.size + 1 + 1 := by simp
  go_enter Tryd.func16, Tryd.ntmps16
  go_wp2_with fail
  generalize ((w.alloc (.cells #[.pointer none, .slice none 0 0, .int .i64 0, .int .i64 0, .int .u64 0, .int .u64 0] 60)).alloc (.cells #[.pointer (some ⟨r, 0, none⟩), .slice none 0 0, .int .i64 0, .int .i64 0, .int .u64 0, .int .u64 0] 60)) = V at *
  have hI0 : CutI B V.heap.size V (w.heap.size + 1) r lx lb t p room mb D s l dn f (.slice none 0 0) [] 0 0 (0, 0) :=
    ⟨v1, (hV.block _ hrd.lt).trans hrd, hld.keep (hV.block _ hld.lt), (hV.block _ (Array.getElem?_eq_some_iff.1 hlx).1).trans hlx, htb.below hV, hfs, World.ownsRow_nil _ _ _ _, hti.below hV (by omega), hB1, by omega⟩
  have ltS : ∀ k, w.heap.size ≤ k → ¬ tbS t mb l k := fun k hk h => by have := (htb.ltS h).2; omega
  clear v1
  go_loopg [16] s.size (fun gk _x wr => ∃ k l' dn' f' v, k + gk = s.size ∧ CutI B V.heap.size wr (w.heap.size + 1) r lx lb t p room mb D s l' dn' f' v (iterR D s k rn0).tk (iterR D s k rn0).fr (iterR D s k rn0).at' (iterR D s k rn0).st ∧ Turn (fun j => tbS t mb l j ∨ j = w.heap.size + 1) V wr ∧ Fresh l l' V)
  case atStart => exact ⟨0, l, dn, f, .slice none 0 0, by omega, hI0, Turn.refl _ _, Fresh.refl l V⟩
  case round =>
    obtain ⟨k, l', dn', f', v, hk, hI, hT, hF⟩ := hrel
    have hat : (iterR D s k rn0).at' = k := by rw [iterR_at]; show 0 + k = k; omega
    have hok := iterR_ok hD s k
    have hlen := iterR_len D s k
    have HSU := hid (iterR_succ D s k rn0)
    have HEN : Hid (k = s.size → iterR D s k rn0 = iterR D s s.size rn0) := fun e => by rw [e]
    generalize iterR D s k rn0 = x at *
    obtain ⟨T, fr, at', st⟩ := x
    dsimp only at hI hat hok hlen
    subst hat
    have c3 := hI.run.cell 3
    simp only [List.getElem?_toArray, List.getElem?_cons_succ, List.getElem?_cons_zero] at c3
    have htn := hT.size
    by_cases hlt : at' < s.size
    · have hltI : (at' : Int) < (s.size : Int) := by omega
      go_wp2_with fail
      refine (rstep_any B V.heap.size (w.heap.size + 1) r lx lb t p room mb D hD s hs l' dn' f' v T fr at' st hok hlt (by omega) (by omega) wr htn hI).mono ?_
      rintro e w2 ⟨l2, dn2, f2, v2, rfl, hI2, hT2, hF2, hM2⟩
      rw [← HSU.out] at hI2
      have hT3 : Turn (fun j => tbS t mb l j ∨ j = w.heap.size + 1) V w2 := hT.next hT2 (fun j hj e => by
        rcases e with e | e | e
        · exact Or.inl (tbS_fresh hF hj e)
        · exact Or.inr e
        · have := tok_ge hI.tk e; omega)
      go_wp2_with fail
      go_roundg (gk - 1)
      case measure => omega
      case rel => exact ⟨at' + 1, l2, dn2, f2, v2, by omega, hI2, hT3, hF.trans hF2 hT.size⟩
    · have hge : ¬ (at' : Int) < (s.size : Int) := by omega
      have hE := HEN.out (by omega)
      have HLX : Hid (lexN D s = T) := by unfold Hid lexN; rw [← hE]
      clear HEN hE HSU
      have c0 := hI.run.cell 0
      have c1 := hI.run.cell 1
      have c2 := hI.run.cell 2
      have c4 := hI.run.cell 4
      have c5 := hI.run.cell 5
      have hrb : wr.heap[w.heap.size]? = some (.cells #[.pointer none, .slice none 0 0, .int .i64 0, .int .i64 0, .int .u64 0, .int .u64 0] 60 (0, 0)) := (hT.block _ (by omega) (fun e => by
        rcases e with e | e
        · exact ltS _ (Nat.le_refl _) e
        · omega)).trans v0
      have r0 : wr.cell? ⟨w.heap.size, 0, none⟩ = some (.pointer none) := by simp [World.cell?, hrb]
      have r1 : wr.cell? ⟨w.heap.size, 1, none⟩ = some (.slice none 0 0) := by simp [World.cell?, hrb]
      have r2 : wr.cell? ⟨w.heap.size, 2, none⟩ = some (.int .i64 0) := by simp [World.cell?, hrb]
      have r3 : wr.cell? ⟨w.heap.size, 3, none⟩ = some (.int .i64 0) := by simp [World.cell?, hrb]
      have r4 : wr.cell? ⟨w.heap.size, 4, none⟩ = some (.int .u64 0) := by simp [World.cell?, hrb]
      have r5 : wr.cell? ⟨w.heap.size, 5, none⟩ = some (.int .u64 0) := by simp [World.cell?, hrb]
      have rf : ∀ j, wr.frozen? ⟨w.heap.size, j, none⟩ = false := fun j => by simp [World.frozen?, hrb]
      simp only [List.getElem?_toArray, List.getElem?_cons_succ, List.getElem?_cons_zero] at c0 c1 c2 c4 c5
      obtain ⟨ad, cc, rfl⟩ := powns_shape hI.tk
      go_wp2_with fail
      have hq : (putRn wr w.heap.size (.pointer (some ⟨r, 0, none⟩)) (.slice ad T.length cc) (.int .i64 (fr : Int)) (.int .i64 (at' : Int)) (.int .u64 (st.1 : Int)) (.int .u64 (st.2 : Int))).heap[w.heap.size]? = some (.cells #[.pointer (some ⟨r, 0, none⟩), .slice ad T.length cc, .int .i64 (fr : Int), .int .i64 (at' : Int), .int .u64 (st.1 : Int), .int .u64 (st.2 : Int)] 60 (0, 0)) := putRn_at hrb _ _ _ _ _ _
      have q0 : (putRn wr w.heap.size (.pointer (some ⟨r, 0, none⟩)) (.slice ad T.length cc) (.int .i64 (fr : Int)) (.int .i64 (at' : Int)) (.int .u64 (st.1 : Int)) (.int .u64 (st.2 : Int))).cell? ⟨w.heap.size, 0, none⟩ = some (.pointer (some ⟨r, 0, none⟩)) := by simp [World.cell?, hq]
      have q1 : (putRn wr w.heap.size (.pointer (some ⟨r, 0, none⟩)) (.slice ad T.length cc) (.int .i64 (fr : Int)) (.int .i64 (at' : Int)) (.int .u64 (st.1 : Int)) (.int .u64 (st.2 : Int))).cell? ⟨w.heap.size, 1, none⟩ = some (.slice ad T.length cc) := by simp [World.cell?, hq]
      have q2 : (putRn wr w.heap.size (.pointer (some ⟨r, 0, none⟩)) (.slice ad T.length cc) (.int .i64 (fr : Int)) (.int .i64 (at' : Int)) (.int .u64 (st.1 : Int)) (.int .u64 (st.2 : Int))).cell? ⟨w.heap.size, 2, none⟩ = some (.int .i64 (fr : Int)) := by simp [World.cell?, hq]
      have q3 : (putRn wr w.heap.size (.pointer (some ⟨r, 0, none⟩)) (.slice ad T.length cc) (.int .i64 (fr : Int)) (.int .i64 (at' : Int)) (.int .u64 (st.1 : Int)) (.int .u64 (st.2 : Int))).cell? ⟨w.heap.size, 3, none⟩ = some (.int .i64 (at' : Int)) := by simp [World.cell?, hq]
      have q4 : (putRn wr w.heap.size (.pointer (some ⟨r, 0, none⟩)) (.slice ad T.length cc) (.int .i64 (fr : Int)) (.int .i64 (at' : Int)) (.int .u64 (st.1 : Int)) (.int .u64 (st.2 : Int))).cell? ⟨w.heap.size, 4, none⟩ = some (.int .u64 (st.1 : Int)) := by simp [World.cell?, hq]
      have q5 : (putRn wr w.heap.size (.pointer (some ⟨r, 0, none⟩)) (.slice ad T.length cc) (.int .i64 (fr : Int)) (.int .i64 (at' : Int)) (.int .u64 (st.1 : Int)) (.int .u64 (st.2 : Int))).cell? ⟨w.heap.size, 5, none⟩ = some (.int .u64 (st.2 : Int)) := by simp [World.cell?, hq]
      have hTe : Turn (tbS t mb l) w (putRn wr w.heap.size (.pointer (some ⟨r, 0, none⟩)) (.slice ad T.length cc) (.int .i64 (fr : Int)) (.int .i64 (at' : Int)) (.int .u64 (st.1 : Int)) (.int .u64 (st.2 : Int))) := putRn_turn ((Turn.ofBelow hV).next hT (fun j hj e => by
        rcases e with e | e
        · exact e
        · omega)) (Nat.le_refl _) _ _ _ _ _ _
      have hIe : TblI B (putRn wr w.heap.size (.pointer (some ⟨r, 0, none⟩)) (.slice ad T.length cc) (.int .i64 (fr : Int)) (.int .i64 (at' : Int)) (.int .u64 (st.1 : Int)) (.int .u64 (st.2 : Int))) t p room D dn' 0 f' 0 mb l' := hI.tb.keep (fun j hj => putRn_other _ _ _ _ _ _ _ _ (fun e => hI.tb.sepT hrb (by decide) (by decide) (e ▸ hj))) (putRn_below hBw)
      have hown : (putRn wr w.heap.size (.pointer (some ⟨r, 0, none⟩)) (.slice ad T.length cc) (.int .i64 (fr : Int)) (.int .i64 (at' : Int)) (.int .u64 (st.1 : Int)) (.int .u64 (st.2 : Int))).ownsRow w.heap.size 30 3 (.slice ad T.length cc) T.length (tokCells T) := tok_keep (tok_base hI.tk (by omega)) (fun g hg => putRn_other _ _ _ _ _ _ _ _ (fun e => by
        obtain ⟨cur, hcur⟩ := tok_own hI.tk hg
        rw [e, hrb] at hcur
        simp at hcur))
      refine bodyPost_ret (v := .agg #[.pointer (some ⟨r, 0, none⟩), .slice ad T.length cc, .int .i64 (fr : Int), .int .i64 (at' : Int), .int .u64 (st.1 : Int), .int .u64 (st.2 : Int)]) (by unfold putRn at q0 q1 q2 q3 q4 q5; simp [results, Tryd.results16, go_sem, q0, q1, q2, q3, q4, q5]) rfl ?_
      exact ⟨l', dn', f', _, _, _, _, _, rfl, by rw [HLX.out]; exact hown, hIe, hI.fs, hTe, fun x hx => (hF x hx).imp id (fun h => by omega)⟩
/-- A lexer in memory. -/
structure LexI (B : Nat) (w : World) (lx t p room mb : Nat) (D : PlD) (l : List (S2 × Nat)) (dn : Int) (f : S2) : Prop where
  lx' : LxB w lx p t
  tb : TblI B w t p room D dn 0 f 0 mb l
  fs : Firsts D dn f
  ti : TabIn w
  b1 : 1 ≤ B
/-- What Lex comes to. -/
def LexOut (B lx t p room mb : Nat) (D : PlD) (s : ByteArray) (l : List (S2 × Nat)) (w : World) (e : Ending) (w' : World) : Prop :=
  ∃ (l' : List (S2 × Nat)) (dn' : Int) (f' : S2) (v : Value), e = .returned v ∧ w'.ownsRow w.heap.size 30 3 v (lexN D s).length (tokCells (lexN D s)) ∧ LexI B w' lx t p room mb D l' dn' f' ∧ Turn (tbS t mb l) w w' ∧ Fresh l l' w
theorem LexI.ltx {B : Nat} {w : World} {lx t p room mb : Nat} {D : PlD} {l : List (S2 × Nat)} {dn : Int} {f : S2} (h : LexI B w lx t p room mb D l dn f) : lx < w.heap.size := (Array.getElem?_eq_some_iff.1 h.lx').1
/-- The lexer stands where only other blocks have turned. -/
theorem LexI.keep {B : Nat} {w w' : World} {lx t p room mb : Nat} {D : PlD} {l : List (S2 × Nat)} {dn : Int} {f : S2} (h : LexI B w lx t p room mb D l dn f) (k : ∀ j, j < w.heap.size → w'.heap[j]? = w.heap[j]?) (hB : Below B w w') : LexI B w' lx t p room mb D l dn f :=
  ⟨(k _ h.ltx).trans h.lx', h.tb.keep (fun j hj => k j (h.tb.ltS hj).2) hB, h.fs, h.ti.blocks (k 0 (by have := h.ltx; omega)), h.b1⟩

theorem Tryd.fld60 (w : World) (r : Option Addr) (ad : Option Addr) (n m : Nat) (a b c d : Int) : (Instr.field 60 (.agg #[.pointer r, .slice ad n m, .int .i64 a, .int .i64 b, .int .u64 c, .int .u64 d]) 1).run Tryd.prog w = .ok (.slice ad n m) w := by kernel_rfl

set_option maxRecDepth 100000 in
set_option maxHeartbeats 4000000 in
theorem lex_any (B : Nat) (lx t p room mb : Nat) (D : PlD) (hD : D.ok) (s : ByteArray) (hs : s.size ≤ 1048576) (l : List (S2 × Nat)) (dn : Int) (f : S2) (w : World) (hI : LexI B w lx t p room mb D l dn f) :
    Calls Tryd.prog 7 #[.pointer (some ⟨lx, 0, none⟩), .string s] w fun e w' => LexOut B lx t p room mb D s l w e w' := by
  have hBw : B ≤ w.heap.size := by have := hI.tb.gt; have := hI.tb.tb.lt; omega
  go_enter Tryd.func7, Tryd.ntmps7
  go_wp2_with fail
  refine (read_any lx s hs w).mono ?_
  rintro e w1 ⟨r, lb, rfl, hr, hlb, hne, hR1, hL1, hB1⟩
  have hI1 := hI.keep (fun j hj => hB1.block j hj) (hB1.mono hBw)
  have hP1 : PlanAt B w1 p D := hI1.tb.pl
  go_wp2_with fail
  refine (lead_any B hI.b1 D hD lx p t r lb s hs w1 hR1 hL1 hI1.lx' hP1 (by omega) hI1.ti).mono ?_
  rintro e w2 ⟨rfl, hL2, hT2⟩
  have hl1 := hL1.lt
  have ne : ∀ {k : Nat} {cs : Array Value} {Ty : TypeId} {fz : Nat × Nat}, w1.heap[k]? = some (.cells cs Ty fz) → Ty ≠ 58 → k ≠ lb := fun {k cs Ty fz} hk hTy e => by
    obtain ⟨cs', hc, -⟩ := hL1
    rw [e, hc] at hk
    injection hk with hk
    injection hk with _ hk _
    exact hTy hk.symm
  have hR2 : RdB w2 r lx s lb := (hT2.block r hR1.lt (ne hR1 (by decide))).trans hR1
  have hT2' : Turn (tbS t mb l) w w2 := (Turn.ofBelow hB1).next hT2 (fun j hj e => by omega)
  have hall : ∀ j, j < w.heap.size → w2.heap[j]? = w.heap[j]? := fun j hj => (hT2.block j (Nat.lt_of_lt_of_le hj hB1.size) (by omega)).trans (hB1.block j hj)
  have hI2 : LexI B w2 lx t p room mb D l dn f := hI.keep hall (hT2'.toBelow hBw (fun j hj e => by have := (hI.tb.ltS e).1; omega))
  go_wp2_with fail
  refine (cut_any B hI.b1 r lx lb t p room mb D hD s hs l dn f w2 hR2 hL2 hI2.lx' hI2.tb hI2.fs hI2.ti).mono ?_
  rintro e w3 ⟨l', dn', f', v, a, b, c, d, rfl, hown, htb, hfs, hT3, hF3⟩
  have hx2 : w2.heap[lx]? = _ := hI2.lx'
  have hI3 : LexI B w3 lx t p room mb D l' dn' f' := ⟨(hT3.block lx hI2.ltx (hI2.tb.sepT hx2 (by decide) (by decide))).trans hI2.lx', htb, hfs, hI2.ti.blocks (hT3.block 0 (by have := hI2.ltx; omega) (fun e => by have := (hI2.tb.ltS e).1; have := hI.b1; omega)), hI.b1⟩
  have hT3' : Turn (tbS t mb l) w w3 := hT2'.trans hT3
  have hF3' : Fresh l l' w := fun x hx => (hF3 x hx).imp id (fun h => Nat.le_trans hT2'.size h)
  have hown' := tok_base hown hT2'.size
  clear hown hT3 hF3 htb hfs
  obtain ⟨ad, cc, rfl⟩ := powns_shape hown'
  have hfd := Tryd.fld60 w3 (some ⟨r, 0, none⟩) ad (lexN D s).length cc a b c d
  go_wp2_with fail
  go_ret
  exact ⟨l', dn', f', _, rfl, hown', hI3, hT3', hF3'⟩
end Go.Proofs.YtjhmlcilabnlbaaDoor
/- The lexer: New: the pure side. -/
namespace Go.Proofs.YtjhmlcilabnlbaaDoor
open Go.RowKit Go.Shelf

theorem text_some (s : ByteArray) (F : Nat) : ∀ (g i : Nat) (acc l : List P.Rl) (j : Nat), P.text s F g i acc = .ok l j → l ≠ [] := by
  intro g
  induction g with
  | zero => intro i acc l j h; cases h
  | succ g ih =>
    intro i acc l j h
    unfold P.text at h
    cases hr : P.rule s F i with
    | out => rw [hr] at h; cases h
    | bad p => rw [hr] at h; cases h
    | ok r k =>
      rw [hr] at h
      simp only [P.PR.bind] at h
      split at h
      · cases h; simp
      · split at h
        · split at h
          · cases h; simp
          · exact ih _ _ _ _ h
        · cases h
theorem judge_none : ∀ (l done : List P.Rl) (size : Nat), P.judge done size l = none → (l ≠ [] → done.length + l.length ≤ 8 ∧ size + (l.map fun r => r.t.sz).sum ≤ 60) ∧ ∀ r, r ∈ l → r.t.em = false := by
  intro l
  induction l with
  | nil => intro done size _; exact ⟨fun h => absurd rfl h, fun r hr => by cases hr⟩
  | cons r rest ih =>
    intro done size h
    unfold P.judge at h
    split at h
    · cases h
    · rename_i h1
      split at h
      · cases h
      · split at h
        · cases h
        · rename_i h3
          obtain ⟨h4, h5⟩ := ih _ _ h
          refine ⟨fun _ => ?_, fun x hx => ?_⟩
          · by_cases hn : rest = []
            · subst hn
              simp
              omega
            · have := h4 hn
              simp at this ⊢
              omega
          · rcases List.mem_cons.1 hx with rfl | hx
            · simpa using h3
            · exact h5 x hx

mutual
theorem lay_len : ∀ (t : Tr) (D : PlD), (lay t D).1.nx.length = D.nx.length + t.lv
  | .leaf x0 x1 x2 x3, D => by unfold lay Tr.lv; exact PlD.leaf_len D x0 x1 x2 x3
  | .rep no ag t, D => by
    unfold lay Tr.lv
    have h := lay_len t D
    unfold repEnd rowStep
    cases ag
    · show ((lay t D).1.lnk _ _).nx.length = _
      rw [PlD.lnk_len]; exact h
    · show (((lay t D).1.lnk _ _).lnk _ _).nx.length = _
      rw [PlD.lnk_len, PlD.lnk_len]; exact h
  | .row l, D => by unfold lay Tr.lv; exact layRow_len l D pc1
  | .alt l, D => by unfold lay Tr.lv; exact layAlt_len l D pc0
theorem layRow_len : ∀ (l : List Tr) (D : PlD) (a : Pc), (layRow l D a).1.nx.length = D.nx.length + lvs l
  | [], D, a => by unfold layRow lvs; rfl
  | t :: ts, D, a => by
    unfold layRow lvs
    rw [layRow_len ts]
    show ((lay t D).1.lnk _ _).nx.length + _ = _
    rw [PlD.lnk_len, lay_len t D]; omega
theorem layAlt_len : ∀ (l : List Tr) (D : PlD) (a : Pc), (layAlt l D a).1.nx.length = D.nx.length + lvs l
  | [], D, a => by unfold layAlt lvs; rfl
  | t :: ts, D, a => by
    unfold layAlt lvs
    rw [layAlt_len ts, lay_len t D]; omega
end
theorem mkStep_len (i : Nat) (t : Tr) (D : PlD) : (mkStep i t D).nx.length = D.nx.length + t.lv := by
  unfold mkStep
  show (((lay t D).1.beg _).lnk _ _).nx.length = _
  rw [PlD.lnk_len]
  exact lay_len t D
theorem mkAll_len : ∀ (ts : List Tr) (i : Nat) (D : PlD), (mkAll i ts D).nx.length = D.nx.length + lvs ts
  | [], i, D => by unfold mkAll lvs; rfl
  | t :: ts, i, D => by
    unfold mkAll lvs
    rw [mkAll_len ts, mkStep_len]; omega

/-- A plan that was made, as the others ask for it. -/
theorem PlanIn.done {B B' : Nat} {w : World} {p : Nat} {vb vn : Value} {D : PlD} (h : PlanIn B w p vb vn D) (hb : 0 < D.bg.length) (hn : 0 < D.nx.length) (hw : w.heap.size ≤ B') : PlanAt B' w p D := by
  obtain ⟨g1, c1, cur1, hv1, -, hc1, hl1, -, -, ht1⟩ := h.ob.some hb
  obtain ⟨g2, c2, cur2, hv2, -, hc2, hl2, -, -, ht2⟩ := h.on.some hn
  have hg1 := (Array.getElem?_eq_some_iff.1 hc1).1
  have hg2 := (Array.getElem?_eq_some_iff.1 hc2).1
  have hp := h.lt
  have at' : ∀ (g : Nat) (cur : Array Value) (l : List S2), w.heap[g]? = some (.cells cur 58 (0, 0)) → cur.toList.take (l.length * 2) = setCells l → SetsAt w g l := fun g cur l hc ht i a ha => by
    have hi : i < l.length := (List.getElem?_eq_some_iff.1 ha).1
    exact ⟨(cell_of_take hc ht (by omega)).trans (setCells_get l i a ha).1, (cell_of_take hc ht (by omega)).trans (setCells_get l i a ha).2⟩
  refine ⟨by omega, ⟨g1, c1, by rw [h.cb, hv1], by omega, hl1, at' g1 cur1 _ hc1 ht1⟩, ⟨g2, c2, by rw [h.cn, hv2], by omega, hl2, at' g2 cur2 _ hc2 ht2⟩, fun b hb => h.cm hb, h.ce⟩
theorem PlD.whole.ok {D : PlD} {n : Nat} (h : D.whole n) (hn : n ≤ 64) (hx : D.nx.length ≤ 64) : D.ok :=
  ⟨h.good.fine.bg, h.good.fine.nx, h.good.fine.mt, h.good.fine.en, fun b k hb hk ht => h.good.fine.fit b hb k hk ht, hx, by rw [h.len]; exact hn⟩
/-- Trees for the rules that were read. -/
theorem trees_for {w : World} {S : Nat → Prop} : ∀ (xs : List (P.Rl × Nd)), (∀ x, x ∈ xs → PN w S x.2 x.1.t) → (∀ x, x ∈ xs → x.1.t.em = false) →
    ∃ ts : List Tr, xs.length = ts.length ∧ (∀ (i : Nat) (x : P.Rl × Nd) (t : Tr), xs[i]? = some x → ts[i]? = some t → PT w S x.2 t) ∧ lvs ts ≤ (xs.map fun x => x.1.t.sz).sum ∧ (xs ≠ [] → 1 ≤ lvs ts) ∧ (∀ (i : Nat) (x : P.Rl × Nd) (t : Tr), xs[i]? = some x → ts[i]? = some t → TX t x.1.t.x)
  | [], _, _ => ⟨[], rfl, fun i x t h => by simp at h, by unfold lvs; simp, fun h => absurd rfl h, fun i x t h => by simp at h⟩
  | x :: xs, h, he => by
    obtain ⟨ts, h1, h2, h3, -, h5⟩ := trees_for xs (fun y hy => h y (List.mem_cons_of_mem _ hy)) (fun y hy => he y (List.mem_cons_of_mem _ hy))
    obtain ⟨tr, k1, k2, -, k4, k5⟩ := (h x List.mem_cons_self).tree
    have hle := k4 (he x List.mem_cons_self)
    have e1 : lvs (tr :: ts) = tr.lv + lvs ts := by conv => lhs; unfold lvs
    refine ⟨tr :: ts, by simp [h1], fun i y t hy ht => ?_, ?_, fun _ => by rw [e1]; omega, fun i y t hy ht => ?_⟩
    · cases i with
      | zero => simp at hy ht; subst hy; subst ht; exact k1
      | succ i => exact h2 i y t (by simpa using hy) (by simpa using ht)
    · rw [e1]
      simp only [List.map_cons, List.sum_cons]
      omega
    · cases i with
      | zero => simp at hy ht; subst hy; subst ht; exact k5
      | succ i => exact h5 i y t (by simpa using hy) (by simpa using ht)
end Go.Proofs.YtjhmlcilabnlbaaDoor
/- Rules that are words: their plan, and what it matches. -/
namespace Go.Proofs.YtjhmlcilabnlbaaDoor
open Go.RowKit

theorem hasW_of {x0 x1 x2 x3 : Int} {p : Nat → Bool} (h : W4 x0 x1 x2 x3 p) {b : Nat} (hb : b < 256) : hasW x0 x1 x2 x3 b = p b := by
  have key : ∀ (a : Int) (q : Nat → Bool), Wd a q → ∀ j, j < 64 → (bits BinOp.and IntKind.u64 (a / 2 ^ j) 1 == 1) = q j := by
    rintro a q ⟨n, rfl, hn, hq⟩ j hj
    rw [← hq j hj]
    have e : ((n : Int) / 2 ^ j) = ((n / 2 ^ j : Nat) : Int) := by rw [Int.natCast_ediv, Int.natCast_pow]; rfl
    have hd : n / 2 ^ j < 2 ^ 64 := Nat.lt_of_le_of_lt (Nat.div_le_self _ _) hn
    have e2 : bits BinOp.and IntKind.u64 ((n / 2 ^ j : Nat) : Int) 1 = (((n / 2 ^ j) &&& 1 : Nat) : Int) := bits_and_u64_nat (n / 2 ^ j) 1 hd (by decide)
    rw [e, e2, Nat.and_one_is_mod, Nat.testBit_eq_decide_div_mod_eq]
    rw [Bool.eq_iff_iff]
    simp only [beq_iff_eq, decide_eq_true_eq]
    omega
  obtain ⟨h0, h1, h2, h3⟩ := h
  have hj : b % 64 < 64 := Nat.mod_lt _ (by decide)
  unfold hasW wordAt
  rcases (show b / 64 = 0 ∨ b / 64 = 1 ∨ b / 64 = 2 ∨ b / 64 = 3 by omega) with e | e | e | e
  · rw [if_pos e, key _ _ h0 _ hj, show b % 64 = b by omega]
  · rw [if_neg (by omega), if_pos e, key _ _ h1 _ hj, show 64 + b % 64 = b by omega]
  · rw [if_neg (by omega), if_neg (by omega), if_pos e, key _ _ h2 _ hj, show 128 + b % 64 = b by omega]
  · rw [if_neg (by omega), if_neg (by omega), if_neg (by omega), key _ _ h3 _ hj, show 192 + b % 64 = b by omega]
theorem eqB_iff {c b : Nat} : P.eqB (c : Int) b = true ↔ b = c := by
  unfold P.eqB
  simp only [Bool.and_eq_true, decide_eq_true_eq]
  omega

/-- A word, as a rule's tree. -/
def wordX (w : List Nat) : P.X := .alt [.row (w.map fun c : Nat => .set (P.eqB (c : Int)))]
/-- A leaf of one byte. -/
def IsLeaf (l : Tr) (c : Nat) : Prop := ∃ x0 x1 x2 x3, l = .leaf x0 x1 x2 x3 ∧ W4 x0 x1 x2 x3 (P.eqB (c : Int))
theorem tx_word {t : Tr} {w : List Nat} (h : TX t (wordX w)) : ∃ ls : List Tr, t = .alt [.row ls] ∧ ls.length = w.length ∧ ∀ (j : Nat) (l : Tr) (c : Nat), ls[j]? = some l → w[j]? = some c → IsLeaf l c := by
  unfold wordX at h
  cases h with
  | @alt ts xs hl h =>
    have e1 : ts.length = 1 := hl
    obtain ⟨t1, rfl⟩ : ∃ t1, ts = [t1] := List.length_eq_one_iff.1 e1
    have h1 := h 0 t1 _ rfl rfl
    cases h1 with
    | @row ls xs hl2 h2 =>
      refine ⟨ls, rfl, by simpa using hl2, fun j l c hj hc => ?_⟩
      have h3 := h2 j l (.set (P.eqB (c : Int))) hj (by rw [List.getElem?_map, hc]; rfl)
      cases h3 with
      | @leaf x0 x1 x2 x3 p hp => exact ⟨x0, x1, x2, x3, rfl, hp⟩

theorem S2.zero_or (x : S2) : S2.or (0, 0) x = x := by
  unfold S2.or
  simp
theorem bitsN_bit : ∀ m : Fin 64, bitsN (2 ^ m.1) = [m.1] := by decide +kernel
theorem getD_set (l : List S2) (m k : Nat) (v : S2) : (l.set m v).getD k (0, 0) = if m = k ∧ m < l.length then v else l.getD k (0, 0) := by
  rw [List.getD_eq_getElem?_getD, List.getD_eq_getElem?_getD, List.getElem?_set]
  by_cases h1 : m = k
  · subst h1
    by_cases h2 : m < l.length
    · simp [h2]
    · simp [h2]
  · simp [h1]
/-- A link from one leaf. -/
theorem lnk_bit (D : PlD) {m : Nat} (hm : m < 64) (y : S2) : D.lnk (S2.bit m) y = D.nxt (D.nx.set m ((D.nx.getD m (0, 0)).or y)) := by
  unfold PlD.lnk
  rw [show (S2.bit m).1 = 2 ^ m from by unfold S2.bit; rw [if_pos hm], bitsN_bit ⟨m, hm⟩]
  rfl
theorem lnk_none (D : PlD) (y : S2) : D.lnk (0, 0) y = D := by
  unfold PlD.lnk
  rw [show ((0, 0) : S2).1 = 0 from rfl, bitsN_zero]
  rfl

/-- A plan with so many letters of a word laid behind it. -/
structure Part (D D' : PlD) (w : List Nat) (t : Nat) : Prop where
  bg : D'.bg = D.bg
  en : D'.en = D.en
  len : D'.nx.length = D.nx.length + t
  old : ∀ k, k < D.nx.length → D'.nx.getD k (0, 0) = D.nx.getD k (0, 0)
  mid : ∀ j, j + 1 < t → D'.nx.getD (D.nx.length + j) (0, 0) = S2.bit (D.nx.length + j + 1)
  last : ∀ j, j + 1 = t → D'.nx.getD (D.nx.length + j) (0, 0) = (0, 0)
  mt : ∀ b, b < 256 → ∀ k, (D'.mt b).1.testBit k = true ↔ (D.mt b).1.testBit k = true ∨ ∃ j, j < t ∧ k = D.nx.length + j ∧ w[j]? = some b
/-- The piece that goes with it. -/
def PartA (n t : Nat) (a : Pc) : Prop := (t = 0 → a = pc1) ∧ (0 < t → a = ⟨S2.bit n, S2.bit (n + (t - 1)), false⟩)
theorem Part.start (D : PlD) (w : List Nat) : Part D D w 0 :=
  ⟨rfl, rfl, rfl, fun _ _ => rfl, fun j h => by omega, fun j h => by omega, fun b _ k => ⟨Or.inl, fun h => h.elim id (fun ⟨j, hj, _⟩ => by omega)⟩⟩
theorem Part.next {D D' : PlD} {w : List Nat} {t : Nat} {a : Pc} {l : Tr} {c : Nat} (h : Part D D' w t) (ha : PartA D.nx.length t a) (hc : w[t]? = some c) (h64 : D.nx.length + w.length ≤ 64) (hl : IsLeaf l c) :
    Part D (rowStep a (lay l D')).1 w (t + 1) ∧ PartA D.nx.length (t + 1) (rowStep a (lay l D')).2 := by
  obtain ⟨x0, x1, x2, x3, rfl, hW⟩ := hl
  have htw : t < w.length := (List.getElem?_eq_some_iff.1 hc).1
  have hn64 : D.nx.length + t < 64 := by omega
  have e0 : lay (.leaf x0 x1 x2 x3) D' = (D'.leaf x0 x1 x2 x3, leafPc D'.nx.length) := by unfold lay; rfl
  rw [e0]
  unfold rowStep
  simp only
  have hlm := h.len
  -- the leaf
  have hmt : ∀ b, b < 256 → ∀ k, ((D'.leaf x0 x1 x2 x3).mt b).1.testBit k = true ↔ (D.mt b).1.testBit k = true ∨ ∃ j, j < t + 1 ∧ k = D.nx.length + j ∧ w[j]? = some b := by
    intro b hb k
    have e1 : (D'.leaf x0 x1 x2 x3).mt b = if b < 256 ∧ hasW x0 x1 x2 x3 b = true then (D'.mt b).or (S2.bit D'.nx.length) else D'.mt b := rfl
    rw [e1, hasW_of hW hb]
    by_cases hbc : b = c
    · rw [if_pos ⟨hb, eqB_iff.2 hbc⟩]
      have e2 : ((D'.mt b).or (S2.bit D'.nx.length)).1.testBit k = ((D'.mt b).1.testBit k || (S2.bit D'.nx.length).1.testBit k) := Nat.testBit_or ..
      rw [e2, Bool.or_eq_true, h.mt b hb k, S2.bit_one (by omega), hlm]
      constructor
      · rintro ((h1 | ⟨j, h1, h2, h3⟩) | h1)
        · exact Or.inl h1
        · exact Or.inr ⟨j, by omega, h2, h3⟩
        · exact Or.inr ⟨t, by omega, h1, by rw [hc, hbc]⟩
      · rintro (h1 | ⟨j, h1, h2, h3⟩)
        · exact Or.inl (Or.inl h1)
        · by_cases hjt : j = t
          · subst hjt; exact Or.inr h2
          · exact Or.inl (Or.inr ⟨j, by omega, h2, h3⟩)
    · rw [if_neg (fun hh => hbc (eqB_iff.1 hh.2)), h.mt b hb k]
      constructor
      · rintro (h1 | ⟨j, h1, h2, h3⟩)
        · exact Or.inl h1
        · exact Or.inr ⟨j, by omega, h2, h3⟩
      · rintro (h1 | ⟨j, h1, h2, h3⟩)
        · exact Or.inl h1
        · by_cases hjt : j = t
          · subst hjt; rw [hc] at h3; exact absurd (Option.some.inj h3).symm hbc
          · exact Or.inr ⟨j, by omega, h2, h3⟩
  have hnx : (D'.leaf x0 x1 x2 x3).nx = D'.nx ++ [(0, 0)] := rfl
  have hgl : ∀ k, (D'.nx ++ [(0, 0)]).getD k (0, 0) = D'.nx.getD k (0, 0) := by
    intro k
    rw [List.getD_eq_getElem?_getD, List.getD_eq_getElem?_getD]
    by_cases hk : k < D'.nx.length
    · rw [List.getElem?_append_left hk]
    · rw [List.getElem?_append_right (by omega), List.getElem?_eq_none (l := D'.nx) (by omega)]
      by_cases hk2 : k = D'.nx.length
      · subst hk2; simp
      · rw [List.getElem?_eq_none (by simp; omega)]
  have hpast : D'.nx.getD (D.nx.length + t) (0, 0) = (0, 0) := by
    rw [List.getD_eq_getElem?_getD, List.getElem?_eq_none (by omega)]; rfl
  by_cases ht : t = 0
  · subst ht
    have ea := ha.1 rfl
    subst ea
    rw [show pc1.lst = (0, 0) from rfl, lnk_none]
    refine ⟨⟨h.bg, h.en, by rw [hnx, List.length_append, hlm]; rfl, fun k hk => by rw [hnx, hgl]; exact h.old k hk, fun j hj => by omega, fun j hj => ?_, hmt⟩, fun h0 => by omega, fun _ => ?_⟩
    · rw [hnx, hgl, show j = 0 by omega]; exact hpast
    · unfold Pc.beh leafPc pc1
      simp only [if_true, Bool.false_eq_true, if_false, Bool.and_false]
      rw [S2.zero_or, hlm]; rfl
  · have ea := ha.2 (by omega)
    subst ea
    simp only
    rw [lnk_bit _ (by omega)]
    have hset : ∀ k, (((D'.leaf x0 x1 x2 x3).nxt ((D'.leaf x0 x1 x2 x3).nx.set (D.nx.length + (t - 1)) (((D'.leaf x0 x1 x2 x3).nx.getD (D.nx.length + (t - 1)) (0, 0)).or (leafPc D'.nx.length).fst))).nx).getD k (0, 0) = if D.nx.length + (t - 1) = k then S2.bit (D.nx.length + t) else D'.nx.getD k (0, 0) := by
      intro k
      show ((D'.leaf x0 x1 x2 x3).nx.set _ _).getD k (0, 0) = _
      rw [getD_set, hnx, hgl, hgl, h.last (t - 1) (by omega), S2.zero_or]
      show (if _ then S2.bit D'.nx.length else _) = _
      by_cases hk : D.nx.length + (t - 1) = k
      · rw [if_pos ⟨hk, by rw [List.length_append, hlm]; show D.nx.length + (t - 1) < D.nx.length + t + 1; omega⟩, if_pos hk, hlm]
      · rw [if_neg (fun hh => hk hh.1), if_neg hk]
    refine ⟨⟨h.bg, h.en, ?_, fun k hk => ?_, fun j hj => ?_, fun j hj => ?_, hmt⟩, fun h0 => by omega, fun _ => ?_⟩
    · show ((D'.leaf x0 x1 x2 x3).nx.set _ _).length = _
      rw [List.length_set, hnx, List.length_append, hlm]; rfl
    · rw [hset, if_neg (by omega)]; exact h.old k hk
    · rw [hset]
      by_cases hk : j = t - 1
      · subst hk; rw [if_pos rfl]; congr 1; omega
      · rw [if_neg (by omega)]; exact h.mid j (by omega)
    · rw [hset, if_neg (by omega), show j = t by omega]; exact hpast
    · unfold Pc.beh leafPc
      simp only [Bool.false_eq_true, if_false, Bool.and_false]
      rw [hlm]; rfl
theorem Part.row {D : PlD} {w : List Nat} (h64 : D.nx.length + w.length ≤ 64) : ∀ (ls : List Tr) (t : Nat) (D' : PlD) (a : Pc), Part D D' w t → PartA D.nx.length t a → t + ls.length = w.length → (∀ (j : Nat) (l : Tr) (c : Nat), ls[j]? = some l → w[t + j]? = some c → IsLeaf l c) →
    Part D (layRow ls D' a).1 w w.length ∧ PartA D.nx.length w.length (layRow ls D' a).2
  | [], t, D', a, h, ha, hl, _ => by
    have e : t = w.length := by simpa using hl
    unfold layRow
    rw [← e]; exact ⟨h, ha⟩
  | l :: ls, t, D', a, h, ha, hl, hls => by
    have htw : t < w.length := by rw [List.length_cons] at hl; omega
    have hc : w[t]? = some w[t] := List.getElem?_eq_getElem htw
    obtain ⟨h1, h2⟩ := h.next ha hc h64 (hls 0 l _ rfl hc)
    unfold layRow
    exact Part.row h64 ls (t + 1) _ _ h1 h2 (by rw [List.length_cons] at hl; omega) (fun j l' c hj hc' => hls (j + 1) l' c (by rw [List.getElem?_cons_succ]; exact hj) (by rw [show t + (j + 1) = t + 1 + j by omega]; exact hc'))

/-- A plan of words: each leaf is a letter of a word. -/
structure WPlan (D : PlD) (ws : List (List Nat)) (A : List (Nat × Nat)) : Prop where
  len : A.length = D.nx.length
  le : D.nx.length ≤ 64
  val : ∀ k i j, A[k]? = some (i, j) → ∃ w, ws[i]? = some w ∧ j < w.length ∧ (j + 1 = w.length → D.nx.getD k (0, 0) = S2.bit (64 + i)) ∧ (j + 1 < w.length → A[k + 1]? = some (i, j + 1) ∧ D.nx.getD k (0, 0) = S2.bit (k + 1)) ∧ ∀ b, b < 256 → ((D.mt b).1.testBit k = true ↔ w[j]? = some b)
  beg : ∀ i, i < ws.length → ∃ k, A[k]? = some (i, 0) ∧ D.bg[i]? = some (S2.bit k)
  bgl : D.bg.length = ws.length
  en1 : D.en.1 = 0
  en2 : ∀ i, D.en.2.testBit i = true ↔ i < ws.length
  mtb : ∀ b, b < 256 → ∀ k, (D.mt b).1.testBit k = true → k < D.nx.length
theorem WPlan.none : WPlan PlD.none [] [] :=
  ⟨rfl, by decide, fun k i j h => by simp at h, fun i h => by simp at h, rfl, rfl, fun i => by simp [PlD.none], fun b _ k h => by simp [PlD.none] at h⟩
theorem WPlan.step {D : PlD} {ws : List (List Nat)} {A : List (Nat × Nat)} (h : WPlan D ws A) {w : List Nat} {t : Tr} (hw : w ≠ []) (h64 : D.nx.length + w.length ≤ 64) (ht : TX t (wordX w)) :
    WPlan (mkStep ws.length t D) (ws ++ [w]) (A ++ (List.range w.length).map fun j => (ws.length, j)) ∧ (mkStep ws.length t D).nx.length = D.nx.length + w.length := by
  obtain ⟨ls, rfl, hll, hls⟩ := tx_word ht
  obtain ⟨h1, h2⟩ := Part.row h64 ls 0 D pc1 (Part.start D w) ⟨fun _ => rfl, fun h => by omega⟩ (by omega) (fun j l c hj hc => hls j l c hj (by rw [← hc]; congr 1; omega))
  have hwp : 0 < w.length := List.length_pos_iff.2 hw
  have e0 : lay (.alt [.row ls]) D = ((layRow ls D pc1).1, (layRow ls D pc1).2) := by
    unfold lay layAlt layAlt lay
    have e1 : (layRow ls D pc1).2 = ⟨S2.bit D.nx.length, S2.bit (D.nx.length + (w.length - 1)), false⟩ := h2.2 hwp
    have e2 : pc0.alt (layRow ls D pc1).2 = (layRow ls D pc1).2 := by
      rw [e1]; unfold Pc.alt pc0; simp only [S2.zero_or, Bool.false_or]
    rw [e2]
  have e1 : (layRow ls D pc1).2 = ⟨S2.bit D.nx.length, S2.bit (D.nx.length + (w.length - 1)), false⟩ := h2.2 hwp
  unfold mkStep
  rw [e0, e1]
  simp only
  generalize hD' : (layRow ls D pc1).1 = D' at h1
  rw [lnk_bit _ (by omega)]
  generalize hE : ((D'.beg (D'.bg ++ [S2.bit D.nx.length])).nxt ((D'.beg (D'.bg ++ [S2.bit D.nx.length])).nx.set (D.nx.length + (w.length - 1)) (((D'.beg (D'.bg ++ [S2.bit D.nx.length])).nx.getD (D.nx.length + (w.length - 1)) (0, 0)).or (S2.bit (64 + ws.length))))).end (D'.en.or (S2.bit (64 + ws.length))) = E
  have Enx : ∀ k, E.nx.getD k (0, 0) = if D.nx.length + (w.length - 1) = k then S2.bit (64 + ws.length) else D'.nx.getD k (0, 0) := by
    intro k
    rw [← hE]
    show (D'.nx.set _ _).getD k (0, 0) = _
    rw [getD_set]
    show (if _ then (D'.nx.getD _ (0, 0)).or _ else _) = _
    rw [h1.last (w.length - 1) (by omega), S2.zero_or]
    by_cases hk : D.nx.length + (w.length - 1) = k
    · rw [if_pos ⟨hk, by rw [h1.len]; omega⟩, if_pos hk]
    · rw [if_neg (fun hh => hk hh.1), if_neg hk]
  have Elen : E.nx.length = D.nx.length + w.length := by
    rw [← hE]
    show (D'.nx.set _ _).length = _
    rw [List.length_set, h1.len]
  have Emt : ∀ b, E.mt b = D'.mt b := fun b => by rw [← hE]; rfl
  have Ebg : E.bg = D.bg ++ [S2.bit D.nx.length] := by rw [← hE, ← h1.bg]; rfl
  have Een : E.en = D.en.or (S2.bit (64 + ws.length)) := by rw [← hE, ← h1.en]; rfl
  have Alen : ∀ j, (A ++ (List.range w.length).map fun j => (ws.length, j))[D.nx.length + j]? = if j < w.length then some (ws.length, j) else .none := by
    intro j
    rw [← h.len, List.getElem?_append_right (by omega), show A.length + j - A.length = j by omega, List.getElem?_map]
    by_cases hj : j < w.length
    · rw [if_pos hj, List.getElem?_eq_getElem (by simpa using hj)]; simp
    · rw [if_neg hj, List.getElem?_eq_none (by simp; omega)]; rfl
  have Aold : ∀ k, k < D.nx.length → (A ++ (List.range w.length).map fun j => (ws.length, j))[k]? = A[k]? := fun k hk => List.getElem?_append_left (by rw [h.len]; exact hk)
  refine ⟨⟨?_, ?_, ?_, ?_, ?_, ?_, ?_, ?_⟩, Elen⟩
  · rw [List.length_append, h.len, Elen, List.length_map, List.length_range]
  · rw [Elen]; exact h64
  · intro k i j hk
    by_cases hkl : k < D.nx.length
    · rw [Aold k hkl] at hk
      obtain ⟨w', k1, k2, k3, k4, k5⟩ := h.val k i j hk
      have hi : i < ws.length := (List.getElem?_eq_some_iff.1 k1).1
      refine ⟨w', by rw [List.getElem?_append_left hi]; exact k1, k2, fun hj => ?_, fun hj => ?_, fun b hb => ?_⟩
      · rw [Enx, if_neg (by omega), h1.old k hkl]; exact k3 hj
      · obtain ⟨k6, k7⟩ := k4 hj
        have hk1 : k + 1 < D.nx.length := by rw [← h.len]; exact (List.getElem?_eq_some_iff.1 k6).1
        exact ⟨by rw [Aold _ hk1]; exact k6, by rw [Enx, if_neg (by omega), h1.old k hkl]; exact k7⟩
      · rw [Emt, h1.mt b hb k, ← k5 b hb]
        exact ⟨fun hh => hh.elim id (fun ⟨j', _, e, _⟩ => by omega), Or.inl⟩
    · obtain ⟨j', rfl⟩ : ∃ j', k = D.nx.length + j' := ⟨k - D.nx.length, by omega⟩
      rw [Alen] at hk
      by_cases hj' : j' < w.length
      · rw [if_pos hj'] at hk
        have e := Option.some.inj hk
        injection e with e1 e2
        subst e1; subst e2
        refine ⟨w, by rw [List.getElem?_append_right (Nat.le_refl _)]; simp, hj', fun hj => ?_, fun hj => ?_, fun b hb => ?_⟩
        · rw [Enx, if_pos (by omega)]
        · refine ⟨?_, ?_⟩
          · rw [show D.nx.length + j' + 1 = D.nx.length + (j' + 1) by omega, Alen, if_pos hj]
          · rw [Enx, if_neg (by omega), h1.mid j' hj]
        · rw [Emt, h1.mt b hb]
          constructor
          · rintro (hh | ⟨j2, h3, h4, h5⟩)
            · have := h.mtb b hb _ hh; omega
            · rw [show j' = j2 by omega]; exact h5
          · intro hh; exact Or.inr ⟨j', hj', rfl, hh⟩
      · rw [if_neg hj'] at hk; cases hk
  · intro i hi
    rw [List.length_append] at hi
    rw [Ebg]
    by_cases hi2 : i < ws.length
    · obtain ⟨k, k1, k2⟩ := h.beg i hi2
      have hkl : k < D.nx.length := by rw [← h.len]; exact (List.getElem?_eq_some_iff.1 k1).1
      exact ⟨k, by rw [Aold k hkl]; exact k1, by rw [List.getElem?_append_left (by rw [h.bgl]; exact hi2)]; exact k2⟩
    · have e : i = ws.length := by simp at hi; omega
      subst e
      refine ⟨D.nx.length, ?_, ?_⟩
      · have := Alen 0; rw [if_pos hwp] at this; exact this
      · rw [← h.bgl, List.getElem?_append_right (Nat.le_refl _)]; simp
  · rw [Ebg, List.length_append, List.length_append, h.bgl]; rfl
  · rw [Een, S2.bit_two]
    show D.en.1 ||| 0 = 0
    rw [h.en1]; rfl
  · intro i
    rw [Een, S2.bit_two]
    show (D.en.2 ||| 2 ^ ws.length).testBit i = true ↔ _
    rw [Nat.testBit_or, Bool.or_eq_true, h.en2, Nat.testBit_two_pow, List.length_append]
    simp only [decide_eq_true_eq, List.length_cons, List.length_nil]
    omega
  · intro b hb k hk
    rw [Emt, h1.mt b hb] at hk
    rw [Elen]
    rcases hk with hk | ⟨j, h3, h4, -⟩
    · have := h.mtb b hb k hk; omega
    · omega
theorem WPlan.all : ∀ (ts : List Tr) (us : List (List Nat)) (D : PlD) (ws : List (List Nat)) (A : List (Nat × Nat)), WPlan D ws A → ts.length = us.length → (∀ (i : Nat) (t : Tr) (w : List Nat), ts[i]? = some t → us[i]? = some w → TX t (wordX w)) → (∀ w, w ∈ us → w ≠ []) → D.nx.length + (us.map List.length).sum ≤ 64 → ∃ A', WPlan (mkAll ws.length ts D) (ws ++ us) A'
  | [], us, D, ws, A, h, hl, _, _, _ => by
    have e : us = [] := List.length_eq_zero_iff.1 hl.symm
    subst e
    rw [List.append_nil]; exact ⟨A, h⟩
  | t :: ts, [], D, ws, A, h, hl, _, _, _ => by simp at hl
  | t :: ts, w :: us, D, ws, A, h, hl, ht, hne, h64 => by
    simp only [List.map_cons, List.sum_cons] at h64
    obtain ⟨h1, h2⟩ := h.step (hne w List.mem_cons_self) (by omega) (ht 0 t w rfl rfl)
    have e : mkAll ws.length (t :: ts) D = mkAll (ws ++ [w]).length ts (mkStep ws.length t D) := by rw [List.length_append]; rfl
    rw [e, show ws ++ w :: us = (ws ++ [w]) ++ us by simp]
    exact WPlan.all ts us _ _ _ h1 (by simpa using hl) (fun i t' w' h3 h4 => ht (i + 1) t' w' (by simpa using h3) (by simpa using h4)) (fun w' hw' => hne w' (List.mem_cons_of_mem _ hw')) (by rw [h2]; omega)

/-- Of a word: its first letters stand at a place. -/
def FitW (s : ByteArray) (a : Nat) (w : List Nat) (t : Nat) : Prop := ∀ j, j < t → w[j]? = some (byteN s (a + j))
theorem firstL_one (l : List S2) (k : Nat) : (firstL l).1.testBit k = true ↔ ∃ a, a ∈ l ∧ a.1.testBit k = true := by
  have key : ∀ (l : List S2) (z : S2), (l.foldl S2.or z).1.testBit k = true ↔ z.1.testBit k = true ∨ ∃ a, a ∈ l ∧ a.1.testBit k = true := by
    intro l
    induction l with
    | nil => intro z; simp
    | cons y ys ih =>
      intro z
      rw [List.foldl_cons, ih]
      have e : (z.or y).1.testBit k = (z.1.testBit k || y.1.testBit k) := Nat.testBit_or ..
      rw [e, Bool.or_eq_true]
      simp only [List.mem_cons, exists_eq_or_imp]
      exact or_assoc
  unfold firstL
  rw [key]
  simp
section
variable {D : PlD} {ws : List (List Nat)} {A : List (Nat × Nat)}
theorem WPlan.run_one (h : WPlan D ws A) (s : ByteArray) (a : Nat) : ∀ t k, (runN D s a t).1.testBit k = true → ∃ i w, A[k]? = some (i, t) ∧ ws[i]? = some w ∧ FitW s a w t := by
  intro t
  induction t with
  | zero =>
    intro k hk
    obtain ⟨z, h1, h2⟩ := (firstL_one D.bg k).1 hk
    obtain ⟨i, hi⟩ := List.mem_iff_getElem?.1 h1
    have hil : i < ws.length := by rw [← h.bgl]; exact (List.getElem?_eq_some_iff.1 hi).1
    obtain ⟨k', h3, h4⟩ := h.beg i hil
    rw [h4] at hi
    have e := Option.some.inj hi
    have hk' : k' < 64 := by have := (List.getElem?_eq_some_iff.1 h3).1; have := h.len; have := h.le; omega
    rw [← e, S2.bit_one hk'] at h2
    subst h2
    exact ⟨i, ws[i], h3, List.getElem?_eq_getElem hil, fun j hj => by omega⟩
  | succ t ih =>
    intro k hk
    unfold runN at hk
    rw [runF_succ, stepN_one] at hk
    obtain ⟨k', h1, h2, h3, h4⟩ := hk
    obtain ⟨i, w, h5, h6, h7⟩ := ih k' h2
    obtain ⟨w', g1, g2, g3, g4, g5⟩ := h.val k' i t h5
    rw [h6] at g1
    have e := Option.some.inj g1
    subst e
    have hlet := (g5 (byteN s (a + t)) (byteN_lt _ _)).1 h3
    by_cases hlast : t + 1 = w.length
    · rw [g3 hlast, S2.bit_two] at h4; simp at h4
    · obtain ⟨g6, g7⟩ := g4 (by omega)
      have hk64 : k' + 1 < 64 := by have := (List.getElem?_eq_some_iff.1 g6).1; have := h.len; have := h.le; omega
      rw [g7, S2.bit_one hk64] at h4
      subst h4
      refine ⟨i, w, g6, h6, fun j hj => ?_⟩
      by_cases hjt : j = t
      · subst hjt; exact hlet
      · exact h7 j (by omega)
theorem S2.bit_low {k : Nat} (hk : k < 64) : (S2.bit k).2 = 0 := by unfold S2.bit; rw [if_pos hk]
theorem WPlan.run_two (h : WPlan D ws A) (s : ByteArray) (a t i : Nat) (hi : (runN D s a (t + 1)).2.testBit i = true) : ∃ w, ws[i]? = some w ∧ w.length = t + 1 ∧ FitW s a w (t + 1) := by
  unfold runN at hi
  rw [runF_succ, stepN_twoB] at hi
  obtain ⟨k', h1, h2, h3, h4⟩ := hi
  obtain ⟨i', w, h5, h6, h7⟩ := h.run_one s a t k' h2
  obtain ⟨w', g1, g2, g3, g4, g5⟩ := h.val k' i' t h5
  rw [h6] at g1
  have e := Option.some.inj g1
  subst e
  have hlet := (g5 (byteN s (a + t)) (byteN_lt _ _)).1 h3
  by_cases hlast : t + 1 = w.length
  · rw [g3 hlast, S2.bit_two] at h4
    have e2 : i' = i := by simpa [Nat.testBit_two_pow] using h4
    subst e2
    refine ⟨w, h6, hlast.symm, fun j hj => ?_⟩
    by_cases hjt : j = t
    · subst hjt; exact hlet
    · exact h7 j (by omega)
  · obtain ⟨g6, g7⟩ := g4 (by omega)
    have hk64 : k' + 1 < 64 := by have := (List.getElem?_eq_some_iff.1 g6).1; have := h.len; have := h.le; omega
    rw [g7, S2.bit_low hk64] at h4
    simp at h4
theorem WPlan.run_all (h : WPlan D ws A) (s : ByteArray) (a i : Nat) {w : List Nat} (hw : ws[i]? = some w) (hne : w ≠ []) (hf : FitW s a w w.length) : (runN D s a w.length).2.testBit i = true := by
  have hwp : 0 < w.length := List.length_pos_iff.2 hne
  have key : ∀ t, t < w.length → ∃ k, A[k]? = some (i, t) ∧ (runN D s a t).1.testBit k = true := by
    intro t
    induction t with
    | zero =>
      intro _
      obtain ⟨k, h1, h2⟩ := h.beg i (List.getElem?_eq_some_iff.1 hw).1
      have hk64 : k < 64 := by have := (List.getElem?_eq_some_iff.1 h1).1; have := h.len; have := h.le; omega
      exact ⟨k, h1, (firstL_one D.bg k).2 ⟨_, List.mem_of_getElem? h2, (S2.bit_one hk64).2 rfl⟩⟩
    | succ t ih =>
      intro ht
      obtain ⟨k, h1, h2⟩ := ih (by omega)
      obtain ⟨w', g1, g2, g3, g4, g5⟩ := h.val k i t h1
      rw [hw] at g1
      have e := Option.some.inj g1
      subst e
      obtain ⟨g6, g7⟩ := g4 ht
      have hk64 : k + 1 < 64 := by have := (List.getElem?_eq_some_iff.1 g6).1; have := h.len; have := h.le; omega
      refine ⟨k + 1, g6, ?_⟩
      unfold runN
      rw [runF_succ, stepN_one]
      exact ⟨k, by omega, h2, (g5 _ (byteN_lt _ _)).2 (hf t (by omega)), by rw [g7, S2.bit_one hk64]⟩
  obtain ⟨k, h1, h2⟩ := key (w.length - 1) (by omega)
  obtain ⟨w', g1, g2, g3, g4, g5⟩ := h.val k i _ h1
  rw [hw] at g1
  have e := Option.some.inj g1
  subst e
  have hk64 : k < 64 := by have := (List.getElem?_eq_some_iff.1 h1).1; have := h.len; have := h.le; omega
  conv => lhs; rw [show w.length = (w.length - 1) + 1 by omega]
  unfold runN
  rw [runF_succ, stepN_twoB]
  exact ⟨k, hk64, h2, (g5 _ (byteN_lt _ _)).2 (hf _ (by omega)), by rw [g3 (by omega), S2.bit_two]; simp⟩
end

/-- A word stands at a place. -/
def FitsW (ws : List (List Nat)) (s : ByteArray) (a i : Nat) : Prop := ∃ w, ws[i]? = some w ∧ a + w.length ≤ s.size ∧ FitW s a w w.length
def lenW (ws : List (List Nat)) (i : Nat) : Nat := (ws.getD i []).length
theorem lenW_of {ws : List (List Nat)} {i : Nat} {w : List Nat} (h : ws[i]? = some w) : lenW ws i = w.length := by
  unfold lenW; rw [List.getD_eq_getElem?_getD, h]; rfl
/-- The first of the longest, of the first m words. -/
def BestOk (ws : List (List Nat)) (s : ByteArray) (a m : Nat) (o : Option Nat) : Prop :=
  match o with
  | none => ∀ k, k < m → ¬ FitsW ws s a k
  | some i => i < m ∧ FitsW ws s a i ∧ ∀ k, k < m → FitsW ws s a k → lenW ws k < lenW ws i ∨ (lenW ws k = lenW ws i ∧ i ≤ k)
theorem ends_words {D : PlD} {ws : List (List Nat)} {A : List (Nat × Nat)} (h : WPlan D ws A) (hne : ∀ w, w ∈ ws → w ≠ []) (s : ByteArray) (a K : Nat) : Ends D s a K ↔ ∃ i, FitsW ws s a i ∧ lenW ws i = K := by
  constructor
  · rintro ⟨h1, h2, h3⟩
    rcases S2.meets_iff.1 h3 with ⟨k, h4, h5⟩ | ⟨i, h4, h5⟩
    · rw [h.en1] at h5; simp at h5
    · obtain ⟨t, rfl⟩ : ∃ t, K = t + 1 := ⟨K - 1, by omega⟩
      obtain ⟨w, g1, g2, g3⟩ := h.run_two s a t i h4
      exact ⟨i, ⟨w, g1, by omega, by rw [g2]; exact g3⟩, by rw [lenW_of g1, g2]⟩
  · rintro ⟨i, ⟨w, g1, g2, g3⟩, rfl⟩
    rw [lenW_of g1]
    have hw := hne w (List.mem_of_getElem? g1)
    have hwp : 0 < w.length := List.length_pos_iff.2 hw
    refine ⟨by omega, g2, S2.meets_iff.2 (Or.inr ⟨i, h.run_all s a i g1 hw g3, ?_⟩)⟩
    exact (h.en2 i).2 (List.getElem?_eq_some_iff.1 g1).1
theorem ruleN_at {z : S2} {i : Nat} (h : z.2.testBit i = true) (hz : z.2 < 2 ^ 64) (hmin : ∀ j, j < i → z.2.testBit j = false) : ruleN z = (i : Int) := by
  have h0 : z.2 ≠ 0 := by intro e; rw [e] at h; simp at h
  unfold ruleN
  rw [if_neg h0]
  obtain ⟨m, hm, hc⟩ := ctz_odd z.2 h0 hz
  obtain ⟨-, hb⟩ := ctz_bit z.2 h0 hz
  generalize Lib.ctz 64 z.2 = c at *
  have hlow : ∀ j, j < c → z.2.testBit j = false := fun j hj => by rw [hm, odd_bit, if_pos hj]
  have e : c = i := by
    rcases Nat.lt_trichotomy c i with hlt | he | hgt
    · rw [hmin c hlt] at hb; cases hb
    · exact he
    · rw [hlow i hgt] at h; cases h
  rw [e]
/-- The token at a place, where the rules are words. -/
theorem tok_words {D : PlD} {ws : List (List Nat)} {A : List (Nat × Nat)} (h : WPlan D ws A) (hok : D.ok) (hne : ∀ w, w ∈ ws → w ≠ []) {s : ByteArray} {a : Nat} {x : Tok} (hx : IsTok D s a x) {o : Option Nat} (hb : BestOk ws s a ws.length o) :
    x = match o with
      | none => ⟨-1, a, a + 1⟩
      | some i => ⟨(i : Int), a, a + lenW ws i⟩ := by
  cases o with
  | none =>
    have hno : ∀ k, ¬ Ends D s a k := by
      intro k hk
      obtain ⟨i, h1, h2⟩ := (ends_words h hne s a k).1 hk
      have h1' := h1
      obtain ⟨w, g1, -⟩ := h1
      exact hb i (List.getElem?_eq_some_iff.1 g1).1 h1'
    rcases hx with ⟨K, h1, -⟩ | ⟨-, rfl⟩
    · exact absurd h1 (hno K)
    · rfl
  | some i =>
    obtain ⟨hi, hfi, hbest⟩ := hb
    have hEi : Ends D s a (lenW ws i) := (ends_words h hne s a _).2 ⟨i, hfi, rfl⟩
    rcases hx with ⟨K, h1, h2, rfl⟩ | ⟨hno, -⟩
    · have hK : K = lenW ws i := by
        obtain ⟨i', h3, h4⟩ := (ends_words h hne s a K).1 h1
        have h5 : i' < ws.length := by obtain ⟨w, g1, -⟩ := h3; exact (List.getElem?_eq_some_iff.1 g1).1
        have h6 : ¬ K < lenW ws i := fun hlt => h2 _ hlt hEi
        rcases hbest i' h5 h3 with h7 | ⟨h7, -⟩ <;> omega
      subst hK
      have hr : ruleN (runN D s a (lenW ws i)) = (i : Int) := by
        obtain ⟨w, g1, g2, g3⟩ := hfi
        have hw := hne w (List.mem_of_getElem? g1)
        have hwp : 0 < w.length := List.length_pos_iff.2 hw
        apply ruleN_at
        · rw [lenW_of g1]; exact h.run_all s a i g1 hw g3
        · obtain ⟨t, ht⟩ : ∃ t, lenW ws i = t + 1 := ⟨lenW ws i - 1, by rw [lenW_of g1]; omega⟩
          rw [ht]
          unfold runN
          rw [runF_succ]
          exact Nat.lt_of_lt_of_le (stepL_ok D hok _ _).2 (by decide)
        · intro j hj
          cases e : (runN D s a (lenW ws i)).2.testBit j with
          | false => rfl
          | true =>
            exfalso
            obtain ⟨t, ht⟩ : ∃ t, lenW ws i = t + 1 := ⟨lenW ws i - 1, by rw [lenW_of g1]; omega⟩
            rw [ht] at e
            obtain ⟨w', g4, g5, g6⟩ := h.run_two s a t j e
            have hfj : FitsW ws s a j := ⟨w', g4, by rw [g5, ← ht]; exact h1.2.1, by rw [g5]; exact g6⟩
            rcases hbest j (by omega) hfj with h7 | ⟨-, h7⟩
            · rw [lenW_of g4, g5, ht] at h7; omega
            · omega
      rw [hr]
    · exact absurd hEi (hno _)
end Go.Proofs.YtjhmlcilabnlbaaDoor
/- The keeper's words: pick, word. -/
namespace Go.Proofs.YtjhmlcilabnlbaaDoor
open Go.RowKit Go.Shelf

theorem pickn_any (n : Nat) (hn : 0 < n) (hn2 : n ≤ 1000000) (c : Int) (h0 : -9223372036854775808 ≤ c) (h1 : c < 9223372036854775808) (w : World) :
    Calls Tryd.prog 10 #[.int .i64 c, .int .i64 (n : Int)] w fun e w' => (∃ k : Nat, k < n ∧ e = .returned (.int .i64 (k : Int))) ∧ Below w.heap.size w w' := by
  have fin : ∀ x : Int, 0 ≤ x → ∃ k : Nat, k < n ∧ x.tmod (n : Int) = (k : Int) := fun x hx => by
    have h1 : 0 ≤ x % (n : Int) := Int.emod_nonneg _ (by omega)
    have h2 : x % (n : Int) < (n : Int) := Int.emod_lt_of_pos _ (by omega)
    exact ⟨(x.tmod n).toNat, by rw [Int.tmod_eq_emod_of_nonneg hx]; omega, by rw [Int.tmod_eq_emod_of_nonneg hx]; omega⟩
  have hz : ((n : Int) == 0) = false := by simp; omega
  by_cases hc : c < 0
  · have a1 : IntKind.i64.wrap (c + 1) = c + 1 := by rw [IntKind.wrap_i64]; omega
    have a2 : IntKind.i64.wrap (-(c + 1)) = -(c + 1) := by rw [IntKind.wrap_i64]; omega
    obtain ⟨k, hk, hk2⟩ := fin (-(c + 1)) (by omega)
    have a3 : IntKind.i64.wrap (k : Int) = (k : Int) := by rw [IntKind.wrap_i64]; omega
    have HK := hid hk
    clear fin hk
    go_enter Tryd.func10, Tryd.ntmps10
    go_wp2_with fail
    go_ret
    exact ⟨⟨k, HK.out, rfl⟩, Below.refl _ _⟩
  · obtain ⟨k, hk, hk2⟩ := fin c (by omega)
    have a3 : IntKind.i64.wrap (k : Int) = (k : Int) := by rw [IntKind.wrap_i64]; omega
    have HK := hid hk
    clear fin hk
    go_enter Tryd.func10, Tryd.ntmps10
    go_wp2_with fail
    go_ret
    exact ⟨⟨k, HK.out, rfl⟩, Below.refl _ _⟩

/-- A text's bytes, as numbers. -/
def bsN (s : ByteArray) : List Nat := s.data.toList.map UInt8.toNat
theorem bsN_len (s : ByteArray) : (bsN s).length = s.size := by unfold bsN; simp
theorem bsN_append (a b : ByteArray) : bsN (a ++ b) = bsN a ++ bsN b := by unfold bsN; simp
/-- A word of small letters. -/
def WordOk (w : List Nat) : Prop := w ≠ [] ∧ w.length ≤ 4 ∧ ∀ c, c ∈ w → 97 ≤ c ∧ c ≤ 122
theorem wordOk_snoc {b : ByteArray} {x : Nat} (h : ∀ c, c ∈ bsN b → 97 ≤ c ∧ c ≤ 122) (h1 : x < 3) : ∀ c, c ∈ bsN (b ++ ⟨#[UInt8.ofNat (97 + x)]⟩) → 97 ≤ c ∧ c ≤ 122 := by
  intro c hc
  rw [bsN_append, List.mem_append] at hc
  rcases hc with hc | hc
  · exact h c hc
  · have e : bsN ⟨#[UInt8.ofNat (97 + x)]⟩ = [(UInt8.ofNat (97 + x)).toNat] := rfl
    rw [e, List.mem_singleton, UInt8.toNat_ofNat'] at hc
    omega

/-- One byte as a text. -/
theorem byte_text (w : World) (x : Nat) (hx : x < 256) : (convert 35 9 (.slice (some ⟨w.heap.size, 0, none⟩) 1 1)).run Tryd.prog (w.alloc (.cells #[.int .u8 (x : Int)] 5)) = .ok (.string ⟨#[UInt8.ofNat x]⟩) (w.alloc (.cells #[.int .u8 (x : Int)] 5)) := by
  refine run_convert_bytes_back (P := Tryd.prog) (w.alloc (.cells #[.int .u8 (x : Int)] 5)) 35 9 5 ⟨w.heap.size, 0, none⟩ 1 [UInt8.ofNat x] Tryd.underlying35 Tryd.underlying5 Tryd.underlying9 ?_
  intro j hj
  have e : j = 0 := by simp at hj; omega
  subst e
  have h := World.cell?_alloc_mark w #[.int .u8 (x : Int)] 5 (0, 0) 0
  show (w.alloc _).cell? ⟨w.heap.size, 0, none⟩ = _
  rw [h]
  simp [UInt8.toNat_ofNat']
  omega

set_option maxRecDepth 100000 in
set_option maxHeartbeats 4000000 in
theorem word_any (c : Int) (h0 : -9223372036854775808 ≤ c) (h1 : c < 9223372036854775808) (w : World) :
    Calls Tryd.prog 8 #[.int .i64 c] w fun e w' => (∃ b : ByteArray, e = .returned (.string b) ∧ WordOk (bsN b)) ∧ Below w.heap.size w w' := by
  go_enter Tryd.func8, Tryd.ntmps8
  go_wp2_with fail
  refine (pickn_any 4 (by omega) (by omega) c h0 h1 w).mono ?_
  rintro e w1 ⟨⟨k, hk, rfl⟩, hB1⟩
  have a1 : IntKind.i64.wrap (1 + (k : Int)) = ((k + 1 : Nat) : Int) := by rw [IntKind.wrap_i64]; omega
  go_wp2_with fail
  refine (pickn_any 1000000 (by omega) (by omega) c h0 h1 w1).mono ?_
  rintro e w2 ⟨⟨d, hd, rfl⟩, hB2⟩
  have hs1 := hB1.size
  have hB : Below w.heap.size w w2 := hB1.trans (hB2.mono hs1)
  clear hB1 hB2
  have a2 : ((d : Int)).tdiv 4 = ((d / 4 : Nat) : Int) := by rw [Int.tdiv_eq_ediv_of_nonneg (by omega)]; omega
  have a3 : IntKind.i64.wrap ((d / 4 : Nat) : Int) = ((d / 4 : Nat) : Int) := by rw [IntKind.wrap_i64]; omega
  generalize hdd : d / 4 = d4 at *
  have hd4 : d4 < 1000000 := by omega
  clear hdd hd
  go_wp2_with fail
  go_loopg [3, 5, 6] (k + 1) (fun g sv cv iv wr => ∃ (b : ByteArray) (c i : Nat), sv = .string b ∧ cv = .int .i64 (c : Int) ∧ iv = .int .i64 (i : Int) ∧ i + g = k + 1 ∧ Hid (b.size = i) ∧ Hid (∀ c, c ∈ bsN b → 97 ≤ c ∧ c ≤ 122) ∧ c < 1000000 ∧ Below w.heap.size w wr)
  case atStart => exact ⟨⟨#[]⟩, d4, 0, rfl, rfl, rfl, by omega, rfl, fun c hc => by simp [bsN] at hc, hd4, hB⟩
  case round =>
    obtain ⟨b, c, i, rfl, rfl, rfl, hig, hbs, hbo, hc, hBr⟩ := hrel
    by_cases hlt : i < k + 1
    · have b1 : decide ((i : Int) < ((k + 1 : Nat) : Int)) = true := by simp; omega
      have a4 : ((c : Int)).tmod 3 = ((c % 3 : Nat) : Int) := by rw [Int.tmod_eq_emod_of_nonneg (by omega)]; omega
      have a5 : IntKind.i64.wrap ((c % 3 : Nat) : Int) = ((c % 3 : Nat) : Int) := by rw [IntKind.wrap_i64]; omega
      have kc := byte_text wr (97 + c % 3) (by omega)
      have e97 : ((97 + c % 3 : Nat) : Int) = 97 + (c : Int) % 3 := by omega
      rw [e97] at kc
      have hbl : b.size ≤ 4 := by have := hbs.out; omega
      have hsz : (b ++ ⟨#[UInt8.ofNat (97 + c % 3)]⟩ : ByteArray).size = b.size + 1 := ByteArray.size_append
      have HS : Hid ((b ++ ⟨#[UInt8.ofNat (97 + c % 3)]⟩ : ByteArray).size = i + 1) := by unfold Hid; rw [hsz, hbs.out]
      have HO := hid (wordOk_snoc (x := c % 3) hbo.out (Nat.mod_lt _ (by decide)))
      have HB : Hid (Below w.heap.size w (wr.alloc (.cells #[.int .u8 (97 + (c : Int) % 3)] 5))) := hBr.alloc hBr.size _
      generalize UInt8.ofNat (97 + c % 3) = y at *
      have a6 : ((c : Int)).tdiv 3 = ((c / 3 : Nat) : Int) := by rw [Int.tdiv_eq_ediv_of_nonneg (by omega)]; omega
      go_wp2_with fail
      go_roundg (gk - 1)
      case measure => omega
      case rel => exact ⟨_, c / 3, i + 1, rfl, by go_num, by go_num, by omega, HS.out, HO.out, by omega, HB.out⟩
    · have hik : i = k + 1 := by omega
      subst hik
      have HR : Hid (WordOk (bsN b)) := by
        have h1 := hbs.out
        have h2 := bsN_len b
        exact ⟨fun e => by rw [e] at h2; simp at h2; omega, by omega, hbo.out⟩
      go_wp2_with fail
      go_ret
      exact ⟨⟨b, rfl, HR.out⟩, hBr⟩
/-- A rule of a word, as it is written; rules, from number k on. -/
def blkL (k : Nat) (w : List Nat) : List Nat := (97 + k) :: 61 :: (w ++ [10])
def srcL : Nat → List (List Nat) → List Nat
  | _, [] => []
  | k, w :: ws => blkL k w ++ srcL (k + 1) ws
theorem srcL_snoc : ∀ (ws : List (List Nat)) (k : Nat) (w : List Nat), srcL k (ws ++ [w]) = srcL k ws ++ blkL (k + ws.length) w
  | [], k, w => by simp [srcL]
  | u :: ws, k, w => by
    show blkL k u ++ srcL (k + 1) (ws ++ [w]) = (blkL k u ++ srcL (k + 1) ws) ++ _
    rw [srcL_snoc ws (k + 1) w, List.append_assoc, List.length_cons, show k + 1 + ws.length = k + (ws.length + 1) by omega]
/-- One more word's rule, as the keeper writes it. -/
theorem src_next {src b : ByteArray} {l : List ByteArray} {i : Nat} (hs : bsN src = srcL 0 (l.map bsN)) (hl : l.length = i) (hi : i < 8) : bsN ((((src ++ ⟨#[UInt8.ofNat (97 + i)]⟩) ++ ⟨#[61]⟩) ++ b) ++ ⟨#[10]⟩) = srcL 0 ((l ++ [b]).map bsN) := by
  have e1 : bsN ⟨#[UInt8.ofNat (97 + i)]⟩ = [97 + i] := by
    show [(UInt8.ofNat (97 + i)).toNat] = _
    rw [UInt8.toNat_ofNat', Nat.mod_eq_of_lt (by omega)]
  rw [bsN_append, bsN_append, bsN_append, bsN_append, hs, e1, List.map_append, List.map_cons, List.map_nil, srcL_snoc, List.length_map, hl, Nat.zero_add]
  show _ ++ [97 + i] ++ [61] ++ bsN b ++ [10] = _ ++ ((97 + i) :: 61 :: (bsN b ++ [10]))
  simp
end Go.Proofs.YtjhmlcilabnlbaaDoor
/- The lexer: New, for rules that Check lets pass. -/
namespace Go.Proofs.YtjhmlcilabnlbaaDoor
open Go.RowKit Go.Shelf

attribute [local go_sem] Oper.semAt_some

theorem judge_some : ∀ (l done : List P.Rl) (size : Nat) (x : Int × Nat), P.judge done size l = some x → x.1 ≠ 0 := by
  intro l
  induction l with
  | nil => intro done size x h; cases h
  | cons r rest ih =>
    intro done size x h
    unfold P.judge at h
    split at h
    · cases h; simp
    · split at h
      · cases h; simp
      · split at h
        · cases h; simp
        · exact ih _ _ _ h
/-- What a text that Check lets pass reads as. -/
theorem check_ok {s : ByteArray} (h : (P.check s).2.1 = 0) (hno : readP s ≠ .out) : ∃ l j, readP s = .ok l j ∧ (P.check s).1 = l.length ∧ l ≠ [] ∧ l.length ≤ 8 ∧ (l.map fun r => r.t.sz).sum ≤ 60 ∧ (∀ r, r ∈ l → r.t.em = false) ∧ (P.check s).2.2 = 0 := by
  rw [check_read] at h ⊢
  cases hr : readP s with
  | out => exact absurd hr hno
  | bad p => rw [hr] at h; exact absurd h (by show ¬ (1 : Int) = 0; decide)
  | ok l j =>
    rw [hr] at h
    have hv : P.outcome (.ok l j) = P.verdict l := rfl
    rw [hv] at h ⊢
    unfold P.verdict at h ⊢
    cases hj : P.judge [] 0 l with
    | some x => rw [hj] at h; exact absurd h (judge_some l [] 0 x hj)
    | none =>
      have hne : l ≠ [] := by
        unfold readP at hr
        split at hr
        · cases hr
        · exact text_some s 3210 401 0 [] l j hr
      obtain ⟨h1, h2⟩ := judge_none l [] 0 hj
      have h3 := h1 hne
      simp only [List.length_nil, Nat.zero_add] at h3
      exact ⟨l, j, rfl, rfl, hne, h3.1, h3.2, h2, rfl⟩

/-- The plan is that of the rules that were read. -/
def PlanOf (s : ByteArray) (D : PlD) : Prop :=
  ∃ (ts : List Tr) (l : List P.Rl) (j : Nat), readP s = .ok l j ∧ D = mkAll 0 ts PlD.none ∧ ts.length = l.length ∧ (∀ (i : Nat) (t : Tr) (r : P.Rl), ts[i]? = some t → l[i]? = some r → TX t r.t.x) ∧ lvs ts ≤ 64
/-- What New comes to. -/
def NewOut (s : ByteArray) (room : Nat) (w : World) (e : Ending) (w' : World) : Prop :=
  ∃ lx t p mb B D, e = .returned (.tuple #[.pointer (some ⟨lx, 0, none⟩), .int .i64 0, .int .i64 0]) ∧ LexI B w' lx t p room mb D [] 0 (0, 0) ∧ D.ok ∧ D.whole (P.check s).1 ∧ (P.check s).1 ≤ 8 ∧ 1 ≤ (P.check s).1 ∧ w.heap.size ≤ B ∧ w.heap.size ≤ lx ∧ Below w.heap.size w w' ∧ PlanOf s D

set_option maxRecDepth 100000 in
set_option maxHeartbeats 4000000 in
theorem new_any (s : ByteArray) (room : Nat) (h2 : 2 ≤ room) (hm : room ≤ 1000) (hck : (P.check s).2.1 = 0) (w : World) (h1 : 1 ≤ w.heap.size) (hT : TabIn w) :
    Calls Tryd.prog 9 #[.string s, .int .i64 (room : Int)] w fun e w' => NewOut s room w e w' := by
  have hno : readP s ≠ .out := by
    unfold readP
    split
    · intro e; cases e
    · exact P.text_enough s (by omega) 401 0 [] (by omega)
  obtain ⟨l, j, hrd, hn, hne, h8, h60, hem, h0⟩ := check_ok hck hno
  have hC : Calls Tryd.prog 6 #[.string s] w fun e w' => e = .returned (.tuple #[.int .i64 (l.length : Int), .int .i64 0, .int .i64 0]) ∧ Below w.heap.size w w' := (pcheck_any s w).mono (fun e w' h => ⟨by have h3 := h.1; unfold CheckOut at h3; rw [h3, hn, hck, h0]; rfl, h.2⟩)
  have hr2 : decide ((room : Int) < 2) = false := by simp; omega
  have hr3 : decide ((1000 : Int) < (room : Int)) = false := by simp; omega
  have hr4 : decide ((room : Int) > 1000) = false := by simp; omega
  unfold NewOut
  rw [hn]
  have HNE := hid hne
  have HEM := hid hem
  have HRD := hid hrd
  have H60 := hid h60
  clear hno hne hem hrd hn h0 hck h60
  go_enter Tryd.func9, Tryd.ntmps9
  go_wp2_with fail
  refine hC.mono ?_
  rintro e w1 ⟨rfl, hB1⟩
  clear hC
  have hs1 := hB1.size
  go_wp2_with fail
  refine (pread_any s w1).mono ?_
  rintro e w2 ⟨hB2, hF⟩
  rw [HRD.out] at hF
  obtain ⟨v, xs, rfl, hl, hlen, hown, hN⟩ := hF
  have hs2 := hB2.size
  have hxl : xs.length = l.length := by rw [← hl]; simp
  have hx0 : 0 < xs.length := by
    rw [hxl]
    exact List.length_pos_iff.2 HNE.out
  obtain ⟨g, cap, hv, hcap, hrl⟩ : ∃ g cap, v = .slice (some ⟨g, 0, none⟩) xs.length cap ∧ xs.length ≤ cap ∧ RlIn w2 g xs := by
    rcases hown.2 with ⟨_, h0⟩ | ⟨g, cap, cur, hv, hge, hh, hc, -, -, ht⟩
    · omega
    · exact ⟨g, cap, hv, hc, cur, _, hh, ht⟩
  subst hv
  obtain ⟨ts, hts, hPT, hlv, hlv1, hTX⟩ := trees_for xs (fun x hx => (hN x hx).1) (fun x hx => HEM.out x.1 (by rw [← hl]; exact List.mem_map_of_mem hx))
  have hlv60 : lvs ts ≤ 64 := by
    have e : (xs.map fun x => x.1.t.sz) = (l.map fun r => r.t.sz) := by rw [← hl, List.map_map]; rfl
    have := H60.out
    rw [e] at hlv
    omega
  have hlv0 : 1 ≤ lvs ts := hlv1 (by intro e; rw [e] at hx0; exact absurd hx0 (by decide))
  have HPO : Hid (PlanOf s (mkAll 0 ts PlD.none)) := ⟨ts, l, j, HRD.out, rfl, by rw [← hts, hxl], fun i t r ht hr => by
    obtain ⟨x, hx⟩ : ∃ x, xs[i]? = some x := ⟨xs[i]'(by have := (List.getElem?_eq_some_iff.1 ht).1; omega), List.getElem?_eq_getElem _⟩
    have hr' : x.1 = r := by
      rw [← hl, List.getElem?_map, hx] at hr
      exact Option.some.inj hr
    rw [← hr']
    exact hTX i x t hx ht, hlv60⟩
  clear hTX
  have HPT := hid hPT
  have HTS := hid hts
  have HV := hid hlv60
  clear hown hN hPT hts hlv hlv1 hcap hlv60
  have hT2 : TabIn w2 := (hT.below hB1 (by omega)).below hB2 (by omega)
  have hx8 : xs.length ≤ 8 := by omega
  have h12 : 1 ≤ w2.heap.size := by omega
  have hl1 : 1 ≤ l.length := by omega
  have HXL := hid hxl
  clear hxl
  have hPT2 : ∀ (i : Nat) (x : P.Rl × Nd) (t : Tr), xs[i]? = some x → ts[i]? = some t → PT w2 (fun k => w2.heap.size ≤ k) x.2 t := fun i x t hx ht => (HPT.out i x t hx ht).bars (fun k hk hk2 => absurd hk (Nat.not_lt.2 hk2))
  have hM := make_any xs ts HTS.out hx8 g cap w2 h12 hrl hPT2 HV.out hT2
  clear hPT2 HPT
  generalize hDD : mkAll 0 ts PlD.none = D at hM HPO
  have HDD := hid hDD
  clear hDD
  have HTS2 := HTS
  clear HTS
  go_wp2_with fail
  refine hM.mono ?_
  rintro e w3 ⟨p, vb, vn, rfl, hP, hW, hx64, hB3⟩
  have hnl : 0 < D.nx.length := by rw [← HDD.out, mkAll_len]; omega
  have hbl : 0 < D.bg.length := by rw [hW.len]; exact hx0
  have hs3 := hB3.size
  have HP := hid (hP.done hbl hnl (Nat.le_refl _))
  have HOK := hid (hW.ok (by omega) hx64)
  have HW : Hid (D.whole l.length) := by unfold Hid; rw [← HXL.out]; exact hW
  clear hP hW hx64 hnl hbl HDD hM
  go_wp2_with fail
  refine (newtable_any p room w3).mono ?_
  rintro e w4 ⟨t, mb, rfl, ht, hmb, htm, hTB, hMp, hB4⟩
  have hs4 := hB4.size
  have HB5 : Hid (Below w4.heap.size w4 (w4.alloc (.cells #[.pointer (some ⟨p, 0, none⟩), .pointer (some ⟨t, 0, none⟩)] 67))) := (Below.refl _ _).alloc (Nat.le_refl _) _
  have HLX : Hid (LxB (w4.alloc (.cells #[.pointer (some ⟨p, 0, none⟩), .pointer (some ⟨t, 0, none⟩)] 67)) w4.heap.size p t) := heap_alloc_at _ _
  have htl : t < w4.heap.size := hTB.lt
  have hml : mb < w4.heap.size := hMp.lt
  have HTB := hid hTB
  have HMP := hid hMp
  clear hTB hMp
  go_wp2_with fail
  go_ret3
  have k5 := HB5.out
  refine ⟨w4.heap.size, t, p, mb, w3.heap.size, D, rfl, ⟨HLX.out, ⟨(k5.block t htl).trans HTB.out, HMP.out.keep (k5.block mb hml), fun x hx => (by cases hx), ht, hmb, fun x hx => (by cases hx), htm, fun x hx => (by cases hx), List.Pairwise.nil, Nat.zero_le _, (HP.out.below hB4).below (k5.mono hs4)⟩, Or.inl rfl, ?_, by omega⟩, HOK.out, HW.out, by omega, by omega, by omega, by omega, ?_, HPO.out⟩
  · exact ((hT2.below hB3 (by omega)).below hB4 (by omega)).below k5 (by omega)
  · exact (((hB1.trans (hB2.mono hs1)).trans (hB3.mono (by omega))).trans (hB4.mono (by omega))).trans (k5.mono (by omega))
end Go.Proofs.YtjhmlcilabnlbaaDoor
/- Rules that are words: how they are read. -/
namespace Go.Proofs.YtjhmlcilabnlbaaDoor
open Go.RowKit

theorem bt_bsN (s : ByteArray) (i : Nat) : P.bt s i = match (bsN s)[i]? with | some b => (b : Int) | none => -1 := by
  unfold P.bt bsN
  by_cases h : i < s.size
  · rw [dif_pos h, List.getElem?_map, List.getElem?_eq_getElem (by simpa using h)]
    rfl
  · rw [dif_neg h, List.getElem?_eq_none (by simp; have : s.data.size = s.size := rfl; omega)]
/-- Letters stand at a place of a text, and behind them what ends a row. -/
def Stand (s : ByteArray) (i : Nat) (u : List Nat) : Prop := (∀ (j c : Nat), u[j]? = some c → P.bt s (i + j) = (c : Int) ∧ 97 ≤ c ∧ c ≤ 122) ∧ (P.bt s (i + u.length) = 10 ∨ P.bt s (i + u.length) = -1)
theorem Stand.tail {s : ByteArray} {i c : Nat} {u : List Nat} (h : Stand s i (c :: u)) : Stand s (i + 1) u := by
  refine ⟨fun j d hd => ?_, ?_⟩
  · have := h.1 (j + 1) d (by simpa using hd)
    rwa [show i + (j + 1) = i + 1 + j by omega] at this
  · have := h.2
    rwa [List.length_cons, show i + (u.length + 1) = i + 1 + u.length by omega] at this
theorem Stand.head {s : ByteArray} {i c : Nat} {u : List Nat} (h : Stand s i (c :: u)) : P.bt s i = (c : Int) ∧ 97 ≤ c ∧ c ≤ 122 := h.1 0 c rfl
/-- What stands at the beginning is a letter, or what ends a row. -/
theorem Stand.now {s : ByteArray} {i : Nat} {u : List Nat} (h : Stand s i u) : (97 ≤ P.bt s i ∧ P.bt s i ≤ 122) ∨ P.bt s i = 10 ∨ P.bt s i = -1 := by
  cases u with
  | nil => exact Or.inr h.2
  | cons c u => have := h.head; exact Or.inl (by omega)
theorem plain_letter {c : Int} (h1 : 97 ≤ c) (h2 : c ≤ 122) : P.plain c = true := by
  have a1 : (c == 92) = false := by simp; omega
  have a2 : (c == 46) = false := by simp; omega
  have a3 : (c == 91) = false := by simp; omega
  have a4 : (c == 93) = false := by simp; omega
  have a5 : (c == 40) = false := by simp; omega
  have a6 : (c == 41) = false := by simp; omega
  have a7 : (c == 42) = false := by simp; omega
  have a8 : (c == 43) = false := by simp; omega
  have a9 : (c == 63) = false := by simp; omega
  have a10 : (c == 124) = false := by simp; omega
  have b1 : decide (33 ≤ c) = true := by simp; omega
  have b2 : decide (c ≤ 126) = true := by simp; omega
  unfold P.plain
  rw [a1, a2, a3, a4, a5, a6, a7, a8, a9, a10, b1, b2]; rfl
theorem begins_stop {c : Int} (h : c = 10 ∨ c = -1) : P.begins c = false := by
  rcases h with rfl | rfl <;> rfl
theorem marked_letter {s : ByteArray} {i c : Nat} {u : List Nat} (h : Stand s i (c :: u)) (f o : Nat) : P.marked s (f + 2) o i = .ok ⟨1, false, .set (P.eqB (c : Int))⟩ (i + 1) := by
  obtain ⟨hb, h1, h2⟩ := h.head
  have hn := h.tail.now
  have ea : P.atom s (f + 1) o i = .ok ⟨1, false, .set (P.eqB (c : Int))⟩ (i + 1) := by
    unfold P.atom
    rw [if_neg (by omega)]
    unfold P.leafAt
    rw [if_neg (by omega), if_neg (by omega), if_neg (by omega), if_pos (plain_letter (by omega) (by omega)), hb]
    rfl
  unfold P.marked
  rw [ea]
  show P.marks s (f + 1) (i + 1) _ = _
  unfold P.marks
  rw [if_neg (by omega), if_neg (by omega)]
theorem rowOn_word {s : ByteArray} {o : Nat} : ∀ (u : List Nat) (i f : Nat) (n : Nat) (l : List P.X), Stand s i u → u.length + 3 ≤ f → P.rowOn s f o i ⟨n, false, .row l⟩ = .ok ⟨n + u.length, false, .row (l ++ u.map fun c : Nat => .set (P.eqB (c : Int)))⟩ (i + u.length)
  | [], i, f, n, l, h, hf => by
    obtain ⟨f, rfl⟩ : ∃ g, f = g + 1 := ⟨f - 1, by omega⟩
    have hb := begins_stop h.2
    unfold P.rowOn
    simp only [List.length_nil, Nat.add_zero] at hb ⊢
    rw [hb]
    simp
  | c :: u, i, f, n, l, h, hf => by
    rw [List.length_cons] at hf
    obtain ⟨f, rfl⟩ : ∃ g, f = g + 3 := ⟨f - 3, by omega⟩
    obtain ⟨hb, h1, h2⟩ := h.head
    have hbg : P.begins (P.bt s i) = true := by unfold P.begins; rw [plain_letter (by omega) (by omega)]; simp
    unfold P.rowOn
    simp only
    rw [if_pos hbg, marked_letter h f o]
    show P.rowOn s (f + 2) o (i + 1) _ = _
    have hr := rowOn_word (o := o) u (i + 1) (f + 2) (n + 1) (l ++ [.set (P.eqB (c : Int))]) h.tail (by omega)
    have e : (⟨n + 1, false && false, P.X.snoc (.row l) (.set (P.eqB (c : Int)))⟩ : P.T) = ⟨n + 1, false, .row (l ++ [.set (P.eqB (c : Int))])⟩ := rfl
    rw [e, hr]
    congr 1
    · congr 1
      · rw [List.length_cons]; omega
      · rw [List.map_cons, List.append_assoc]; rfl
    · rw [List.length_cons]; omega
/-- A word is read as one. -/
theorem alt_word {s : ByteArray} {i c : Nat} {u : List Nat} (h : Stand s i (c :: u)) (f o : Nat) (hf : u.length + 8 ≤ f) : P.alt s f o i = .ok ⟨(c :: u).length, false, wordX (c :: u)⟩ (i + (c :: u).length) := by
  obtain ⟨f, rfl⟩ : ∃ g, f = g + 4 := ⟨f - 4, by omega⟩
  have er : P.row s (f + 3) o i = .ok ⟨1 + u.length, false, .row ((c :: u).map fun c : Nat => .set (P.eqB (c : Int)))⟩ (i + 1 + u.length) := by
    unfold P.row
    rw [marked_letter h f o]
    show P.rowOn s (f + 2) o (i + 1) ⟨1, false, .row [_]⟩ = _
    rw [rowOn_word u (i + 1) (f + 2) 1 _ h.tail (by omega)]
    rfl
  unfold P.alt
  rw [er]
  show P.altOn s (f + 3) o (i + 1 + u.length) ⟨1 + u.length, false, .alt [_]⟩ = _
  have hst := h.2
  rw [List.length_cons] at hst ⊢
  unfold P.altOn
  simp only
  rw [show i + 1 + u.length = i + (u.length + 1) by omega, if_neg (by omega), show 1 + u.length = u.length + 1 by omega]
  rfl
theorem nameTo_one {s : ByteArray} {i : Nat} (h1 : 97 ≤ P.bt s i) (h2 : P.bt s i ≤ 122) (h3 : P.bt s (i + 1) = 61) : P.nameTo s 8 i = i + 1 := by
  unfold P.nameTo
  rw [if_pos ⟨h1, h2⟩]
  unfold P.nameTo
  rw [if_neg (by omega)]
theorem rule_word {s : ByteArray} {i c : Nat} {u : List Nat} (h1 : 97 ≤ P.bt s i) (h2 : P.bt s i ≤ 122) (h3 : P.bt s (i + 1) = 61) (h : Stand s (i + 2) (c :: u)) (hu : u.length ≤ 400) : P.rule s 3210 i = .ok ⟨s.extract i (i + 1), i, ⟨(c :: u).length, false, wordX (c :: u)⟩⟩ (i + 2 + (c :: u).length) := by
  unfold P.rule
  rw [nameTo_one h1 h2 h3, if_neg (by omega), if_pos h3, alt_word h 3210 0 (by omega)]
  rfl

/-- What was read of words. -/
def RlOf (k : Nat) (r : P.Rl) (w : List Nat) : Prop := r.t = ⟨w.length, false, wordX w⟩ ∧ r.name.toList = [UInt8.ofNat (97 + k)]
theorem bt_at {s : ByteArray} {i b : Nat} (h : (bsN s)[i]? = some b) : P.bt s i = (b : Int) := by rw [bt_bsN, h]
theorem bsN_byte {s : ByteArray} {i b : Nat} (h : (bsN s)[i]? = some b) : ∃ hi : i < s.size, s[i].toNat = b := by
  have hi : i < s.size := by rw [← bsN_len]; exact (List.getElem?_eq_some_iff.1 h).1
  refine ⟨hi, ?_⟩
  have := bt_at h
  unfold P.bt at this
  rw [dif_pos hi] at this
  omega
theorem one_toList (b : UInt8) : (ByteArray.mk #[b]).toList = [b] := by
  unfold ByteArray.toList
  unfold ByteArray.toList.loop
  rw [if_pos (by show 0 < 1; decide)]
  unfold ByteArray.toList.loop
  rw [if_neg (by show ¬ 0 + 1 < 1; decide)]
  rfl
theorem ext_one (s : ByteArray) (p : Nat) (h : p < s.size) : s.extract p (p + 1) = ⟨#[s[p]]⟩ := by
  apply ByteArray.ext
  apply Array.ext
  · show (s.extract p (p + 1)).size = 1
    rw [ByteArray.size_extract]; omega
  · intro i h1 h2
    have : i = 0 := by simp at h2; omega
    subst this
    have : (s.extract p (p + 1))[0]'(by rw [ByteArray.size_extract]; omega) = s[p] := by
      rw [ByteArray.getElem_extract]; rfl
    exact this
theorem name_at {s : ByteArray} {i b : Nat} (h : (bsN s)[i]? = some b) : (s.extract i (i + 1)).toList = [UInt8.ofNat b] := by
  obtain ⟨hi, hb⟩ := bsN_byte h
  rw [ext_one s i hi, one_toList, ← hb, UInt8.ofNat_toNat]
/-- A rule among others. -/
theorem rule_blk {s : ByteArray} {k : Nat} {w pre post : List Nat} (hs : bsN s = pre ++ ((97 + k) :: 61 :: (w ++ post))) (hp : post = [] ∨ ∃ q, post = 10 :: q) (hk : k < 8) (hw : WordOk w) :
    ∃ r, P.rule s 3210 pre.length = .ok r (pre.length + 2 + w.length) ∧ RlOf k r w ∧ (pre.length + 2 + w.length + post.length = s.size) ∧ (∀ q, post = 10 :: q → P.bt s (pre.length + 2 + w.length) = 10) := by
  have hat : ∀ j, (bsN s)[pre.length + j]? = ((97 + k) :: 61 :: (w ++ post))[j]? := by
    intro j
    rw [hs, List.getElem?_append_right (by omega), show pre.length + j - pre.length = j by omega]
  have h0 : (bsN s)[pre.length]? = some (97 + k) := by have := hat 0; rw [Nat.add_zero] at this; rw [this]; rfl
  have h1 : (bsN s)[pre.length + 1]? = some 61 := by rw [hat 1]; rfl
  have hb0 := bt_at h0
  have hb1 := bt_at h1
  have hwp : ∀ j, (bsN s)[pre.length + 2 + j]? = (w ++ post)[j]? := by
    intro j
    rw [show pre.length + 2 + j = pre.length + (j + 1 + 1) by omega, hat, List.getElem?_cons_succ, List.getElem?_cons_succ]
  have hstop : P.bt s (pre.length + 2 + w.length) = match post with | [] => -1 | b :: _ => (b : Int) := by
    rw [bt_bsN, hwp, List.getElem?_append_right (Nat.le_refl _), Nat.sub_self]
    cases post <;> rfl
  have hst : Stand s (pre.length + 2) w := by
    refine ⟨fun j c hc => ⟨?_, hw.2.2 c (List.mem_of_getElem? hc)⟩, ?_⟩
    · apply bt_at
      rw [hwp, List.getElem?_append_left (List.getElem?_eq_some_iff.1 hc).1]; exact hc
    · rw [hstop]
      rcases hp with rfl | ⟨q, rfl⟩
      · exact Or.inr rfl
      · exact Or.inl rfl
  obtain ⟨c, u, rfl⟩ : ∃ c u, w = c :: u := by
    cases w with
    | nil => exact absurd rfl hw.1
    | cons c u => exact ⟨c, u, rfl⟩
  have hl : (c :: u).length ≤ 4 := hw.2.1
  refine ⟨_, rule_word (by omega) (by omega) hb1 hst (by rw [List.length_cons] at hl; omega), ⟨rfl, name_at h0⟩, ?_, ?_⟩
  · rw [← bsN_len, hs]
    simp
    omega
  · rintro q rfl
    exact hstop
theorem srcL_pos {k : Nat} {w : List Nat} {ws : List (List Nat)} : 0 < (srcL k (w :: ws)).length := by unfold srcL blkL; simp
theorem text_words {s : ByteArray} : ∀ (ws : List (List Nat)) (k : Nat) (pre : List Nat) (acc : List P.Rl) (g : Nat), ws ≠ [] → bsN s = pre ++ srcL k ws → k + ws.length ≤ 8 → (∀ w, w ∈ ws → WordOk w) → ws.length ≤ g →
    ∃ l, P.text s 3210 g pre.length acc = .ok (acc ++ l) s.size ∧ l.length = ws.length ∧ ∀ (i : Nat) (r : P.Rl) (w : List Nat), l[i]? = some r → ws[i]? = some w → RlOf (k + i) r w
  | [], _, _, _, _, h, _, _, _, _ => absurd rfl h
  | w :: ws, k, pre, acc, g, _, hs, hk, hw, hg => by
    rw [List.length_cons] at hk hg
    obtain ⟨g, rfl⟩ : ∃ g', g = g' + 1 := ⟨g - 1, by omega⟩
    have hs2 : bsN s = pre ++ ((97 + k) :: 61 :: (w ++ (10 :: srcL (k + 1) ws))) := by
      rw [hs]
      show pre ++ (blkL k w ++ srcL (k + 1) ws) = _
      unfold blkL; simp
    obtain ⟨r, h1, h2, h3, h4⟩ := rule_blk hs2 (Or.inr ⟨_, rfl⟩) (by omega) (hw w List.mem_cons_self)
    have h10 := h4 _ rfl
    rw [List.length_cons] at h3
    unfold P.text
    rw [h1]
    show ∃ l, (if s.size ≤ pre.length + 2 + w.length then (.ok (acc ++ [r]) (pre.length + 2 + w.length) : P.PR (List P.Rl)) else if P.bt s (pre.length + 2 + w.length) = 10 then (if s.size ≤ pre.length + 2 + w.length + 1 then .ok (acc ++ [r]) (pre.length + 2 + w.length + 1) else P.text s 3210 g (pre.length + 2 + w.length + 1) (acc ++ [r])) else .bad (pre.length + 2 + w.length)) = _ ∧ _
    rw [if_neg (by omega), if_pos h10]
    cases ws with
    | nil =>
      have e : (srcL (k + 1) []).length = 0 := rfl
      refine ⟨[r], ?_, rfl, ?_⟩
      · rw [if_pos (by omega), show pre.length + 2 + w.length + 1 = s.size by omega]
      · intro i r' w' hr hw'
        cases i with
        | zero => simp at hr hw'; subst hr; subst hw'; exact h2
        | succ i => simp at hr
    | cons w2 ws =>
      have hpos : 0 < (srcL (k + 1) (w2 :: ws)).length := srcL_pos
      rw [if_neg (by omega)]
      have hs3 : bsN s = (pre ++ blkL k w) ++ srcL (k + 1) (w2 :: ws) := by
        rw [hs]
        show pre ++ (blkL k w ++ srcL (k + 1) (w2 :: ws)) = _
        rw [List.append_assoc]
      obtain ⟨l, h5, h6, h7⟩ := text_words (w2 :: ws) (k + 1) (pre ++ blkL k w) (acc ++ [r]) g (by simp) hs3 (by omega) (fun w' hw' => hw w' (List.mem_cons_of_mem _ hw')) (by omega)
      have hpl : (pre ++ blkL k w).length = pre.length + 2 + w.length + 1 := by unfold blkL; simp; omega
      rw [hpl] at h5
      refine ⟨r :: l, ?_, by simp [h6], ?_⟩
      · rw [h5]; simp
      · intro i r' w' hr hw'
        cases i with
        | zero => simp at hr hw'; subst hr; subst hw'; exact h2
        | succ i =>
          have := h7 i r' w' (by simpa using hr) (by simpa using hw')
          rwa [show k + 1 + i = k + (i + 1) by omega] at this
theorem RlOf.sum : ∀ (l : List P.Rl) (ws : List (List Nat)) (k : Nat), l.length = ws.length → (∀ (i : Nat) (r : P.Rl) (w : List Nat), l[i]? = some r → ws[i]? = some w → RlOf (k + i) r w) → (l.map fun r => r.t.sz).sum = (ws.map List.length).sum
  | [], [], _, _, _ => rfl
  | [], _ :: _, _, h, _ => by simp at h
  | _ :: _, [], _, h, _ => by simp at h
  | r :: l, w :: ws, k, h, hr => by
    have e := (hr 0 r w rfl rfl).1
    simp only [List.map_cons, List.sum_cons]
    rw [RlOf.sum l ws (k + 1) (by simpa using h) (fun i r' w' h1 h2 => by have := hr (i + 1) r' w' (by simpa using h1) (by simpa using h2); rwa [show k + (i + 1) = k + 1 + i by omega] at this), e]
/-- Rules that are words have no fault. -/
theorem judge_words : ∀ (l : List P.Rl) (ws : List (List Nat)) (done : List P.Rl) (size : Nat), l.length = ws.length → (∀ (i : Nat) (r : P.Rl) (w : List Nat), l[i]? = some r → ws[i]? = some w → RlOf (done.length + i) r w) → (∀ (i : Nat) (r : P.Rl), done[i]? = some r → r.name.toList = [UInt8.ofNat (97 + i)]) → done.length + l.length ≤ 8 → size + (ws.map List.length).sum ≤ 60 → P.judge done size l = none
  | [], _, _, _, _, _, _, _, _ => by unfold P.judge; rfl
  | _ :: _, [], _, _, h, _, _, _, _ => by simp at h
  | r :: l, w :: ws, done, size, hl, hr, hd, h8, h60 => by
    obtain ⟨e1, e2⟩ := hr 0 r w rfl rfl
    rw [List.length_cons] at h8
    simp only [List.map_cons, List.sum_cons] at h60
    have hsz : r.t.sz = w.length := by rw [e1]
    have hem : r.t.em = false := by rw [e1]
    unfold P.judge
    rw [if_neg (by rw [hsz]; omega), if_neg, if_neg (by rw [hem]; exact Bool.false_ne_true)]
    · refine judge_words l ws (done ++ [r]) (size + r.t.sz) (by simpa using hl) ?_ ?_ (by rw [List.length_append, List.length_cons, List.length_nil]; omega) (by rw [hsz]; omega)
      · intro i r' w' h1 h2
        have := hr (i + 1) r' w' (by simpa using h1) (by simpa using h2)
        rw [List.length_append, List.length_cons, List.length_nil, show done.length + (0 + 1) + i = done.length + (i + 1) by omega]
        exact this
      · intro i r' h1
        by_cases hi : i < done.length
        · rw [List.getElem?_append_left hi] at h1; exact hd i r' h1
        · have hil := (List.getElem?_eq_some_iff.1 h1).1
          rw [List.length_append, List.length_cons, List.length_nil] at hil
          have hie : i = done.length := by omega
          subst hie
          rw [List.getElem?_append_right (Nat.le_refl _), Nat.sub_self] at h1
          simp at h1
          subst h1
          exact e2
    · intro h
      obtain ⟨d, hd1, hd2⟩ := List.any_eq_true.1 h
      obtain ⟨i, hi⟩ := List.mem_iff_getElem?.1 hd1
      have hil := (List.getElem?_eq_some_iff.1 hi).1
      have h1 := hd i d hi
      rw [h1, e2] at hd2
      have h3 : ∀ a b : UInt8, ([a] == [b]) = true → a = b := fun a b h => by simpa using h
      have h4 := congrArg UInt8.toNat (h3 _ _ hd2)
      rw [UInt8.toNat_ofNat', UInt8.toNat_ofNat'] at h4
      omega
/-- What New and Check make of rules that are words. -/
structure WordsSrc (s : ByteArray) (ws : List (List Nat)) : Prop where
  check : P.check s = (ws.length, 0, 0)
  read : ∃ l j, readP s = .ok l j ∧ l.length = ws.length ∧ ∀ (i : Nat) (r : P.Rl) (w : List Nat), l[i]? = some r → ws[i]? = some w → r.t.x = wordX w
theorem WordsSrc.of {s : ByteArray} {ws : List (List Nat)} {l : List P.Rl} (hs : s.size ≤ 400) (ht : P.text s 3210 401 0 [] = .ok l s.size) (hl : l.length = ws.length) (hr : ∀ (i : Nat) (r : P.Rl) (w : List Nat), l[i]? = some r → ws[i]? = some w → RlOf (0 + i) r w) (h8 : ws.length ≤ 8) (h60 : (ws.map List.length).sum ≤ 60) : WordsSrc s ws := by
  have hrd : readP s = .ok l s.size := by unfold readP; rw [if_neg (by omega)]; exact ht
  have hj : P.judge [] 0 l = none := judge_words l ws [] 0 hl hr (fun i r h => by simp at h) (by simp; omega) (by omega)
  refine ⟨?_, l, s.size, hrd, hl, fun i r w h1 h2 => by rw [(hr i r w h1 h2).1]⟩
  rw [check_read, hrd]
  show P.verdict l = _
  unfold P.verdict
  rw [hj, hl]
theorem sum_four : ∀ (ws : List (List Nat)), (∀ w, w ∈ ws → w.length ≤ 4) → (ws.map List.length).sum ≤ 4 * ws.length
  | [], _ => by simp
  | w :: ws, h => by
    have h1 := h w List.mem_cons_self
    have h2 := sum_four ws (fun w' hw' => h w' (List.mem_cons_of_mem _ hw'))
    simp only [List.map_cons, List.sum_cons, List.length_cons]
    omega
theorem srcL_len : ∀ (ws : List (List Nat)) (k : Nat), (srcL k ws).length = (ws.map List.length).sum + 3 * ws.length
  | [], _ => rfl
  | w :: ws, k => by
    unfold srcL blkL
    rw [List.length_append, srcL_len ws (k + 1)]
    simp
    omega
theorem words_src {s : ByteArray} {ws : List (List Nat)} (hne : ws ≠ []) (hs : bsN s = srcL 0 ws) (h8 : ws.length ≤ 8) (hw : ∀ w, w ∈ ws → WordOk w) : WordsSrc s ws := by
  have h4 := sum_four ws (fun w h => (hw w h).2.1)
  have hsz : s.size ≤ 400 := by rw [← bsN_len, hs, srcL_len]; omega
  obtain ⟨l, h1, h2, h3⟩ := text_words ws 0 [] [] 401 hne (by simpa using hs) (by omega) hw (by omega)
  exact WordsSrc.of hsz h1 h2 h3 h8 (by omega)
/-- The plain rule, where there are none. -/
theorem words_none {s : ByteArray} (hs : bsN s = [97, 61, 97, 98]) : WordsSrc s [[97, 98]] := by
  have hz : s.size = 4 := by rw [← bsN_len, hs]; rfl
  obtain ⟨r, h1, h2, h3, -⟩ := rule_blk (s := s) (k := 0) (w := [97, 98]) (pre := []) (post := []) hs (Or.inl rfl) (by omega) ⟨by simp, by simp, by simp⟩
  have ht : P.text s 3210 401 0 [] = .ok [r] s.size := by
    unfold P.text
    rw [show P.rule s 3210 0 = .ok r 4 from h1]
    show (if s.size ≤ 4 then (.ok ([] ++ [r]) 4 : P.PR (List P.Rl)) else _) = _
    rw [if_pos (by omega), hz]; rfl
  refine WordsSrc.of (by omega) ht rfl (fun i r' w hr hw => ?_) (by simp) (by simp)
  cases i with
  | zero => simp at hr hw; subst hr; subst hw; exact h2
  | succ i => simp at hr
/-- The plan of words. -/
theorem WordsSrc.plan {s : ByteArray} {ws : List (List Nat)} (h : WordsSrc s ws) (hw : ∀ w, w ∈ ws → WordOk w) (h8 : ws.length ≤ 8) {D : PlD} (hD : PlanOf s D) : ∃ A, WPlan D ws A := by
  obtain ⟨ts, l, j, h1, rfl, h3, h4, -⟩ := hD
  obtain ⟨l', j', g1, g2, g3⟩ := h.read
  rw [h1] at g1
  injection g1 with e1 e2
  subst e1
  have h5 := sum_four ws (fun w h => (hw w h).2.1)
  have := WPlan.all ts ws PlD.none [] [] WPlan.none (by omega) (fun i t w ht hwi => by
    have hil : i < l.length := by rw [← h3]; exact (List.getElem?_eq_some_iff.1 ht).1
    have := h4 i t l[i] ht (List.getElem?_eq_getElem hil)
    rwa [g3 i _ w (List.getElem?_eq_getElem hil) hwi] at this) (fun w hwm => (hw w hwm).1) (by show 0 + _ ≤ 64; omega)
  simpa using this
end Go.Proofs.YtjhmlcilabnlbaaDoor
/- The keeper's words: where a word stands. -/
namespace Go.Proofs.YtjhmlcilabnlbaaDoor
open Go.RowKit

theorem toList_loop (b : ByteArray) : ∀ (n i : Nat) (r : List UInt8), b.size - i = n → ByteArray.toList.loop b i r = r.reverse ++ b.data.toList.drop i
  | 0, i, r, h => by
    unfold ByteArray.toList.loop
    rw [if_neg (by omega), List.drop_eq_nil_of_le (by show b.data.toList.length ≤ i; simp; have : b.data.size = b.size := rfl; omega)]; simp
  | n + 1, i, r, h => by
    unfold ByteArray.toList.loop
    have hi : i < b.size := by omega
    rw [if_pos hi, toList_loop b n (i + 1) _ (by omega)]
    have hd : i < b.data.toList.length := by simpa using hi
    rw [List.drop_eq_getElem_cons hd]
    have e : b.get! i = b.data.toList[i] := by
      show b.data[i]! = _
      simp [getElem!_pos, hi]
    rw [e]; simp
theorem toList_data (b : ByteArray) : b.toList = b.data.toList := by
  unfold ByteArray.toList
  rw [toList_loop b _ 0 [] rfl]; simp
theorem bsN_get (s : ByteArray) {j : Nat} (h : j < s.size) : (bsN s)[j]? = some (byteN s j) := by
  unfold bsN
  rw [List.getElem?_map, List.getElem?_eq_getElem (by simpa using h)]
  rw [← byteN_at h]; rfl
theorem byteN_sub (x : ByteArray) {a e j : Nat} (he : e ≤ x.size) (h : a + j < e) : byteN (x.extract a e) j = byteN x (a + j) := by
  have h1 : j < (x.extract a e).size := by rw [ByteArray.size_extract]; omega
  rw [← byteN_at h1, ← byteN_at (show a + j < x.size by omega), ByteArray.getElem_extract]
/-- The keeper's look at a word. -/
theorem fits_iff {x b : ByteArray} {L : List ByteArray} {k a : Nat} (hk : L[k]? = some b) : FitsW (L.map bsN) x a k ↔ a + b.size ≤ x.size ∧ ((x.extract a (a + b.size)).toList == b.toList) = true := by
  have hw : (L.map bsN)[k]? = some (bsN b) := by rw [List.getElem?_map, hk]; rfl
  constructor
  · rintro ⟨w, h1, h2, h3⟩
    rw [hw] at h1
    have e := Option.some.inj h1
    subst e
    rw [bsN_len] at h2 h3
    refine ⟨h2, ?_⟩
    have e : x.extract a (a + b.size) = b := by
      apply ByteArray.ext
      apply Array.ext
      · show (x.extract a (a + b.size)).size = b.size
        rw [ByteArray.size_extract]; omega
      · intro j g1 g2
        have g2' : j < b.size := g2
        have g1' : j < (x.extract a (a + b.size)).size := g1
        have h4 := h3 j g2'
        rw [bsN_get b g2'] at h4
        have h5 := Option.some.inj h4
        rw [← byteN_sub x (e := a + b.size) h2 (by omega), ← byteN_at g2', ← byteN_at g1'] at h5
        exact (UInt8.toNat_inj.1 h5).symm
    rw [e]; exact beq_self_eq_true _
  · rintro ⟨h1, h2⟩
    have h3 : (x.extract a (a + b.size)).toList = b.toList := eq_of_beq h2
    rw [toList_data, toList_data] at h3
    have h4 : x.extract a (a + b.size) = b := by
      apply ByteArray.ext
      exact Array.toList_inj.1 h3
    refine ⟨bsN b, hw, by rw [bsN_len]; exact h1, ?_⟩
    intro j hj
    rw [bsN_len] at hj
    rw [bsN_get b hj, ← byteN_sub x (e := a + b.size) h1 (by omega), h4]
theorem lenW_map {L : List ByteArray} {k : Nat} {b : ByteArray} (hk : L[k]? = some b) : lenW (L.map bsN) k = b.size := by
  rw [lenW_of (show (L.map bsN)[k]? = some (bsN b) by rw [List.getElem?_map, hk]; rfl), bsN_len]
/-- A number, or -1. -/
def optI : Option Nat → Int
  | none => -1
  | some i => (i : Int)
theorem BestOk.start (ws : List (List Nat)) (s : ByteArray) (a : Nat) : BestOk ws s a 0 none := fun k hk => by omega
theorem BestOk.no {ws : List (List Nat)} {s : ByteArray} {a m : Nat} {o : Option Nat} (h : BestOk ws s a m o) (hn : ¬ FitsW ws s a m) : BestOk ws s a (m + 1) o := by
  cases o with
  | none =>
    intro k hk hf
    by_cases e : k = m
    · subst e; exact hn hf
    · exact h k (by omega) hf
  | some i =>
    obtain ⟨h1, h2, h3⟩ := h
    refine ⟨by omega, h2, fun k hk hf => ?_⟩
    by_cases e : k = m
    · subst e; exact absurd hf hn
    · exact h3 k (by omega) hf
theorem BestOk.first {ws : List (List Nat)} {s : ByteArray} {a m : Nat} (h : BestOk ws s a m none) (hf : FitsW ws s a m) : BestOk ws s a (m + 1) (some m) :=
  ⟨by omega, hf, fun k hk hfk => by
    by_cases e : k = m
    · subst e; exact Or.inr ⟨rfl, Nat.le_refl _⟩
    · exact absurd hfk (h k (by omega))⟩
theorem BestOk.more {ws : List (List Nat)} {s : ByteArray} {a m i : Nat} (h : BestOk ws s a m (some i)) (hf : FitsW ws s a m) (hl : lenW ws i < lenW ws m) : BestOk ws s a (m + 1) (some m) := by
  obtain ⟨h1, h2, h3⟩ := h
  refine ⟨by omega, hf, fun k hk hfk => ?_⟩
  by_cases e : k = m
  · subst e; exact Or.inr ⟨rfl, Nat.le_refl _⟩
  · rcases h3 k (by omega) hfk with h4 | ⟨h4, -⟩ <;> exact Or.inl (by omega)
theorem BestOk.less {ws : List (List Nat)} {s : ByteArray} {a m i : Nat} (h : BestOk ws s a m (some i)) (hl : ¬ lenW ws i < lenW ws m) : BestOk ws s a (m + 1) (some i) := by
  obtain ⟨h1, h2, h3⟩ := h
  refine ⟨by omega, h2, fun k hk hfk => ?_⟩
  by_cases e : k = m
  · subst e
    by_cases e2 : lenW ws k = lenW ws i
    · exact Or.inr ⟨e2, by omega⟩
    · exact Or.inl (by omega)
  · exact h3 k (by omega) hfk
/-- Texts in a block. -/
def StrAt (w : World) (g : Nat) (L : List ByteArray) : Prop := ∃ cur fz, w.heap[g]? = some (.cells cur 9 fz) ∧ cur.toList.take L.length = L.map .string
theorem StrAt.cell {w : World} {g : Nat} {L : List ByteArray} (h : StrAt w g L) {k : Nat} {b : ByteArray} (hk : L[k]? = some b) : w.cell? ⟨g, k, none⟩ = some (.string b) := by
  obtain ⟨cur, fz, h1, h2⟩ := h
  have hkl : k < L.length := (List.getElem?_eq_some_iff.1 hk).1
  have h3 : (cur.toList.take L.length)[k]? = some (.string b) := by rw [h2, List.getElem?_map, hk]; rfl
  rw [List.getElem?_take, if_pos hkl] at h3
  simp [World.cell?, h1]
  simpa using h3
theorem StrAt.lt {w : World} {g : Nat} {L : List ByteArray} (h : StrAt w g L) : g < w.heap.size := by
  obtain ⟨cur, fz, h1, -⟩ := h
  exact (Array.getElem?_eq_some_iff.1 h1).1
theorem StrAt.below {w w' : World} {g : Nat} {L : List ByteArray} (h : StrAt w g L) (k : Below w.heap.size w w') : StrAt w' g L := by
  have hlt := h.lt
  obtain ⟨cur, fz, h1, h2⟩ := h
  exact ⟨cur, fz, (k.block g hlt).trans h1, h2⟩
end Go.Proofs.YtjhmlcilabnlbaaDoor
