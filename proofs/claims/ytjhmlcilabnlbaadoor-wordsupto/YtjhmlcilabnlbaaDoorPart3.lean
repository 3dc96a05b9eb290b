import Derived.Deep.CutBlock
import Derived.Test.YtjhmlcilabnlbaaDoorPart2
/- States: a leaf. -/
namespace Go.Proofs.YtjhmlcilabnlbaaDoor
open Go.RowKit Go.Shelf

theorem Tryd.info58 : (Tryd.prog.info? 58).map (fun i => (i.zero, i.size, i.bytes)) = some (some (.agg #[.int .u64 0, .int .u64 0]), 2, 16) := by kernel_rfl

theorem PlanIn.append {B p : Nat} {W w6 : World} {vb vn v' : Value} {D : PlD} {a : S2} (h : PlanIn B W p vb vn D) (hown : w6.ownsRow B 58 2 v' (D.nx.length + 1) (setCells D.nx ++ [.int .u64 (a.1 : Int), .int .u64 (a.2 : Int)])) (hg : W.grownBy w6 vn.ownBlock) (hat : v'.ownBlock = vn.ownBlock ∨ v'.ownBlock = some W.heap.size) :
    PlanIn B (w6.setCell ⟨p, 1, none⟩ v') p vb v' (D.nxt (D.nx ++ [a])) := by
  have hlt := h.lt
  have hp : v'.ownBlock ≠ some p := by
    rcases hat with e | e
    · rw [e]; exact h.an
    · rw [e]; intro e2; have := Option.some.inj e2; omega
  have other : ∀ j, j ≠ p → j < W.heap.size → vn.ownBlock ≠ some j → (w6.setCell ⟨p, 1, none⟩ v').heap[j]? = W.heap[j]? := fun j hj hjl hv => (Below.heap_setCell _ _ _ _ hj).trans (hg.block j hjl (fun e => hv e.symm))
  have hl : RowS w6 B v' (D.nx ++ [a]) := by unfold RowS; rw [List.length_append, setCells_snoc]; exact hown
  obtain ⟨cs, hc, h1, h2, h3, h4, h5, h6⟩ := h.blk
  have hc6 := (hg.block p hlt (fun e => h.an e.symm)).trans hc
  refine ⟨h.pge, ⟨cs.setIfInBounds 1 v', hset hc6 _, by simpa using h1, ?_, ?_, ?_, ?_, ?_⟩, h.ob.keep (fun j hj => other j (fun e => h.ab (e ▸ hj)) (h.ob.lt hj).1 (h.abn j hj)), hl.keep (fun j hj => Below.heap_setCell _ _ _ _ (show j ≠ p from fun e => hp (e ▸ hj))), h.ab, hp, ?_⟩
  · rw [Array.getElem?_setIfInBounds_ne (by omega)]; exact h2
  · rw [Array.getElem?_setIfInBounds_self_of_lt (by omega)]
  · intro b hb
    exact ⟨by rw [Array.getElem?_setIfInBounds_ne (by omega)]; exact (h4 b hb).1, by rw [Array.getElem?_setIfInBounds_ne (by omega)]; exact (h4 b hb).2⟩
  · rw [Array.getElem?_setIfInBounds_ne (by omega)]; exact h5
  · rw [Array.getElem?_setIfInBounds_ne (by omega)]; exact h6
  · intro g hgb
    rcases hat with e | e
    · rw [e]; exact h.abn g hgb
    · rw [e]; intro e2; have := Option.some.inj e2; have := (h.ob.lt hgb).1; omega

theorem two_cells {W : World} {u0 u1 : Value} {N : Nat} (hN : W.heap.size = N) (j : Nat) (u : Value) (h : [u0, u1][j]? = some u) : (W.alloc (.cells #[u0, u1] 58)).cell? ((⟨N, 0, none⟩ : Addr).add j) = some u := by
  subst hN
  have e : (⟨W.heap.size, 0, none⟩ : Addr).add j = ⟨W.heap.size, j, none⟩ := by
    unfold Addr.add
    by_cases hj : j = 0
    · simp [hj]
    · simp [hj]
  rw [e]
  unfold World.cell?
  rw [heap_alloc_at]
  simpa using h

/-- A piece's block. -/
def PB (w : World) (g : Nat) (a : Pc) : Prop := w.heap[g]? = some (.cells #[.int .u64 (a.fst.1 : Int), .int .u64 (a.fst.2 : Int), .int .u64 (a.lst.1 : Int), .int .u64 (a.lst.2 : Int), .bool a.em] 83 (0, 0))
theorem PB.c0 {w : World} {g : Nat} {a : Pc} (h : PB w g a) : w.cell? ⟨g, 0, none⟩ = some (.int .u64 (a.fst.1 : Int)) := by simp [World.cell?, show w.heap[g]? = _ from h]
theorem PB.c1 {w : World} {g : Nat} {a : Pc} (h : PB w g a) : w.cell? ⟨g, 1, none⟩ = some (.int .u64 (a.fst.2 : Int)) := by simp [World.cell?, show w.heap[g]? = _ from h]
theorem PB.c2 {w : World} {g : Nat} {a : Pc} (h : PB w g a) : w.cell? ⟨g, 2, none⟩ = some (.int .u64 (a.lst.1 : Int)) := by simp [World.cell?, show w.heap[g]? = _ from h]
theorem PB.c3 {w : World} {g : Nat} {a : Pc} (h : PB w g a) : w.cell? ⟨g, 3, none⟩ = some (.int .u64 (a.lst.2 : Int)) := by simp [World.cell?, show w.heap[g]? = _ from h]
theorem PB.c4 {w : World} {g : Nat} {a : Pc} (h : PB w g a) : w.cell? ⟨g, 4, none⟩ = some (.bool a.em) := by simp [World.cell?, show w.heap[g]? = _ from h]
theorem PB.fz {w : World} {g : Nat} {a : Pc} (h : PB w g a) (k : Nat) : w.frozen? ⟨g, k, none⟩ = false := by simp [World.frozen?, show w.heap[g]? = _ from h]
theorem PB.lt {w : World} {g : Nat} {a : Pc} (h : PB w g a) : g < w.heap.size := (Array.getElem?_eq_some_iff.1 h).1
/-- A piece laid into its block. -/
def putPc (w : World) (g : Nat) (x : Pc) : World := ((((w.setCell ⟨g, 0, none⟩ (.int .u64 (x.fst.1 : Int))).setCell ⟨g, 1, none⟩ (.int .u64 (x.fst.2 : Int))).setCell ⟨g, 2, none⟩ (.int .u64 (x.lst.1 : Int))).setCell ⟨g, 3, none⟩ (.int .u64 (x.lst.2 : Int))).setCell ⟨g, 4, none⟩ (.bool x.em)
theorem PB.put {w : World} {g : Nat} {a : Pc} (h : PB w g a) (x : Pc) : PB (putPc w g x) g x := hset (hset (hset (hset (hset h _) _) _) _) _
theorem putPc_other (w : World) (g : Nat) (x : Pc) {k : Nat} (hk : k ≠ g) : (putPc w g x).heap[k]? = w.heap[k]? :=
  (Below.heap_setCell _ _ _ _ hk).trans ((Below.heap_setCell _ _ _ _ hk).trans ((Below.heap_setCell _ _ _ _ hk).trans ((Below.heap_setCell _ _ _ _ hk).trans (Below.heap_setCell _ _ _ _ hk))))
theorem putPc_turn {S : Nat → Prop} {a w : World} {g : Nat} (h : Turn S a w) (hg : a.heap.size ≤ g) (x : Pc) : Turn S a (putPc w g x) :=
  have k : ∀ o, (⟨g, o, none⟩ : Addr).block < a.heap.size → S (⟨g, o, none⟩ : Addr).block := fun o hl => absurd hl (by show ¬ g < a.heap.size; omega)
  (((((h.setCell ⟨g, 0, none⟩ (k 0) _).setCell ⟨g, 1, none⟩ (k 1) _).setCell ⟨g, 2, none⟩ (k 2) _).setCell ⟨g, 3, none⟩ (k 3) _).setCell ⟨g, 4, none⟩ (k 4) _)
theorem PlanIn.putPc {B p : Nat} {w : World} {vb vn : Value} {D : PlD} (h : PlanIn B w p vb vn D) {g : Nat} (hp : p ≠ g) (hb : vb.ownBlock ≠ some g) (hn : vn.ownBlock ≠ some g) (x : Pc) : PlanIn B (putPc w g x) p vb vn D :=
  h.keep (putPc_other _ _ _ hp) (fun _ hj => putPc_other _ _ _ (fun e => hb (e ▸ hj))) (fun _ hj => putPc_other _ _ _ (fun e => hn (e ▸ hj)))

/-- What may turn while a plan is made. -/
def plS (p : Nat) (vn : Value) : Nat → Prop := fun k => k = p ∨ vn.ownBlock = some k
/-- Where the list lies now. -/
def Moved (w : World) (vn vn' : Value) : Prop := vn'.ownBlock = vn.ownBlock ∨ ∃ g, w.heap.size ≤ g ∧ vn'.ownBlock = some g

/-- Between two bytes. -/
structure LeafI (B : Nat) (w : World) (p : Nat) (vb vn vn' : Value) (x0 x1 x2 x3 : Int) (D : PlD) (W : World) : Prop where
  pl : PlanIn B W p vb vn' D
  tn : Turn (plS p vn) w W
  bx : W.heap[w.heap.size]? = some (.cells #[.int .u64 x0, .int .u64 x1, .int .u64 x2, .int .u64 x3] 46 (0, 0))
  rs : W.heap[w.heap.size + 1]? = some (.cells #[.int .u64 0, .int .u64 0, .int .u64 0, .int .u64 0, .bool false] 83 (0, 0))
theorem LeafI.below {B p : Nat} {w W W' : World} {vb vn vn' : Value} {x0 x1 x2 x3 : Int} {D : PlD} (h : LeafI B w p vb vn vn' x0 x1 x2 x3 D W) (k : Below W.heap.size W W') : LeafI B w p vb vn vn' x0 x1 x2 x3 D W' :=
  ⟨h.pl.below k (Nat.le_refl _), h.tn.below k h.tn.size, (k.block _ (Array.getElem?_eq_some_iff.1 h.bx).1).trans h.bx, (k.block _ (Array.getElem?_eq_some_iff.1 h.rs).1).trans h.rs⟩
theorem LeafI.store {B p : Nat} {w W : World} {vb vn vn' : Value} {x0 x1 x2 x3 : Int} {D : PlD} (h : LeafI B w p vb vn vn' x0 x1 x2 x3 D W) (hp : p < w.heap.size) {m : Nat} (hm : m < 256) (z : S2) :
    LeafI B w p vb vn vn' x0 x1 x2 x3 (D.at m z) ((W.setCell ⟨p, 2 + m * 2, none⟩ (.int .u64 (z.1 : Int))).setCell ⟨p, 2 + m * 2 + 1, none⟩ (.int .u64 (z.2 : Int))) :=
  ⟨h.pl.storem hm z, (h.tn.setCell ⟨p, 2 + m * 2, none⟩ (fun _ => Or.inl rfl) _).setCell ⟨p, 2 + m * 2 + 1, none⟩ (fun _ => Or.inl rfl) _,
    ((Below.heap_setCell _ _ _ _ (by show w.heap.size ≠ p; omega)).trans (Below.heap_setCell _ _ _ _ (by show w.heap.size ≠ p; omega))).trans h.bx,
    ((Below.heap_setCell _ _ _ _ (by show w.heap.size + 1 ≠ p; omega)).trans (Below.heap_setCell _ _ _ _ (by show w.heap.size + 1 ≠ p; omega))).trans h.rs⟩

set_option maxRecDepth 100000 in
set_option maxHeartbeats 2000000 in
theorem atom_any (B : Nat) (D : PlD) (hD : D.fine) (hn : D.nx.length < 64) (p : Nat) (vb vn : Value) (x0 x1 x2 x3 : Int) (w : World) (hP : PlanIn B w p vb vn D) :
    Calls Tryd.prog 43 #[.pointer (some ⟨p, 0, none⟩), .agg #[.int .u64 x0, .int .u64 x1, .int .u64 x2, .int .u64 x3]] w fun e w' => ∃ vn', e = .returned (leafPc D.nx.length).val ∧ PlanIn B w' p vb vn' (D.leaf x0 x1 x2 x3) ∧ Turn (plS p vn) w w' ∧ Moved w vn vn' := by
  have hplt := hP.lt
  have hpB := hP.pge
  obtain ⟨ad, c, rfl⟩ := hP.on.shape
  have hB0 : Below w.heap.size w ((w.alloc (.cells #[.int .u64 x0, .int .u64 x1, .int .u64 x2, .int .u64 x3] 46)).alloc (.cells #[.int .u64 0, .int .u64 0, .int .u64 0, .int .u64 0, .bool false] 83)) := ((Below.refl _ w).alloc (Nat.le_refl _) _).alloc (by simp) _
  have q0 : ((w.alloc (.cells #[.int .u64 x0, .int .u64 x1, .int .u64 x2, .int .u64 x3] 46)).alloc (.cells #[.int .u64 0, .int .u64 0, .int .u64 0, .int .u64 0, .bool false] 83)).heap[w.heap.size]? = some (.cells #[.int .u64 x0, .int .u64 x1, .int .u64 x2, .int .u64 x3] 46 (0, 0)) := heap_alloc_old (heap_alloc_at _ _) (by simp)
  have q1 : ((w.alloc (.cells #[.int .u64 x0, .int .u64 x1, .int .u64 x2, .int .u64 x3] 46)).alloc (.cells #[.int .u64 0, .int .u64 0, .int .u64 0, .int .u64 0, .bool false] 83)).heap[w.heap.size + 1]? = some (.cells #[.int .u64 0, .int .u64 0, .int .u64 0, .int .u64 0, .bool false] 83 (0, 0)) := by
    have h := heap_alloc_at (w.alloc (.cells #[.int .u64 x0, .int .u64 x1, .int .u64 x2, .int .u64 x3] 46)) (.cells #[.int .u64 0, .int .u64 0, .int .u64 0, .int .u64 0, .bool false] 83)
    rw [World.size_alloc] at h
    exact h
  have hP0 := hP.below hB0 (Nat.le_refl _)
  have cn := hP0.cn
  obtain ⟨i0, hi0, hz0, hz1, hz2⟩ := info_parts Tryd.info58
  have hlenI : (D.nx.length : Int) < 64 := by omega
  go_enter Tryd.func43, Tryd.ntmps43
  go_wp2_with (first
    | (at_builtin; refine wpList_append_own_at _ rfl (.tmp 17) (.tmp 19) 75 rfl B 58 i0 _ 2 16 Tryd.underlying75 hi0 hz0 hz1 hz2 rfl (by decide) _ _ _ rfl (hP0.on.alloc _) ⟨w.heap.size + 1 + 1, 0, none⟩ 1 1 [.int .u64 0, .int .u64 0] rfl rfl ?c1 ?c2 ?c3 ?c4 ?c5 ?_))
  case c1 => exact two_cells (by simp)
  case c2 => intro u hu; simp at hu; subst hu; rfl
  case c3 => unfold maxLen; omega
  case c4 => omega
  case c5 => simp; omega
  · intro v' w6 hown6 hg6 hnil hat6
    obtain ⟨ad', c', rfl⟩ := powns_shape hown6
    have hW : ((w.alloc (.cells #[.int .u64 x0, .int .u64 x1, .int .u64 x2, .int .u64 x3] 46)).alloc (.cells #[.int .u64 0, .int .u64 0, .int .u64 0, .int .u64 0, .bool false] 83)).heap.size = w.heap.size + 1 + 1 := by simp
    generalize ((w.alloc (.cells #[.int .u64 x0, .int .u64 x1, .int .u64 x2, .int .u64 x3] 46)).alloc (.cells #[.int .u64 0, .int .u64 0, .int .u64 0, .int .u64 0, .bool false] 83)) = V at *
    have hVa : Below V.heap.size V (V.alloc (.cells #[.int .u64 0, .int .u64 0] 58)) := (Below.refl _ _).alloc (Nat.le_refl _) _
    have hPa := hP0.below hVa (Nat.le_refl _)
    have hsa : (V.alloc (.cells #[.int .u64 0, .int .u64 0] 58)).heap.size = w.heap.size + 1 + 1 + 1 := by simp [hW]
    have hvl : ∀ g, (Value.slice ad D.nx.length c).ownBlock = some g → g < w.heap.size := fun g hg => (hP.on.lt hg).1
    have keep : ∀ k, k < V.heap.size → (Value.slice ad D.nx.length c).ownBlock ≠ some k → w6.heap[k]? = V.heap[k]? := fun k hk hv => (hg6.block k (by omega) (fun e => hv e.symm)).trans (hVa.block k hk)
    have hPn := PlanIn.append (a := (0, 0)) hPa hown6 hg6 (by rw [hsa]; exact hat6)
    have p6 : w6.cell? ⟨p, 1, none⟩ = some (.slice ad D.nx.length c) := (World.cell?_of_block (a := ⟨p, 1, none⟩) (keep p (by omega) hP0.an)).trans cn
    have f6 : w6.frozen? ⟨p, 1, none⟩ = false := (World.frozen?_of_block (a := ⟨p, 1, none⟩) (keep p (by omega) hP0.an)).trans (hP0.fz 1)
    have hmv : Moved w (.slice ad D.nx.length c) (.slice ad' (D.nx.length + 1) c') := by
      rcases hat6 with e | e
      · exact Or.inl e
      · exact Or.inr ⟨_, by omega, e⟩
    have hnb : (Value.slice ad' (D.nx.length + 1) c').ownBlock ≠ some (w.heap.size + 1) := by
      rcases hat6 with e | e
      · rw [e]; intro e2; have := hvl _ e2; omega
      · rw [e]; intro e2; have := Option.some.inj e2; omega
    have hT6 : Turn (plS p (.slice ad D.nx.length c)) w w6 := ((Turn.ofBelow hB0).alloc (.cells #[.int .u64 0, .int .u64 0] 58)).grown hg6 (fun k e _ => Or.inr e)
    have hI7 : LeafI B w p vb (.slice ad D.nx.length c) (.slice ad' (D.nx.length + 1) c') x0 x1 x2 x3 (D.leafTo x0 x1 x2 x3 0) (w6.setCell ⟨p, 1, none⟩ (.slice ad' (D.nx.length + 1) c')) := by
      rw [PlD.leafTo_zero]
      exact ⟨hPn, hT6.setCell ⟨p, 1, none⟩ (fun _ => Or.inl rfl) _, (Below.heap_setCell _ _ _ _ (by show w.heap.size ≠ p; omega)).trans ((keep _ (by omega) (fun e => by have := hvl _ e; omega)).trans q0), (Below.heap_setCell _ _ _ _ (by show w.heap.size + 1 ≠ p; omega)).trans ((keep _ (by omega) (fun e => by have := hvl _ e; omega)).trans q1)⟩
    clear hown6 hg6 hnil hat6 keep hPn hT6 q0 q1 hP0 cn hPa hVa hsa
    go_wp2_with fail
    clear p6 f6
    generalize w6.setCell ⟨p, 1, none⟩ (.slice ad' (D.nx.length + 1) c') = w7 at *
    go_loopg [23] 256 (fun gk ix wr => ∃ m : Nat, m + gk = 256 ∧ ix = .int .i64 (m : Int) ∧ LeafI B w p vb (.slice ad D.nx.length c) (.slice ad' (D.nx.length + 1) c') x0 x1 x2 x3 (D.leafTo x0 x1 x2 x3 m) wr)
    case atStart => exact ⟨0, by omega, rfl, hI7⟩
    case round =>
      obtain ⟨m, hm, rfl, hI⟩ := hrel
      by_cases hlt : m < 256
      · have hltI : (m : Int) < 256 := by omega
        have b0 : wr.cell? ⟨w.heap.size, 0, none⟩ = some (.int .u64 x0) := by simp [World.cell?, hI.bx]
        have b1 : wr.cell? ⟨w.heap.size, 1, none⟩ = some (.int .u64 x1) := by simp [World.cell?, hI.bx]
        have b2 : wr.cell? ⟨w.heap.size, 2, none⟩ = some (.int .u64 x2) := by simp [World.cell?, hI.bx]
        have b3 : wr.cell? ⟨w.heap.size, 3, none⟩ = some (.int .u64 x3) := by simp [World.cell?, hI.bx]
        have hwr : IntKind.u8.wrap (m : Int) = (m : Int) := by simp [IntKind.wrap_u8]; omega
        go_wp2_with fail
        refine (has_any x0 x1 x2 x3 m hlt wr).mono ?_
        rintro e w8 ⟨rfl, hB8⟩
        clear b0 b1 b2 b3
        have hI8 := hI.below hB8
        cases hh : hasW x0 x1 x2 x3 m with
        | false =>
          have HL := hid (PlD.leafTo_off D x0 x1 x2 x3 m hh)
          go_wp2_with fail
          go_roundg (gk - 1)
          case measure => omega
          case rel => exact ⟨m + 1, by omega, by go_num, by rw [HL.out]; exact hI8⟩
        | true =>
          have HL := hid (PlD.leafTo_on D x0 x1 x2 x3 m hh)
          have mixed : Tryd.prog.follows .mixedOrders = true := by kernel_rfl
          have hmt := hI8.pl.cm hlt
          rw [PlD.leafTo_mt] at hmt
          have hzok := hD.mt m hlt
          generalize D.mt m = z at *
          have k0 : ∀ W', Below w8.heap.size w8 W' → W'.cell? ⟨p, 2 + m * 2, none⟩ = some (.int .u64 (z.1 : Int)) := fun W' h => (h.cell (cell_lt hmt.1)).trans hmt.1
          have k1 : ∀ W', Below w8.heap.size w8 W' → W'.cell? ⟨p, 2 + m * 2 + 1, none⟩ = some (.int .u64 (z.2 : Int)) := fun W' h => (h.cell (cell_lt hmt.2)).trans hmt.2
          go_wp2_with fail
          refine (wpIn_wide (n := 5)).1 (region_tail (C := fun W' => Below w8.heap.size w8 W') 13 (by kernel_rfl) mixed (by kernel_rfl) ((Below.refl _ _).drew) rfl ?_)
          dsimp only [List.take]
          refine wpQuietIn_step (fun _ _ _ _ => trivial) (fun K hK => ?_)
          go_simp
          refine ⟨_, fun _ _ => rfl, hK _ ?_⟩
          clear hK K
          refine wpQuietIn_step (fun _ _ _ _ => trivial) (fun K hK => ?_)
          go_simp
          refine ⟨_, fun _ _ => rfl, hK _ ?_⟩
          clear hK K
          refine wpQuietIn_step (fun _ _ _ _ => trivial) (fun K hK => ?_)
          go_simp
          refine ⟨_, fun _ _ => rfl, hK _ ?_⟩
          clear hK K
          refine wpQuietIn_step (fun _ _ _ _ => trivial) (fun K hK => ?_)
          go_simp
          refine ⟨_, fun _ _ => rfl, hK _ ?_⟩
          clear hK K
          refine wpQuietIn_step (fun _ _ _ _ => trivial) (fun K hK => ?_)
          go_simp
          refine ⟨_, fun _ _ => rfl, hK _ ?_⟩
          clear hK K
          refine wpQuietIn_step (fun _ _ _ _ => trivial) (fun K hK => ?_)
          go_simp
          refine ⟨_, fun _ _ => rfl, hK _ ?_⟩
          clear hK K
          refine wpQuietIn_step (fun _ _ _ _ => trivial) (fun K hK => ?_)
          go_simp
          refine ⟨_, fun _ _ => rfl, hK _ ?_⟩
          clear hK K
          refine wpQuietIn_step (fun _ _ _ _ => trivial) (fun K hK => ?_)
          go_simp
          refine ⟨.agg #[.int .u64 (z.1 : Int), .int .u64 (z.2 : Int)], fun w' hC => by simp [k0 w' hC, k1 w' hC], hK _ ?_⟩
          clear hK K
          refine wpQuietIn_step (fun _ _ _ _ => trivial) (fun K hK => ?_)
          go_simp
          refine ⟨_, fun _ _ => rfl, hK _ ?_⟩
          clear hK K
          refine wpQuietIn_step (fun _ _ _ _ => trivial) (fun K hK => ?_)
          go_simp
          refine ⟨_, fun w' hC => (callsIn_wide.2 (with_nat z D.nx.length hzok (by omega) w')).mono (fun e w'' hx => ⟨hx.1, hC.trans (hx.2.mono hC.size)⟩), hK _ ?_⟩
          clear hK K
          refine wpQuietIn_step (fun _ _ _ _ => trivial) (fun K hK => ?_)
          go_simp
          refine ⟨_, fun _ _ => rfl, hK _ ?_⟩
          clear hK K
          refine wpQuietIn_step (fun _ _ _ _ => trivial) (fun K hK => ?_)
          go_simp
          refine ⟨_, fun _ _ => rfl, hK _ ?_⟩
          clear hK K
          refine wpQuietIn_step (fun _ _ _ _ => trivial) (fun K hK => ?_)
          go_simp
          refine ⟨_, fun _ _ => rfl, hK _ ?_⟩
          clear hK K
          refine wpQuietIn_nil ?_
          intro w9 hB9
          have d0 := k0 w9 hB9
          have d1 := k1 w9 hB9
          have hI9 := hI8.below hB9
          have df := hI9.pl.fz
          clear k0 k1
          rw [wpOpsIn_cons]
          refine wpOpIn_step rfl (fun K hK => ?_)
          go_simp
          refine hK _ _ ?_
          clear hK K
          simp only [wpOpsIn]
          go_wp2_with fail
          go_roundg (gk - 1)
          case measure => omega
          case rel => exact ⟨m + 1, by omega, by go_num, by rw [HL.out]; exact hI9.store hplt hlt _⟩
      · have hme : m = 256 := by omega
        subst hme
        go_wp2_with fail
        refine (with_bit D.nx.length hn wr).mono ?_
        rintro e w8 ⟨rfl, hB8⟩
        have hI9 := (hI.below hB8).below (((Below.refl _ w8).alloc (Nat.le_refl _) (.cells #[.int .u64 ((S2.bit D.nx.length).1 : Int), .int .u64 ((S2.bit D.nx.length).2 : Int)] 58)))
        have r0 := hI9.rs
        have c0 : (w8.alloc (.cells #[.int .u64 ((S2.bit D.nx.length).1 : Int), .int .u64 ((S2.bit D.nx.length).2 : Int)] 58)).cell? ⟨w.heap.size + 1, 0, none⟩ = some (.int .u64 0) := by simp [World.cell?, r0]
        have c1 : (w8.alloc (.cells #[.int .u64 ((S2.bit D.nx.length).1 : Int), .int .u64 ((S2.bit D.nx.length).2 : Int)] 58)).cell? ⟨w.heap.size + 1, 1, none⟩ = some (.int .u64 0) := by simp [World.cell?, r0]
        have c2 : (w8.alloc (.cells #[.int .u64 ((S2.bit D.nx.length).1 : Int), .int .u64 ((S2.bit D.nx.length).2 : Int)] 58)).cell? ⟨w.heap.size + 1, 2, none⟩ = some (.int .u64 0) := by simp [World.cell?, r0]
        have c3 : (w8.alloc (.cells #[.int .u64 ((S2.bit D.nx.length).1 : Int), .int .u64 ((S2.bit D.nx.length).2 : Int)] 58)).cell? ⟨w.heap.size + 1, 3, none⟩ = some (.int .u64 0) := by simp [World.cell?, r0]
        have c4 : (w8.alloc (.cells #[.int .u64 ((S2.bit D.nx.length).1 : Int), .int .u64 ((S2.bit D.nx.length).2 : Int)] 58)).cell? ⟨w.heap.size + 1, 4, none⟩ = some (.bool false) := by simp [World.cell?, r0]
        have cf : ∀ k, (w8.alloc (.cells #[.int .u64 ((S2.bit D.nx.length).1 : Int), .int .u64 ((S2.bit D.nx.length).2 : Int)] 58)).frozen? ⟨w.heap.size + 1, k, none⟩ = false := fun k => by simp [World.frozen?, r0]
        go_wp2_with fail
        have hR : PB (w8.alloc (.cells #[.int .u64 ((S2.bit D.nx.length).1 : Int), .int .u64 ((S2.bit D.nx.length).2 : Int)] 58)) (w.heap.size + 1) ⟨(0, 0), (0, 0), false⟩ := r0
        have hE := hR.put (leafPc D.nx.length)
        have e0 := hE.c0
        have e1 := hE.c1
        have e2 := hE.c2
        have e3 := hE.c3
        have e4 := hE.c4
        have hEP : PlanIn B (putPc (w8.alloc (.cells #[.int .u64 ((S2.bit D.nx.length).1 : Int), .int .u64 ((S2.bit D.nx.length).2 : Int)] 58)) (w.heap.size + 1) (leafPc D.nx.length)) p vb (.slice ad' (D.nx.length + 1) c') (D.leaf x0 x1 x2 x3) := hI9.pl.putPc (by omega) (fun e => by have := (hP.ob.lt e).1; omega) hnb _
        have hET := putPc_turn hI9.tn (g := w.heap.size + 1) (Nat.le_succ _) (leafPc D.nx.length)
        exact bodyPost_ret (v := (leafPc D.nx.length).val) (by unfold putPc leafPc at e0 e1 e2 e3 e4; simp [results, Tryd.results43, go_sem, e0, e1, e2, e3, e4, Pc.val, leafPc]) rfl ⟨_, rfl, hEP, hET, hmv⟩
end Go.Proofs.YtjhmlcilabnlbaaDoor
/- The plan of a tree of parts: the pure side. -/
namespace Go.Proofs.YtjhmlcilabnlbaaDoor
open Go.RowKit

/-- A rule's tree: a set of bytes, a repetition, a row, a choice. -/
inductive Tr where
  | leaf (x0 x1 x2 x3 : Int)
  | rep (no ag : Bool) (t : Tr)
  | row (l : List Tr)
  | alt (l : List Tr)

def PlD.lnk (D : PlD) (x y : S2) : PlD := D.nxt (linkL D.nx y (bitsN x.1))
def Pc.beh (a b : Pc) : Pc := ⟨if a.em = true then a.fst.or b.fst else a.fst, if b.em = true then a.lst.or b.lst else b.lst, a.em && b.em⟩
def Pc.alt (a b : Pc) : Pc := ⟨a.fst.or b.fst, a.lst.or b.lst, a.em || b.em⟩
def Pc.rep (no : Bool) (a : Pc) : Pc := ⟨a.fst, a.lst, a.em || no⟩
def pc0 : Pc := ⟨(0, 0), (0, 0), false⟩
def pc1 : Pc := ⟨(0, 0), (0, 0), true⟩
def rowStep (a : Pc) (r : PlD × Pc) : PlD × Pc := (r.1.lnk a.lst r.2.fst, a.beh r.2)
def repEnd (no ag : Bool) (r : PlD × Pc) : PlD × Pc := (if ag = true then r.1.lnk r.2.lst r.2.fst else r.1, r.2.rep no)

mutual
def lay : Tr → PlD → PlD × Pc
  | .leaf x0 x1 x2 x3, D => (D.leaf x0 x1 x2 x3, leafPc D.nx.length)
  | .rep no ag t, D => repEnd no ag (rowStep pc1 (lay t D))
  | .row l, D => layRow l D pc1
  | .alt l, D => layAlt l D pc0
def layRow : List Tr → PlD → Pc → PlD × Pc
  | [], D, a => (D, a)
  | t :: ts, D, a => layRow ts (rowStep a (lay t D)).1 (rowStep a (lay t D)).2
def layAlt : List Tr → PlD → Pc → PlD × Pc
  | [], D, a => (D, a)
  | t :: ts, D, a => layAlt ts (lay t D).1 (a.alt (lay t D).2)
end
mutual
def Tr.lv : Tr → Nat
  | .leaf _ _ _ _ => 1
  | .rep _ _ t => t.lv
  | .row l => lvs l
  | .alt l => lvs l
def lvs : List Tr → Nat
  | [] => 0
  | t :: ts => t.lv + lvs ts
end

/-- A plan in the making: no set names a leaf that is not there; the ends are below n. -/
structure PlD.good (D : PlD) (n : Nat) : Prop where
  fine : D.fine
  nu : ∀ a, a ∈ D.nx → a.under D.nx.length
  ne : ∀ a, a ∈ D.nx → a.2 < 2 ^ n
/-- What a part's making leaves. -/
structure Laid (D D' : PlD) (k : Nat) : Prop where
  bg : D'.bg = D.bg
  en : D'.en = D.en
  ge : D.nx.length ≤ D'.nx.length
  le : D'.nx.length ≤ D.nx.length + k
structure Pc.good (a : Pc) (n : Nat) : Prop where
  ok : a.ok n
  f2 : a.fst.2 = 0
  l2 : a.lst.2 = 0

theorem Laid.refl (D : PlD) : Laid D D 0 := ⟨rfl, rfl, Nat.le_refl _, Nat.le_refl _⟩
theorem Laid.trans {D D' D'' : PlD} {k l : Nat} (h : Laid D D' k) (g : Laid D' D'' l) : Laid D D'' (k + l) := ⟨g.bg.trans h.bg, g.en.trans h.en, Nat.le_trans h.ge g.ge, by have := h.le; have := g.le; omega⟩
theorem Laid.mono {D D' : PlD} {k l : Nat} (h : Laid D D' k) (g : k ≤ l) : Laid D D' l := ⟨h.bg, h.en, h.ge, by have := h.le; omega⟩
theorem Pc.good.mono {a : Pc} {n m : Nat} (h : a.good n) (hm : n ≤ m) : a.good m := ⟨h.ok.mono hm, h.f2, h.l2⟩
theorem pc0_good (n : Nat) : pc0.good n := ⟨⟨S2.zero_ok, S2.zero_ok, S2.under_zero n, S2.under_zero n⟩, rfl, rfl⟩
theorem pc1_good (n : Nat) : pc1.good n := ⟨⟨S2.zero_ok, S2.zero_ok, S2.under_zero n, S2.under_zero n⟩, rfl, rfl⟩
theorem S2.or_two {a b : S2} (ha : a.2 = 0) (hb : b.2 = 0) : (a.or b).2 = 0 := by show a.2 ||| b.2 = 0; rw [ha, hb]; rfl
theorem Pc.good.beh {a b : Pc} {n : Nat} (ha : a.good n) (hb : b.good n) : (a.beh b).good n := by
  unfold Pc.beh
  cases a.em <;> cases b.em <;> simp only [if_true, Bool.false_eq_true, if_false]
  · exact ⟨⟨ha.ok.fst, hb.ok.lst, ha.ok.ff, hb.ok.lf⟩, ha.f2, hb.l2⟩
  · exact ⟨⟨ha.ok.fst, S2.or_ok ha.ok.lst hb.ok.lst, ha.ok.ff, S2.under_or ha.ok.lf hb.ok.lf⟩, ha.f2, S2.or_two ha.l2 hb.l2⟩
  · exact ⟨⟨S2.or_ok ha.ok.fst hb.ok.fst, hb.ok.lst, S2.under_or ha.ok.ff hb.ok.ff, hb.ok.lf⟩, S2.or_two ha.f2 hb.f2, hb.l2⟩
  · exact ⟨⟨S2.or_ok ha.ok.fst hb.ok.fst, S2.or_ok ha.ok.lst hb.ok.lst, S2.under_or ha.ok.ff hb.ok.ff, S2.under_or ha.ok.lf hb.ok.lf⟩, S2.or_two ha.f2 hb.f2, S2.or_two ha.l2 hb.l2⟩
theorem Pc.good.alt {a b : Pc} {n : Nat} (ha : a.good n) (hb : b.good n) : (a.alt b).good n :=
  ⟨⟨S2.or_ok ha.ok.fst hb.ok.fst, S2.or_ok ha.ok.lst hb.ok.lst, S2.under_or ha.ok.ff hb.ok.ff, S2.under_or ha.ok.lf hb.ok.lf⟩, S2.or_two ha.f2 hb.f2, S2.or_two ha.l2 hb.l2⟩
theorem Pc.good.rep {a : Pc} {n : Nat} (ha : a.good n) (no : Bool) : (a.rep no).good n := ⟨⟨ha.ok.fst, ha.ok.lst, ha.ok.ff, ha.ok.lf⟩, ha.f2, ha.l2⟩

theorem linkL_all {l : List S2} {y : S2} (Q : S2 → Prop) (hz : Q (0, 0)) (ho : ∀ a, Q a → Q (a.or y)) (ks : List Nat) (h : ∀ a, a ∈ l → Q a) : ∀ a, a ∈ linkL l y ks → Q a := by
  unfold linkL
  induction ks generalizing l with
  | nil => exact h
  | cons k ks ih =>
    rw [List.foldl_cons]
    apply ih
    intro a ha
    rcases List.mem_or_eq_of_mem_set ha with ha | rfl
    · exact h a ha
    · apply ho
      rw [List.getD_eq_getElem?_getD]
      cases e : l[k]? with
      | none => exact hz
      | some b => exact h b (List.mem_of_getElem? e)
theorem PlD.lnk_len (D : PlD) (x y : S2) : (D.lnk x y).nx.length = D.nx.length := linkL_len _ _ _
theorem PlD.good.lnk {D : PlD} {n : Nat} (h : D.good n) (x : S2) {y : S2} (hy : y.ok) (hu : y.under D.nx.length) (h2 : y.2 < 2 ^ n) : (D.lnk x y).good n := by
  refine ⟨⟨h.fine.bg, linkL_ok hy _ h.fine.nx, h.fine.mt, h.fine.en, ?_⟩, ?_, ?_⟩
  · intro b hb
    rw [PlD.lnk_len]; exact h.fine.fit b hb
  · intro a ha
    rw [PlD.lnk_len]
    exact linkL_all (fun a => a.under D.nx.length) (S2.under_zero _) (fun a ha => S2.under_or ha hu) _ h.nu a ha
  · exact linkL_all (fun a => a.2 < 2 ^ n) (Nat.two_pow_pos n) (fun a ha => Nat.or_lt_two_pow ha h2) _ h.ne
theorem Laid.lnk (D : PlD) (x y : S2) : Laid D (D.lnk x y) 0 := ⟨rfl, rfl, by rw [PlD.lnk_len]; exact Nat.le_refl _, by rw [PlD.lnk_len]; exact Nat.le_refl _⟩
theorem PlD.good.leaf {D : PlD} {n : Nat} (h : D.good n) (x0 x1 x2 x3 : Int) (hl : D.nx.length < 64) : (D.leaf x0 x1 x2 x3).good n := by
  refine ⟨h.fine.leafTo x0 x1 x2 x3 256 hl, ?_, ?_⟩
  · intro a ha
    show a.under (D.nx ++ [(0, 0)]).length
    rcases List.mem_append.1 ha with ha | ha
    · exact S2.under_mono (h.nu a ha) (by simp)
    · rw [List.mem_singleton] at ha; subst ha; exact S2.under_zero _
  · intro a ha
    rcases List.mem_append.1 ha with ha | ha
    · exact h.ne a ha
    · rw [List.mem_singleton] at ha; subst ha; exact Nat.two_pow_pos n
theorem PlD.leaf_len (D : PlD) (x0 x1 x2 x3 : Int) : (D.leaf x0 x1 x2 x3).nx.length = D.nx.length + 1 := by show (D.nx ++ [(0, 0)]).length = _; simp
theorem Laid.leaf (D : PlD) (x0 x1 x2 x3 : Int) : Laid D (D.leaf x0 x1 x2 x3) 1 := ⟨rfl, rfl, by rw [PlD.leaf_len]; omega, by rw [PlD.leaf_len]; omega⟩
theorem leafPc_good {n m : Nat} (h : n < m) (h64 : n < 64) : (leafPc n).good m := by
  refine ⟨leafPc_ok h h64, ?_, ?_⟩ <;> (show (S2.bit n).2 = 0; unfold S2.bit; rw [if_pos h64])

/-- What a part's making comes to, all in one. -/
structure LaidOk (n : Nat) (D : PlD) (k : Nat) (r : PlD × Pc) : Prop where
  g : r.1.good n
  l : Laid D r.1 k
  p : r.2.good r.1.nx.length
theorem LaidOk.rowStep {n : Nat} {D : PlD} {k : Nat} {r : PlD × Pc} (h : LaidOk n D k r) {a : Pc} (ha : a.good D.nx.length) : LaidOk n D k (rowStep a r) := by
  have ha' := ha.mono h.l.ge
  refine ⟨h.g.lnk _ h.p.ok.fst h.p.ok.ff (by rw [h.p.f2]; exact Nat.two_pow_pos n), h.l.trans (Laid.lnk _ _ _), ?_⟩
  show (a.beh r.2).good (r.1.lnk a.lst r.2.fst).nx.length
  rw [PlD.lnk_len]
  exact ha'.beh h.p
theorem LaidOk.repEnd {n : Nat} {D : PlD} {k : Nat} {r : PlD × Pc} (h : LaidOk n D k r) (no ag : Bool) : LaidOk n D k (repEnd no ag r) := by
  unfold Go.Proofs.YtjhmlcilabnlbaaDoor.repEnd
  cases ag
  · exact ⟨h.g, h.l, h.p.rep no⟩
  · refine ⟨h.g.lnk _ h.p.ok.fst h.p.ok.ff (by rw [h.p.f2]; exact Nat.two_pow_pos n), h.l.trans (Laid.lnk _ _ _), ?_⟩
    show (r.2.rep no).good (r.1.lnk _ _).nx.length
    rw [PlD.lnk_len]
    exact h.p.rep no

mutual
theorem lay_ok (n : Nat) : ∀ (t : Tr) (D : PlD), D.good n → D.nx.length + t.lv ≤ 64 → LaidOk n D t.lv (lay t D)
  | .leaf x0 x1 x2 x3, D, h, hl => by
    unfold Tr.lv at hl ⊢
    unfold lay
    exact ⟨h.leaf x0 x1 x2 x3 (by omega), Laid.leaf D x0 x1 x2 x3, by rw [PlD.leaf_len]; exact leafPc_good (by omega) (by omega)⟩
  | .rep no ag t, D, h, hl => by
    unfold Tr.lv at hl ⊢
    unfold lay
    exact ((lay_ok n t D h hl).rowStep (pc1_good _)).repEnd no ag
  | .row l, D, h, hl => by
    unfold Tr.lv at hl ⊢
    unfold lay
    exact layRow_ok n l D pc1 h (pc1_good _) hl
  | .alt l, D, h, hl => by
    unfold Tr.lv at hl ⊢
    unfold lay
    exact layAlt_ok n l D pc0 h (pc0_good _) hl
theorem layRow_ok (n : Nat) : ∀ (l : List Tr) (D : PlD) (a : Pc), D.good n → a.good D.nx.length → D.nx.length + lvs l ≤ 64 → LaidOk n D (lvs l) (layRow l D a)
  | [], D, a, h, ha, hl => by unfold layRow lvs; exact ⟨h, Laid.refl D, ha⟩
  | t :: ts, D, a, h, ha, hl => by
    unfold lvs at hl ⊢
    unfold layRow
    have h1 := (lay_ok n t D h (by omega)).rowStep ha
    have h2 := layRow_ok n ts _ _ h1.g h1.p (by have := h1.l.le; omega)
    exact ⟨h2.g, h1.l.trans h2.l, h2.p⟩
theorem layAlt_ok (n : Nat) : ∀ (l : List Tr) (D : PlD) (a : Pc), D.good n → a.good D.nx.length → D.nx.length + lvs l ≤ 64 → LaidOk n D (lvs l) (layAlt l D a)
  | [], D, a, h, ha, hl => by unfold layAlt lvs; exact ⟨h, Laid.refl D, ha⟩
  | t :: ts, D, a, h, ha, hl => by
    unfold lvs at hl ⊢
    unfold layAlt
    have h1 := lay_ok n t D h (by omega)
    have h2 := layAlt_ok n ts _ _ h1.g ((ha.mono h1.l.ge).alt h1.p) (by have := h1.l.le; omega)
    exact ⟨h2.g, h1.l.trans h2.l, h2.p⟩
end
end Go.Proofs.YtjhmlcilabnlbaaDoor
/- The program: rows. -/
namespace Go.Proofs.YtjhmlcilabnlbaaDoor
open Go.RowKit

def PAtomC (s : ByteArray) (f : Nat) : Prop := ∀ (b o i : Nat) (w : World), QB w b s i o → i ≤ s.size → o ≤ 20 → P.atom s f o i ≠ .out →
    Calls Tryd.prog 66 #[.pointer (some ⟨b, 0, none⟩)] w fun e w' => OutD s b o (P.atom s f o i) w e w'
def PRowC (s : ByteArray) (f : Nat) : Prop := ∀ (b o i : Nat) (w : World), QB w b s i o → i ≤ s.size → o ≤ 20 → P.row s f o i ≠ .out →
    Calls Tryd.prog 60 #[.pointer (some ⟨b, 0, none⟩)] w fun e w' => OutD s b o (P.row s f o i) w e w'
def PAltC (s : ByteArray) (f : Nat) : Prop := ∀ (b o i : Nat) (w : World), QB w b s i o → i ≤ s.size → o ≤ 20 → P.alt s f o i ≠ .out →
    Calls Tryd.prog 46 #[.pointer (some ⟨b, 0, none⟩)] w fun e w' => OutD s b o (P.alt s f o i) w e w'

theorem bind_assoc {α β γ : Type} (r : P.PR α) (g : α → Nat → P.PR β) (h : β → Nat → P.PR γ) : (r.bind g).bind h = r.bind fun a j => (g a j).bind h := by cases r <;> rfl
theorem NodeF.yes {r : P.PR P.T} {w' : World} {n i : Nat} {d : Nd} (h : NodeF r w' n d i true) : ∃ t, r = .ok t i ∧ PN w' (· < n) d t := by
  cases r with
  | out => exact h.elim
  | bad p => exact absurd h.1 (by simp)
  | ok t j => obtain ⟨-, rfl, hN⟩ := h; exact ⟨t, rfl, hN⟩
/-- Where the first call fails, so does the list's. -/
theorem Lm.fails {s : ByteArray} {b o ir i2 o2 n : Nat} {w wr w2 : World} {v : Value} {xs : List (Nd × P.T)} {d : Nd} {r : P.PR P.T} {g : P.T → Nat → P.PR P.T} {R : P.PR P.T} (hL : Lm s b o w wr ir v xs) (hR : R = r.bind g) (hF : NodeF r w2 (wr.drewN n).heap.size d i2 false)
    (hlt : b < w.heap.size) (hR2 : QB w2 b s i2 o2) (hO2 : Only b (wr.drewN n) w2) (hi2 : i2 ≤ s.size) :
    OutD s b o R w (.returned (.tuple #[.agg #[.int .i64 0, .int .u64 0, .int .u64 0, .int .u64 0, .int .u64 0, .slice none 0 0, .bool false, .bool false], .bool false])) (put8 (w2.alloc d.obj) w.heap.size ⟨0, 0, 0, 0, 0, none, 0, 0, false, false⟩) := by
  have hO : Only b w w2 := (hL.drewN n).2.2.2.2.1.trans hO2
  have hq : QB (put8 (w2.alloc d.obj) w.heap.size ⟨0, 0, 0, 0, 0, none, 0, 0, false, false⟩) b s i2 o2 := (heap_put8 _ (by omega)).trans (heap_alloc_old hR2 hR2.lt)
  have hO' : Only b w (put8 (w2.alloc d.obj) w.heap.size ⟨0, 0, 0, 0, 0, none, 0, 0, false, false⟩) := (hO.alloc _).put8 (Nat.le_refl _) _
  generalize put8 (w2.alloc d.obj) w.heap.size ⟨0, 0, 0, 0, 0, none, 0, 0, false, false⟩ = X at *
  refine ⟨⟨0, 0, 0, 0, 0, none, 0, 0, false, false⟩, i2, o2, false, rfl, hq, (by intro e; cases e), hO', hi2, ?_⟩
  rw [hR]
  cases r with
  | out => exact hF.elim
  | bad p => exact hF
  | ok t j => exact absurd hF.1 (by simp)

/-- A row's node, handed back. -/
theorem Lm.rowOut {s : ByteArray} {b o ir : Nat} {w wr : World} {ad : Option Addr} {cap : Nat} {xs : List (Nd × P.T)} (hlt : b < w.heap.size) (hL : Lm s b o w wr ir (.slice ad xs.length cap) xs) (hx : xs ≠ []) (hs : s.size ≤ 400) :
    OutD s b o (.ok ⟨sumSz xs, allEm xs, .row (xsOf xs)⟩ ir) w (.returned (.tuple #[.agg #[.int .i64 1, .int .u64 0, .int .u64 0, .int .u64 0, .int .u64 0, .slice ad xs.length cap, .bool false, .bool false], .bool true])) (put8 wr w.heap.size ⟨1, 0, 0, 0, 0, ad, xs.length, cap, false, false⟩) := by
  have hS : OnlyS (· ≤ w.heap.size) wr (put8 wr w.heap.size ⟨1, 0, 0, 0, 0, ad, xs.length, cap, false, false⟩) := OnlyS.put8 (S := (· ≤ w.heap.size)) (g := w.heap.size) (fun _ _ _ => rfl) (Nat.le_refl w.heap.size) _
  have hq : QB (put8 wr w.heap.size ⟨1, 0, 0, 0, 0, ad, xs.length, cap, false, false⟩) b s ir o := (heap_put8 _ (by omega)).trans hL.1
  have hO' : Only b w (put8 wr w.heap.size ⟨1, 0, 0, 0, 0, ad, xs.length, cap, false, false⟩) := hL.2.2.2.2.1.put8 (Nat.le_refl _) _
  generalize put8 wr w.heap.size ⟨1, 0, 0, 0, 0, ad, xs.length, cap, false, false⟩ = X at *
  obtain ⟨g, c, e, hP, hN⟩ := hL.parts hx hS
  injection e with e1 e2 e3
  subst e1; subst e3
  exact ⟨⟨1, 0, 0, 0, 0, some ⟨g, 0, none⟩, xs.length, cap, false, false⟩, ir, o, true, rfl, hq, fun _ => rfl, hO', hL.2.2.2.2.2.1, rfl, rfl, .row hP (by have := hL.2.2.2.2.2.1; have := hL.2.2.2.2.2.2; omega) hN⟩

set_option maxHeartbeats 1000000 in
theorem prow_any (s : ByteArray) (F : Nat) (hs : s.size ≤ 400) (hA : ∀ f, f < F → PAtomC s f) : PRowC s F := by
  intro b o i w hR hi ho hP
  have hlt := hR.lt
  obtain ⟨R, hRd⟩ : ∃ R, R = P.row s F o i := ⟨_, rfl⟩
  have HRn : Hid (R ≠ .out) := by unfold Hid; rw [hRd]; exact hP
  rw [← hRd]
  have HRd := hid hRd
  have HA := hid hA
  clear hP hRd hA
  go_enter Tryd.func60, Tryd.ntmps60
  go_wp2_with fail
  go_loopg [4] F (fun g v wr => ∃ (ir : Nat) (xs : List (Nd × P.T)), Lm s b o w wr ir v xs ∧ g ≤ F ∧ Hid (JR s o R g ir xs))
  case atStart => exact ⟨i, [], Lm.start hR hi, Nat.le_refl _, Or.inl ⟨rfl, F, Nat.le_refl _, HRd.out⟩⟩
  case round =>
    obtain ⟨ir, xs, hL, hgF, hJ⟩ := hrel
    obtain ⟨ad, cap, e5⟩ := powns_shape hL.2.2.1
    subst e5
    have hQ := hL.1
    have hp := pk_range s ir
    go_upto_region 2 with fail
    go_cut [14] (fun c wx => c = .bool (goes s ir xs) ∧ ∃ n, wx = wr.drewN n)
    case first =>
      by_cases hxe : xs.length = 0
      · have h0 : ((xs.length : Int) == 0) = true := by simp [hxe]
        have h0n : (xs.length == 0) = true := by simp [hxe]
        go_wp2_with fail
        go_meet
        exact ⟨by simp [goes, hxe], 0, rfl⟩
      · have h0 : ((xs.length : Int) == 0) = false := beq_false_of_ne (by omega)
        have h0n : (xs.length == 0) = false := beq_false_of_ne hxe
        go_wp2_with fail
        refine (peek_any _ _ _ _ _ hQ).mono ?_
        rintro e w3 ⟨rfl, n3, rfl⟩
        go_wp2_with fail
        refine (begins_any _ _ hp.1 hp.2).mono ?_
        rintro e w3 ⟨rfl, rfl⟩
        go_wp2_with fail
        go_meet
        exact ⟨by simp [goes, h0n], n3, rfl⟩
    case rest =>
      obtain ⟨rfl, n, rfl⟩ := hcut
      have hLd := hL.drewN n
      cases hgo : goes s ir xs with
      | true =>
        obtain ⟨f, hfg, hRf⟩ := hJ.out.next HRn.out hgo
        rw [bind_assoc] at hRf
        have HRf := hid hRf
        have hAo : P.atom s f o ir ≠ .out := by intro e; rw [e] at hRf; exact HRn.out hRf
        have HAo := hid hAo
        clear hRf hAo
        go_wp2_with fail
        refine (HA.out f (by omega) b o ir _ hLd.1 hL.2.2.2.2.2.1 ho HAo.out).mono ?_
        rintro e w2 ⟨d, i2, o2, k2, rfl, hR2, ho2, hO2, hi2, hf2⟩
        have hw1 := hO2.size
        have hN1 : w.heap.size < wr.heap.size := hL.lt
        have hw2 : wr.heap.size ≤ w2.heap.size := hw1
        have hD2 : DB w2 w.heap.size nd0 := (hO2.block _ hN1 (by omega)).trans hL.2.1
        have hB1 : DB (w2.alloc (.cells #[.int .i64 d.k, .int .u64 d.x0, .int .u64 d.x1, .int .u64 d.x2, .int .u64 d.x3, .slice d.pa d.pn d.pc, .bool d.no, .bool d.ag] 49)) w.heap.size nd0 := heap_alloc_old hD2 (by omega)
        have c0 := hB1.c0
        have c1 := hB1.c1
        have c2 := hB1.c2
        have c3 := hB1.c3
        have c4 := hB1.c4
        have c5 := hB1.c5
        have c6 := hB1.c6
        have c7 := hB1.c7
        have cf := hB1.fz
        have HF := hid hf2
        clear hf2
        unfold Nd.val
        cases k2 with
        | false =>
          have hC1 := hB1.put8 ⟨0, 0, 0, 0, 0, none, 0, 0, false, false⟩
          have r0 := hC1.c0
          have r1 := hC1.c1
          have r2 := hC1.c2
          have r3 := hC1.c3
          have r4 := hC1.c4
          have r5 := hC1.c5
          have r6 := hC1.c6
          have r7 := hC1.c7
          go_wp2_with fail
          refine bodyPost_ret (v := .tuple #[.agg #[.int .i64 0, .int .u64 0, .int .u64 0, .int .u64 0, .int .u64 0, .slice none 0 0, .bool false, .bool false], .bool false]) (by simp [results, Tryd.results60, go_sem, r0, r1, r2, r3, r4, r5, r6, r7]) rfl ?_
          exact Lm.fails hL HRf.out HF.out hlt hR2 hO2 hi2
        | true =>
          obtain ⟨t, hat, hNd⟩ := HF.out.yes
          have he2 := ho2 rfl
          subst he2
          have HR3 : Hid (R = (P.marks s f i2 t).bind fun u j => P.rowOn s (f + 1) o2 j ⟨sumSz xs + u.sz, allEm xs && u.em, .row (xsOf xs ++ [u.x])⟩) := by
            have h := HRf.out
            rw [hat] at h
            exact h
          have HMo : Hid (P.marks s f i2 t ≠ .out) := by
            intro e
            have h := HR3.out
            rw [e] at h
            exact HRn.out h
          have hsz2 := (P.all_sized s f).1 o2 ir t i2 hat
          have HNd := hid hNd
          clear hat hNd HRf HF
          go_wp2_with fail
          refine (pmarks_any (· < wr.heap.size) f b s i2 o2 d t _ hs (heap_alloc_old hR2 hR2.lt) hi2 (by omega) (fun k hk => by simp; omega) (HNd.out.only (fun k hk _ => Below.heap_alloc _ _ _ hk)) HMo.out).mono ?_
          rintro e w4 ⟨d4, t4, i4, rfl, hR4, hO4, hi4, hm4, hN4⟩
          have hsz4 := P.marks_sized s f i2 t t4 i4 hm4
          have HR4 : Hid (R = P.rowOn s (f + 1) o2 i4 ⟨sumSz xs + t4.sz, allEm xs && t4.em, .row (xsOf xs ++ [t4.x])⟩) := by
            have h := HR3.out
            rw [hm4] at h
            exact h
          have HN4 := hid hN4
          clear hm4 hN4 HR3 HMo HNd
          have hX : Only b wr w4 := ((((Only.refl b wr).drewN n).trans hO2).alloc _).trans hO4
          have hw4 := hX.size
          have hown4 := powns_only hL.2.2.1 hX (by omega)
          have hlen : xs.length ≤ 400 := by have := hL.2.2.2.2.2.1; have := hL.2.2.2.2.2.2; omega
          obtain ⟨i0, hi0, hz0, hz1, hz2⟩ := info_parts Tryd.info38
          clear c0 c1 c2 c3 c4 c5 c6 c7 cf hB1
          unfold Nd.val
          go_wp2_with (first
            | (at_builtin; refine wpList_append_own_at _ rfl (.tmp 23) (.tmp 27) 47 rfl (w.heap.size + 1) 49 i0 _ 8 72 Tryd.underlying47 hi0 hz0 hz1 hz2 rfl (by decide) _ _ _ rfl (hown4.alloc _) ⟨w4.heap.size, 0, none⟩ 1 1 d4.cells rfl rfl ?c1 ?c2 ?c3 ?c4 ?c5 ?_))
          case c1 => exact nd_cells
          case c2 => exact nd_one
          case c3 => unfold maxLen; omega
          case c4 => omega
          case c5 => simp; omega
          · intro v' w6 hown6 hgrow6 hnil hat6
            have hL6 := Lm.append hlt hL hX hR4 HN4.out hi4 (by omega) hown6 hgrow6 hat6
            have HJ6 : Hid (JR s o2 R (f + 1) i4 (xs ++ [(d4, t4)])) := Or.inr ⟨by simp, f + 1, Nat.le_refl _, by rw [sumSz_snoc, allEm_snoc, xsOf_snoc]; exact HR4.out⟩
            clear hown6 hgrow6 hnil hat6 hown4
            go_wp2_with fail
            go_roundg (f + 1)
            case measure => omega
            case rel => exact ⟨i4, _, hL6, by omega, HJ6⟩
      | false =>
        obtain ⟨hx, hRe⟩ := hJ.out.done HRn.out hgo
        have HRe := hid hRe
        clear hRe
        have hB1 : DB (wr.drewN n) w.heap.size nd0 := hLd.2.1
        have c0 := hB1.c0
        have c1 := hB1.c1
        have c2 := hB1.c2
        have c3 := hB1.c3
        have c4 := hB1.c4
        have c5 := hB1.c5
        have c6 := hB1.c6
        have c7 := hB1.c7
        have cf := hB1.fz
        have hC1 := hB1.put8 ⟨1, 0, 0, 0, 0, ad, xs.length, cap, false, false⟩
        have r0 := hC1.c0
        have r1 := hC1.c1
        have r2 := hC1.c2
        have r3 := hC1.c3
        have r4 := hC1.c4
        have r5 := hC1.c5
        have r6 := hC1.c6
        have r7 := hC1.c7
        go_wp2_with fail
        refine bodyPost_ret (v := .tuple #[.agg #[.int .i64 1, .int .u64 0, .int .u64 0, .int .u64 0, .int .u64 0, .slice ad xs.length cap, .bool false, .bool false], .bool true]) (by simp [results, Tryd.results60, go_sem, r0, r1, r2, r3, r4, r5, r6, r7]) rfl ?_
        rw [HRe.out]
        exact Lm.rowOut hlt hLd hx hs
end Go.Proofs.YtjhmlcilabnlbaaDoor
/- The program: choices. -/
namespace Go.Proofs.YtjhmlcilabnlbaaDoor
open Go.RowKit

theorem Lm.moves {s : ByteArray} {b o ir j : Nat} {w wr w7 : World} {v : Value} {xs : List (Nd × P.T)} (hlt : b < w.heap.size) (h : Lm s b o w wr ir v xs) (hX : Only b wr w7) (hQ : QB w7 b s j o) (hj : j ≤ s.size) (hij : ir ≤ j) : Lm s b o w w7 j v xs := by
  have hN := h.lt
  obtain ⟨h1, h2, h3, h4, h5, h6, h7⟩ := h
  exact ⟨hQ, (hX.block _ hN (by omega)).trans h2, powns_only h3 hX (by omega), fun x hx => (h4 x hx).only (hX.toS.wide (fun k hk => Or.inl (by omega))), h5.trans hX, hj, by omega⟩

/-- A choice's node, handed back. -/
theorem Lm.altOut {s : ByteArray} {b o ir : Nat} {w wr : World} {ad : Option Addr} {cap m : Nat} {xs : List (Nd × P.T)} (hlt : b < w.heap.size) (hL : Lm s b o w wr ir (.slice ad m cap) xs) (hm : m = xs.length) (hx : xs ≠ []) (hs : s.size ≤ 400) :
    OutD s b o (.ok ⟨sumSz xs + (xs.length - 1), anyEm xs, .alt (xsOf xs)⟩ ir) w (.returned (.tuple #[.agg #[.int .i64 2, .int .u64 0, .int .u64 0, .int .u64 0, .int .u64 0, .slice ad m cap, .bool false, .bool false], .bool true])) (put8 wr w.heap.size ⟨2, 0, 0, 0, 0, ad, m, cap, false, false⟩) := by
  subst hm
  have hS : OnlyS (· ≤ w.heap.size) wr (put8 wr w.heap.size ⟨2, 0, 0, 0, 0, ad, xs.length, cap, false, false⟩) := OnlyS.put8 (S := (· ≤ w.heap.size)) (g := w.heap.size) (fun _ _ _ => rfl) (Nat.le_refl w.heap.size) _
  have hq : QB (put8 wr w.heap.size ⟨2, 0, 0, 0, 0, ad, xs.length, cap, false, false⟩) b s ir o := (heap_put8 _ (by omega)).trans hL.1
  have hO' : Only b w (put8 wr w.heap.size ⟨2, 0, 0, 0, 0, ad, xs.length, cap, false, false⟩) := hL.2.2.2.2.1.put8 (Nat.le_refl _) _
  generalize put8 wr w.heap.size ⟨2, 0, 0, 0, 0, ad, xs.length, cap, false, false⟩ = X at *
  obtain ⟨g, c, e, hP, hN⟩ := hL.parts hx hS
  injection e with e1 e2 e3
  subst e1; subst e3
  exact ⟨⟨2, 0, 0, 0, 0, some ⟨g, 0, none⟩, xs.length, cap, false, false⟩, ir, o, true, rfl, hq, fun _ => rfl, hO', hL.2.2.2.2.2.1, rfl, rfl, .alt hP hx (by have := hL.2.2.2.2.2.1; have := hL.2.2.2.2.2.2; omega) hN⟩

set_option maxHeartbeats 1000000 in
theorem palt_any (s : ByteArray) (F : Nat) (hs : s.size ≤ 400) (hA : ∀ f, f < F → PRowC s f) : PAltC s F := by
  intro b o i w hR hi ho hP
  have hlt := hR.lt
  obtain ⟨R, hRd⟩ : ∃ R, R = P.alt s F o i := ⟨_, rfl⟩
  have HRn : Hid (R ≠ .out) := by unfold Hid; rw [hRd]; exact hP
  rw [← hRd]
  have HRd := hid hRd
  have HA := hid hA
  clear hP hRd hA
  go_enter Tryd.func46, Tryd.ntmps46
  go_wp2_with fail
  go_loopg [4] F (fun g v wr => ∃ (ir : Nat) (xs : List (Nd × P.T)), Lm s b o w wr ir v xs ∧ g ≤ F ∧ Hid (JA s o R g ir xs))
  case atStart => exact ⟨i, [], Lm.start hR hi, Nat.le_refl _, Or.inl ⟨rfl, F, Nat.le_refl _, HRd.out⟩⟩
  case round =>
    obtain ⟨ir, xs, hL, hgF, hJ⟩ := hrel
    obtain ⟨ad, cap, e5⟩ := powns_shape hL.2.2.1
    subst e5
    obtain ⟨f, hfg, hRf⟩ := hJ.out.next HRn.out
    have HRf := hid hRf
    have hAo : P.row s f o ir ≠ .out := by intro e; rw [e] at hRf; exact HRn.out hRf
    have HAo := hid hAo
    clear hRf hAo
    go_wp2_with fail
    refine (HA.out f (by omega) b o ir _ hL.1 hL.2.2.2.2.2.1 ho HAo.out).mono ?_
    rintro e w2 ⟨d, i2, o2, k2, rfl, hR2, ho2, hO2, hi2, hf2⟩
    have hw2 := hO2.size
    have hN1 : w.heap.size < wr.heap.size := hL.lt
    have hD2 : DB w2 w.heap.size nd0 := (hO2.block _ hN1 (by omega)).trans hL.2.1
    have hB1 : DB (w2.alloc (.cells #[.int .i64 d.k, .int .u64 d.x0, .int .u64 d.x1, .int .u64 d.x2, .int .u64 d.x3, .slice d.pa d.pn d.pc, .bool d.no, .bool d.ag] 49)) w.heap.size nd0 := heap_alloc_old hD2 (by omega)
    have HF := hid hf2
    clear hf2
    unfold Nd.val
    cases k2 with
    | false =>
      have c0 := hB1.c0
      have c1 := hB1.c1
      have c2 := hB1.c2
      have c3 := hB1.c3
      have c4 := hB1.c4
      have c5 := hB1.c5
      have c6 := hB1.c6
      have c7 := hB1.c7
      have cf := hB1.fz
      have hC1 := hB1.put8 ⟨0, 0, 0, 0, 0, none, 0, 0, false, false⟩
      have r0 := hC1.c0
      have r1 := hC1.c1
      have r2 := hC1.c2
      have r3 := hC1.c3
      have r4 := hC1.c4
      have r5 := hC1.c5
      have r6 := hC1.c6
      have r7 := hC1.c7
      go_wp2_with fail
      refine bodyPost_ret (v := .tuple #[.agg #[.int .i64 0, .int .u64 0, .int .u64 0, .int .u64 0, .int .u64 0, .slice none 0 0, .bool false, .bool false], .bool false]) (by simp [results, Tryd.results46, go_sem, r0, r1, r2, r3, r4, r5, r6, r7]) rfl ?_
      exact Lm.fails (n := 0) hL HRf.out HF.out hlt hR2 hO2 hi2
    | true =>
      obtain ⟨t, hat, hNd⟩ := HF.out.yes
      have he2 := ho2 rfl
      subst he2
      have hsz2 := (P.all_sized s f).2.2.2.1 o2 ir t i2 hat
      have HR3 : Hid (R = P.altOn s f o2 i2 ⟨sumSz xs + t.sz + xs.length, anyEm xs || t.em, .alt (xsOf xs ++ [t.x])⟩) := by
        have h := HRf.out
        rw [hat] at h
        exact h
      have HNd := hid (hNd.only (w' := w2.alloc (.cells #[.int .i64 d.k, .int .u64 d.x0, .int .u64 d.x1, .int .u64 d.x2, .int .u64 d.x3, .slice d.pa d.pn d.pc, .bool d.no, .bool d.ag] 49)) (fun k hk _ => Below.heap_alloc _ _ _ hk))
      clear hat hNd HRf HF
      have hX : Only b wr (w2.alloc (.cells #[.int .i64 d.k, .int .u64 d.x0, .int .u64 d.x1, .int .u64 d.x2, .int .u64 d.x3, .slice d.pa d.pn d.pc, .bool d.no, .bool d.ag] 49)) := hO2.alloc _
      have hR3 : QB (w2.alloc (.cells #[.int .i64 d.k, .int .u64 d.x0, .int .u64 d.x1, .int .u64 d.x2, .int .u64 d.x3, .slice d.pa d.pn d.pc, .bool d.no, .bool d.ag] 49)) b s i2 o2 := heap_alloc_old hR2 hR2.lt
      have hown4 := powns_only hL.2.2.1 hX (by omega)
      have hlen : xs.length ≤ 400 := by have := hL.2.2.2.2.2.1; have := hL.2.2.2.2.2.2; omega
      obtain ⟨i0, hi0, hz0, hz1, hz2⟩ := info_parts Tryd.info38
      clear hB1
      go_wp2_with (first
        | (at_builtin; refine wpList_append_own_at _ rfl (.tmp 15) (.tmp 17) 47 rfl (w.heap.size + 1) 49 i0 _ 8 72 Tryd.underlying47 hi0 hz0 hz1 hz2 rfl (by decide) _ _ _ rfl (hown4.alloc _) ⟨w2.heap.size + 1, 0, none⟩ 1 1 d.cells rfl rfl ?c1 ?c2 ?c3 ?c4 ?c5 ?_))
      case c1 =>
        have h := fun j u h => nd_cells (w := w2.alloc (.cells #[.int .i64 d.k, .int .u64 d.x0, .int .u64 d.x1, .int .u64 d.x2, .int .u64 d.x3, .slice d.pa d.pn d.pc, .bool d.no, .bool d.ag] 49)) (d := d) j u h
        rw [show (w2.alloc (.cells #[.int .i64 d.k, .int .u64 d.x0, .int .u64 d.x1, .int .u64 d.x2, .int .u64 d.x3, .slice d.pa d.pn d.pc, .bool d.no, .bool d.ag] 49)).heap.size = w2.heap.size + 1 from by simp] at h
        exact h
      case c2 => exact nd_one
      case c3 => unfold maxLen; omega
      case c4 => omega
      case c5 => simp; omega
      · intro v' w6 hown6 hgrow6 hnil hat6
        have hL6 := Lm.append hlt hL hX hR3 HNd.out hi2 (by omega) hown6 hgrow6 (by simpa using hat6)
        have hQ6 := hL6.1
        obtain ⟨ad6, cap6, e6⟩ := powns_shape hL6.2.2.1
        rw [show (xs ++ [(d, t)]).length = xs.length + 1 from by simp] at e6
        subst e6
        clear hown6 hgrow6 hnil hat6 hown4
        go_wp2_with fail
        refine (take_any 124 b s i2 o2 _ hs hQ6 (by omega)).mono ?_
        rintro e w7 ⟨rfl, hQ7, hO7⟩
        cases hah : ahd s i2 124 with
        | true =>
          rw [hah, stp_true] at hQ7
          have hbt := ahd_true hah
          have hl := lt_of_bt (s := s) (i := i2) (by omega)
          have hL7 := hL6.moves hlt hO7 hQ7 (by omega) (by omega)
          have HJ7 : Hid (JA s o2 R f (i2 + 1) (xs ++ [(d, t)])) := Or.inr ⟨by simp, f, Nat.le_refl _, i2, rfl, hbt, by rw [sumSz_snoc, anyEm_snoc, xsOf_snoc, List.length_append]; exact HR3.out⟩
          clear hbt
          go_wp2_with fail
          go_roundg f
          case measure => omega
          case rel => exact ⟨i2 + 1, _, hL7, by omega, HJ7⟩
        | false =>
          rw [hah, stp_false] at hQ7
          have hbt := ahd_false hah
          have hL7 := hL6.moves hlt hO7 hQ7 (by omega) (Nat.le_refl _)
          have HRe : Hid (R = .ok ⟨sumSz (xs ++ [(d, t)]) + ((xs ++ [(d, t)]).length - 1), anyEm (xs ++ [(d, t)]), .alt (xsOf (xs ++ [(d, t)]))⟩ i2) := by
            have h := HR3.out
            unfold Hid
            rw [sumSz_snoc, anyEm_snoc, xsOf_snoc, List.length_append]
            cases f with
            | zero => exact absurd (by rw [h]; unfold P.altOn; rfl) HRn.out
            | succ f =>
              rw [h]
              conv => lhs; unfold P.altOn
              rw [if_neg hbt]
              rfl
          clear hbt
          have hB1 : DB w7 w.heap.size nd0 := hL7.2.1
          have c0 := hB1.c0
          have c1 := hB1.c1
          have c2 := hB1.c2
          have c3 := hB1.c3
          have c4 := hB1.c4
          have c5 := hB1.c5
          have c6 := hB1.c6
          have c7 := hB1.c7
          have cf := hB1.fz
          have hC1 := hB1.put8 ⟨2, 0, 0, 0, 0, ad6, xs.length + 1, cap6, false, false⟩
          have r0 := hC1.c0
          have r1 := hC1.c1
          have r2 := hC1.c2
          have r3 := hC1.c3
          have r4 := hC1.c4
          have r5 := hC1.c5
          have r6 := hC1.c6
          have r7 := hC1.c7
          go_wp2_with fail
          refine bodyPost_ret (v := .tuple #[.agg #[.int .i64 2, .int .u64 0, .int .u64 0, .int .u64 0, .int .u64 0, .slice ad6 (xs.length + 1) cap6, .bool false, .bool false], .bool true]) (by simp [results, Tryd.results46, go_sem, r0, r1, r2, r3, r4, r5, r6, r7]) rfl ?_
          rw [HRe.out]
          exact Lm.altOut hlt hL7 (by simp) (by simp) hs
end Go.Proofs.YtjhmlcilabnlbaaDoor
/- The program: round brackets; atoms, rows and choices all together. -/
namespace Go.Proofs.YtjhmlcilabnlbaaDoor
open Go.RowKit

theorem patom_group_eq {s : ByteArray} {f o i : Nat} (h : P.bt s i = 40) : P.atom s (f + 1) o i = if o = 20 then .bad i else (P.alt s f (o + 1) (i + 1)).bind fun t j => if P.bt s j = 41 then .ok t (j + 1) else .bad j := by
  conv => lhs; unfold P.atom
  rw [if_pos h]

/-- A fault: the zero node, handed back. -/
theorem OutD.zero {s : ByteArray} {b o i2 o2 : Nat} {w w2 : World} {R : P.PR P.T} (hlt : b < w.heap.size) (hO : Only b w w2) (hQ : QB w2 b s i2 o2) (hi2 : i2 ≤ s.size) (hR : R = .bad i2) :
    OutD s b o R w (.returned (.tuple #[.agg #[.int .i64 0, .int .u64 0, .int .u64 0, .int .u64 0, .int .u64 0, .slice none 0 0, .bool false, .bool false], .bool false])) (put8 w2 w.heap.size ⟨0, 0, 0, 0, 0, none, 0, 0, false, false⟩) := by
  have hq : QB (put8 w2 w.heap.size ⟨0, 0, 0, 0, 0, none, 0, 0, false, false⟩) b s i2 o2 := (heap_put8 _ (by omega)).trans hQ
  have hO' : Only b w (put8 w2 w.heap.size ⟨0, 0, 0, 0, 0, none, 0, 0, false, false⟩) := hO.put8 (Nat.le_refl _) _
  generalize put8 w2 w.heap.size ⟨0, 0, 0, 0, 0, none, 0, 0, false, false⟩ = X at *
  subst hR
  exact ⟨⟨0, 0, 0, 0, 0, none, 0, 0, false, false⟩, i2, o2, false, rfl, hq, (by intro e; cases e), hO', hi2, rfl, rfl⟩

/-- What stood in the brackets, handed back. -/
theorem OutD.same {s : ByteArray} {b o i2 o2 n : Nat} {w w2 w3 : World} {R : P.PR P.T} {d : Nd} {t : P.T} {x : Int} (hlt : b < w.heap.size) (hO : Only b w w3) (h23 : Only b w2 w3) (hQ : QB w3 b s i2 o2) (hx : x = (o : Int)) (hi2 : i2 ≤ s.size) (hn : w.heap.size < n) (hN : PN w2 (· < n) d t) (hR : R = .ok t i2) :
    OutD s b o R w (.returned (.tuple #[.agg #[.int .i64 d.k, .int .u64 d.x0, .int .u64 d.x1, .int .u64 d.x2, .int .u64 d.x3, .slice d.pa d.pn d.pc, .bool d.no, .bool d.ag], .bool true])) (put8 (w3.setCell ⟨b, 2, none⟩ (.int .i64 x)) w.heap.size d) := by
  have hq : QB (put8 (w3.setCell ⟨b, 2, none⟩ (.int .i64 x)) w.heap.size d) b s i2 o := (heap_put8 _ (by omega)).trans (hQ.set2 hx)
  have hO' : Only b w (put8 (w3.setCell ⟨b, 2, none⟩ (.int .i64 x)) w.heap.size d) := (Only.setCell (p := ⟨b, 2, none⟩) hO rfl _).put8 (Nat.le_refl _) _
  have h1 : OnlyS (· < n) w2 (w3.setCell ⟨b, 2, none⟩ (.int .i64 x)) := (Only.setCell (p := ⟨b, 2, none⟩) h23 rfl _).toS.wide (fun k hk => by show k < n; omega)
  have h2 : OnlyS (· < n) w2 (put8 (w3.setCell ⟨b, 2, none⟩ (.int .i64 x)) w.heap.size d) := OnlyS.put8 (S := (· < n)) h1 hn d
  have hN2 := (hN.only h2).bars (S' := (· < w.heap.size)) (fun j _ hj => by show j < n; have : j < w.heap.size := hj; omega)
  clear h1 h2
  generalize put8 (w3.setCell ⟨b, 2, none⟩ (.int .i64 x)) w.heap.size d = X at *
  subst hR
  exact ⟨d, i2, o, true, rfl, hq, fun _ => rfl, hO', hi2, rfl, rfl, hN2⟩

set_option maxHeartbeats 1000000 in
theorem pgroup_any (s : ByteArray) (f : Nat) (hs : s.size ≤ 400) (hA : PAltC s f) (b o i : Nat) (w : World) (hR : QB w b s i o) (ho : o ≤ 20) (hb : P.bt s i = 40) (hP : P.atom s (f + 1) o i ≠ .out) :
    Calls Tryd.prog 80 #[.pointer (some ⟨b, 0, none⟩)] w fun e w' => OutD s b o (P.atom s (f + 1) o i) w e w' := by
  have hlt := hR.lt
  have hl := lt_of_bt (s := s) (i := i) (by omega)
  rw [patom_group_eq hb] at hP ⊢
  clear hb
  have c1 := hR.c1
  have c2 := hR.c2
  have cf := hR.fz
  by_cases h20 : o = 20
  · subst h20
    rw [if_pos rfl]
    clear hP hA
    go_enter Tryd.func80, Tryd.ntmps80
    go_wp2_with fail
    refine bodyPost_ret (v := .tuple #[.agg #[.int .i64 0, .int .u64 0, .int .u64 0, .int .u64 0, .int .u64 0, .slice none 0 0, .bool false, .bool false], .bool false]) (by simp [results, Tryd.results80, go_sem]) rfl ?_
    exact ⟨⟨0, 0, 0, 0, 0, none, 0, 0, false, false⟩, i, 20, false, rfl, heap_alloc_old hR hlt, (by intro e; cases e), (Only.refl _ _).alloc _, by omega, rfl, rfl⟩
  · rw [if_neg h20] at hP ⊢
    have h20' : ((o : Int) == 20) = false := beq_false_of_ne (by omega)
    obtain ⟨R, hRd⟩ : ∃ R, R = (P.alt s f (o + 1) (i + 1)).bind fun t j => if P.bt s j = 41 then .ok t (j + 1) else .bad j := ⟨_, rfl⟩
    rw [← hRd] at hP ⊢
    have HA := hid hA
    have HRd := hid hRd
    have HAo : Hid (P.alt s f (o + 1) (i + 1) ≠ .out) := by
      intro e
      rw [e] at hRd
      exact hP hRd
    clear hP hA hRd
    go_enter Tryd.func80, Tryd.ntmps80
    go_wp2_with fail
    have hqX : QB (((w.setCell ⟨b, 2, none⟩ (.int .i64 ((o : Int) + 1))).setCell ⟨b, 1, none⟩ (.int .i64 ((i : Int) + 1))).alloc (.cells #[.int .i64 0, .int .u64 0, .int .u64 0, .int .u64 0, .int .u64 0, .slice none 0 0, .bool false, .bool false] 49)) b s (i + 1) (o + 1) := heap_alloc_old ((hR.set2 (by omega)).set1 (by omega)) (by simp only [World.size_setCell]; exact hlt)
    have hOX : Only b w (((w.setCell ⟨b, 2, none⟩ (.int .i64 ((o : Int) + 1))).setCell ⟨b, 1, none⟩ (.int .i64 ((i : Int) + 1))).alloc (.cells #[.int .i64 0, .int .u64 0, .int .u64 0, .int .u64 0, .int .u64 0, .slice none 0 0, .bool false, .bool false] 49)) := (Only.setCell (p := ⟨b, 1, none⟩) (Only.setCell (p := ⟨b, 2, none⟩) (Only.refl _ _) rfl _) rfl _).alloc _
    have hDX : DB (((w.setCell ⟨b, 2, none⟩ (.int .i64 ((o : Int) + 1))).setCell ⟨b, 1, none⟩ (.int .i64 ((i : Int) + 1))).alloc (.cells #[.int .i64 0, .int .u64 0, .int .u64 0, .int .u64 0, .int .u64 0, .slice none 0 0, .bool false, .bool false] 49)) w.heap.size nd0 := by
      have h := heap_alloc_at ((w.setCell ⟨b, 2, none⟩ (.int .i64 ((o : Int) + 1))).setCell ⟨b, 1, none⟩ (.int .i64 ((i : Int) + 1))) (.cells #[.int .i64 0, .int .u64 0, .int .u64 0, .int .u64 0, .int .u64 0, .slice none 0 0, .bool false, .bool false] 49)
      simp only [World.size_setCell] at h
      exact h
    have hsX : (((w.setCell ⟨b, 2, none⟩ (.int .i64 ((o : Int) + 1))).setCell ⟨b, 1, none⟩ (.int .i64 ((i : Int) + 1))).alloc (.cells #[.int .i64 0, .int .u64 0, .int .u64 0, .int .u64 0, .int .u64 0, .slice none 0 0, .bool false, .bool false] 49)).heap.size = w.heap.size + 1 := by simp [World.size_setCell]
    refine (HA.out b (o + 1) (i + 1) _ hqX (by omega) (by omega) HAo.out).mono ?_
    generalize (((w.setCell ⟨b, 2, none⟩ (.int .i64 ((o : Int) + 1))).setCell ⟨b, 1, none⟩ (.int .i64 ((i : Int) + 1))).alloc (.cells #[.int .i64 0, .int .u64 0, .int .u64 0, .int .u64 0, .int .u64 0, .slice none 0 0, .bool false, .bool false] 49)) = X at *
    rintro e w2 ⟨d, i2, o2, k2, rfl, hR2, ho2, hO2, hi2, hf2⟩
    have hw2 := hO2.size
    have hD2 : DB w2 w.heap.size nd0 := (hO2.block _ (by omega) (by omega)).trans hDX
    have hO3 : Only b w w2 := hOX.trans hO2
    have hB1 : DB (w2.alloc (.cells #[.int .i64 d.k, .int .u64 d.x0, .int .u64 d.x1, .int .u64 d.x2, .int .u64 d.x3, .slice d.pa d.pn d.pc, .bool d.no, .bool d.ag] 49)) w.heap.size nd0 := heap_alloc_old hD2 (by omega)
    have hQ3 : QB (w2.alloc (.cells #[.int .i64 d.k, .int .u64 d.x0, .int .u64 d.x1, .int .u64 d.x2, .int .u64 d.x3, .slice d.pa d.pn d.pc, .bool d.no, .bool d.ag] 49)) b s i2 o2 := heap_alloc_old hR2 hR2.lt
    have hO4 : Only b w (w2.alloc (.cells #[.int .i64 d.k, .int .u64 d.x0, .int .u64 d.x1, .int .u64 d.x2, .int .u64 d.x3, .slice d.pa d.pn d.pc, .bool d.no, .bool d.ag] 49)) := hO3.alloc _
    have HF := hid hf2
    clear hf2 c1 c2 cf
    unfold Nd.val
    cases k2 with
    | false =>
      have HRe : Hid (R = .bad i2) := by
        have h := HRd.out
        have hF := HF.out
        unfold Hid
        cases hx : P.alt s f (o + 1) (i + 1) with
        | out => exact absurd hx HAo.out
        | bad p => rw [hx] at h hF; rw [h, hF.2]; rfl
        | ok t j => rw [hx] at hF; exact absurd hF.1 (by simp)
      have c0 := hB1.c0
      have c1 := hB1.c1
      have c2 := hB1.c2
      have c3 := hB1.c3
      have c4 := hB1.c4
      have c5 := hB1.c5
      have c6 := hB1.c6
      have c7 := hB1.c7
      have cf := hB1.fz
      have hC1 := hB1.put8 ⟨0, 0, 0, 0, 0, none, 0, 0, false, false⟩
      have r0 := hC1.c0
      have r1 := hC1.c1
      have r2 := hC1.c2
      have r3 := hC1.c3
      have r4 := hC1.c4
      have r5 := hC1.c5
      have r6 := hC1.c6
      have r7 := hC1.c7
      go_wp2_with fail
      refine bodyPost_ret (v := .tuple #[.agg #[.int .i64 0, .int .u64 0, .int .u64 0, .int .u64 0, .int .u64 0, .slice none 0 0, .bool false, .bool false], .bool false]) (by simp [results, Tryd.results80, go_sem, r0, r1, r2, r3, r4, r5, r6, r7]) rfl ?_
      exact OutD.zero hlt hO4 hQ3 hi2 HRe.out
    | true =>
      obtain ⟨t, hat, hNd⟩ := HF.out.yes
      have he2 := ho2 rfl
      subst he2
      have HR3 : Hid (R = if P.bt s i2 = 41 then .ok t (i2 + 1) else .bad i2) := by
        have h := HRd.out
        rw [hat] at h
        exact h
      have HNd := hid hNd
      have hDd : DB (w2.alloc (.cells #[.int .i64 d.k, .int .u64 d.x0, .int .u64 d.x1, .int .u64 d.x2, .int .u64 d.x3, .slice d.pa d.pn d.pc, .bool d.no, .bool d.ag] 49)) w2.heap.size d := heap_alloc_at _ _
      clear hat hNd HF HRd
      go_wp2_with fail
      refine (take_any 41 b s i2 (o + 1) _ hs hQ3 (by omega)).mono ?_
      rintro e w3 ⟨rfl, hQ5, hO5⟩
      have hw3 := hO5.size
      have hB5 : DB w3 w.heap.size nd0 := (hO5.block _ (by simp; omega) (by omega)).trans hB1
      have hDd5 : DB w3 w2.heap.size d := (hO5.block _ (by simp) (by omega)).trans hDd
      have hO6 : Only b w w3 := hO4.trans hO5
      have h26 : Only b w2 w3 := ((Only.refl b w2).alloc _).trans hO5
      cases hah : ahd s i2 41 with
      | false =>
        rw [hah, stp_false] at hQ5
        have HRe : Hid (R = .bad i2) := by unfold Hid; rw [HR3.out, if_neg (ahd_false hah)]
        have c0 := hB5.c0
        have c1 := hB5.c1
        have c2 := hB5.c2
        have c3 := hB5.c3
        have c4 := hB5.c4
        have c5 := hB5.c5
        have c6 := hB5.c6
        have c7 := hB5.c7
        have cf := hB5.fz
        have hC1 := hB5.put8 ⟨0, 0, 0, 0, 0, none, 0, 0, false, false⟩
        have r0 := hC1.c0
        have r1 := hC1.c1
        have r2 := hC1.c2
        have r3 := hC1.c3
        have r4 := hC1.c4
        have r5 := hC1.c5
        have r6 := hC1.c6
        have r7 := hC1.c7
        go_wp2_with fail
        refine bodyPost_ret (v := .tuple #[.agg #[.int .i64 0, .int .u64 0, .int .u64 0, .int .u64 0, .int .u64 0, .slice none 0 0, .bool false, .bool false], .bool false]) (by simp [results, Tryd.results80, go_sem, r0, r1, r2, r3, r4, r5, r6, r7]) rfl ?_
        exact OutD.zero hlt hO6 hQ5 hi2 HRe.out
      | true =>
        rw [hah, stp_true] at hQ5
        have hbt := ahd_true hah
        have hl2 := lt_of_bt (s := s) (i := i2) (by omega)
        have HRe : Hid (R = .ok t (i2 + 1)) := by unfold Hid; rw [HR3.out, if_pos hbt]
        clear hbt
        have q2 := hQ5.c2
        have qf := hQ5.fz
        have hB6 : ∀ x : Value, DB (w3.setCell ⟨b, 2, none⟩ x) w.heap.size nd0 := fun x => (Below.heap_setCell _ _ _ _ (by show w.heap.size ≠ b; omega)).trans hB5
        have hD6 : ∀ x : Value, DB (w3.setCell ⟨b, 2, none⟩ x) w2.heap.size d := fun x => (Below.heap_setCell _ _ _ _ (by show w2.heap.size ≠ b; omega)).trans hDd5
        have c0 := fun x => (hB6 x).c0
        have c1 := fun x => (hB6 x).c1
        have c2 := fun x => (hB6 x).c2
        have c3 := fun x => (hB6 x).c3
        have c4 := fun x => (hB6 x).c4
        have c5 := fun x => (hB6 x).c5
        have c6 := fun x => (hB6 x).c6
        have c7 := fun x => (hB6 x).c7
        have cf := fun x => (hB6 x).fz
        have e0 := fun x => (hD6 x).c0
        have e1 := fun x => (hD6 x).c1
        have e2 := fun x => (hD6 x).c2
        have e3 := fun x => (hD6 x).c3
        have e4 := fun x => (hD6 x).c4
        have e5 := fun x => (hD6 x).c5
        have e6 := fun x => (hD6 x).c6
        have e7 := fun x => (hD6 x).c7
        have r0 := fun x => ((hB6 x).put8 d).c0
        have r1 := fun x => ((hB6 x).put8 d).c1
        have r2 := fun x => ((hB6 x).put8 d).c2
        have r3 := fun x => ((hB6 x).put8 d).c3
        have r4 := fun x => ((hB6 x).put8 d).c4
        have r5 := fun x => ((hB6 x).put8 d).c5
        have r6 := fun x => ((hB6 x).put8 d).c6
        have r7 := fun x => ((hB6 x).put8 d).c7
        go_wp2_with fail
        refine bodyPost_ret (v := .tuple #[.agg #[.int .i64 d.k, .int .u64 d.x0, .int .u64 d.x1, .int .u64 d.x2, .int .u64 d.x3, .slice d.pa d.pn d.pc, .bool d.no, .bool d.ag], .bool true]) (by simp [results, Tryd.results80, go_sem, r0, r1, r2, r3, r4, r5, r6, r7]) rfl ?_
        exact OutD.same hlt hO6 h26 hQ5 (by omega) (by omega) (by omega) HNd.out HRe.out
end Go.Proofs.YtjhmlcilabnlbaaDoor
/- The program: atoms of round brackets; atoms, rows and choices by one induction. -/
namespace Go.Proofs.YtjhmlcilabnlbaaDoor
open Go.RowKit

/-- A node handed on, through a box of the call's own. -/
theorem OutD.pass {s : ByteArray} {b o i2 o2 n : Nat} {w w2 : World} {R : P.PR P.T} {d : Nd} {k : Bool} (hlt : b < w.heap.size) (hO : Only b w w2) (hn : w.heap.size < n) (hQ : QB w2 b s i2 o2) (ho : k = true → o2 = o) (hi2 : i2 ≤ s.size) (hF : NodeF R w2 n d i2 k) :
    OutD s b o R w (.returned (.tuple #[.agg #[.int .i64 d.k, .int .u64 d.x0, .int .u64 d.x1, .int .u64 d.x2, .int .u64 d.x3, .slice d.pa d.pn d.pc, .bool d.no, .bool d.ag], .bool k])) (put8 w2 w.heap.size d) := by
  have hq : QB (put8 w2 w.heap.size d) b s i2 o2 := (heap_put8 _ (by omega)).trans hQ
  have hO' : Only b w (put8 w2 w.heap.size d) := hO.put8 (Nat.le_refl _) _
  have h2 : OnlyS (· < n) w2 (put8 w2 w.heap.size d) := OnlyS.put8 (S := (· < n)) (fun _ _ _ => rfl) hn d
  generalize put8 w2 w.heap.size d = X at *
  refine ⟨d, i2, o2, k, rfl, hq, ho, hO', hi2, ?_⟩
  cases R with
  | out => exact hF.elim
  | bad p => exact hF
  | ok t j =>
    obtain ⟨h1, h3, hN⟩ := hF
    exact ⟨h1, h3, (hN.only h2).bars (S' := (· < w.heap.size)) (fun j _ hj => by show j < n; have : j < w.heap.size := hj; omega)⟩

set_option maxHeartbeats 1000000 in
theorem patom_group (s : ByteArray) (f : Nat) (hs : s.size ≤ 400) (hA : PAltC s f) (b o i : Nat) (w : World) (hR : QB w b s i o) (ho : o ≤ 20) (hb : P.bt s i = 40) (hP : P.atom s (f + 1) o i ≠ .out) :
    Calls Tryd.prog 66 #[.pointer (some ⟨b, 0, none⟩)] w fun e w' => OutD s b o (P.atom s (f + 1) o i) w e w' := by
  have hlt := hR.lt
  have b1 : (pk s i == 40) = true := by rw [pk_eq (by omega), hb]; rfl
  have HP := hid hP
  have HA := hid hA
  have HB := hid hb
  clear hP hA hb
  have hQ0 : QB ((w.alloc (.cells #[.int .i64 0, .int .u64 0, .int .u64 0, .int .u64 0, .int .u64 0, .slice none 0 0, .bool false, .bool false] 49)).alloc (.cells #[.int .u64 0, .int .u64 0, .int .u64 0, .int .u64 0] 46)) b s i o := heap_alloc_old (heap_alloc_old hR hlt) (by simp; omega)
  go_enter Tryd.func66, Tryd.ntmps66
  go_wp2_with fail
  refine (peek_any _ _ _ _ _ hQ0).mono ?_
  rintro e w1 ⟨rfl, n1, rfl⟩
  go_wp2_with fail
  refine (pgroup_any s f hs HA.out b o i _ (hQ0.drewN _) ho HB.out HP.out).mono ?_
  rintro e w2 ⟨d, i2, o2, k2, rfl, hR2, ho2, hO2, hi2, hf2⟩
  unfold Nd.val
  have hw2 := hO2.size
  have hD2 : DB w2 w.heap.size nd0 := (hO2.block _ (by simp; omega) (by omega)).trans (heap_alloc_old (heap_alloc_at _ _) (by simp))
  have hO3 : Only b w w2 := ((((Only.refl _ _).alloc _).alloc _).drewN _).trans hO2
  have HF := hid hf2
  clear hf2
  have c0 := hD2.c0
  have c1 := hD2.c1
  have c2 := hD2.c2
  have c3 := hD2.c3
  have c4 := hD2.c4
  have c5 := hD2.c5
  have c6 := hD2.c6
  have c7 := hD2.c7
  have cf := hD2.fz
  have hC1 := hD2.put8 d
  have r0 := hC1.c0
  have r1 := hC1.c1
  have r2 := hC1.c2
  have r3 := hC1.c3
  have r4 := hC1.c4
  have r5 := hC1.c5
  have r6 := hC1.c6
  have r7 := hC1.c7
  go_wp2_with fail
  refine bodyPost_ret (v := .tuple #[.agg #[.int .i64 d.k, .int .u64 d.x0, .int .u64 d.x1, .int .u64 d.x2, .int .u64 d.x3, .slice d.pa d.pn d.pc, .bool d.no, .bool d.ag], .bool k2]) (by simp [results, Tryd.results66, go_sem, r0, r1, r2, r3, r4, r5, r6, r7]) rfl ?_
  exact OutD.pass hlt hO3 (by simp; omega) hR2 ho2 hi2 HF.out

theorem patom_past {s : ByteArray} {f o i : Nat} (h91 : P.bt s i = 91) (h : P.atom s (f + 1) o i ≠ .out) : P.cls s f (i + 1) ≠ .out := by
  intro e
  apply h
  unfold P.atom P.leafAt
  simp only [h91, e]
  rfl

theorem patom_any (s : ByteArray) (f : Nat) (hs : s.size ≤ 400) (hA : PAltC s f) : PAtomC s (f + 1) := by
  intro b o i w hR hi ho hP
  by_cases h40 : P.bt s i = 40
  · exact patom_group s f hs hA b o i w hR ho h40 hP
  · by_cases h91 : P.bt s i = 91
    · exact patom_cls f b s i o w hs hR h91 (patom_past h91 hP)
    · by_cases h46 : P.bt s i = 46
      · exact patom_dot f b s i o w hs hR h46
      · exact patom_single f b s i o w hs hR hi h40 h91 h46

theorem pall (s : ByteArray) (hs : s.size ≤ 400) : ∀ F f : Nat, f ≤ F → PAtomC s f ∧ PRowC s f ∧ PAltC s f := by
  intro F
  induction F with
  | zero =>
    intro f hf
    obtain rfl : f = 0 := by omega
    refine ⟨?_, ?_, ?_⟩
    · intro b o i w _ _ _ hP; exact absurd (by unfold P.atom; rfl) hP
    · intro b o i w _ _ _ hP; exact absurd (by unfold P.row; rfl) hP
    · intro b o i w _ _ _ hP; exact absurd (by unfold P.alt; rfl) hP
  | succ F ih =>
    intro f hf
    by_cases hle : f ≤ F
    · exact ih f hle
    · obtain rfl : f = F + 1 := by omega
      exact ⟨patom_any s F hs (ih F (Nat.le_refl _)).2.2, prow_any s (F + 1) hs (fun g hg => (ih g (by omega)).1), palt_any s (F + 1) hs (fun g hg => (ih g (by omega)).2.1)⟩

/-- The program's either, at any text and any place. -/
theorem peither_any (s : ByteArray) (hs : s.size ≤ 400) (F b o i : Nat) (w : World) (hR : QB w b s i o) (hi : i ≤ s.size) (ho : o ≤ 20) (hP : P.alt s F o i ≠ .out) :
    Calls Tryd.prog 46 #[.pointer (some ⟨b, 0, none⟩)] w fun e w' => OutD s b o (P.alt s F o i) w e w' := (pall s hs F F (Nat.le_refl _)).2.2 b o i w hR hi ho hP
end Go.Proofs.YtjhmlcilabnlbaaDoor
/- A rule's tree in memory. -/
namespace Go.Proofs.YtjhmlcilabnlbaaDoor
open Go.RowKit

def noT (l : List (Nd × Tr)) : List (Nd × P.T) := l.map fun x => (x.1, ⟨0, false, .row []⟩)
theorem noT_len (l : List (Nd × Tr)) : (noT l).length = l.length := by simp [noT]
theorem ndCells_fst {l l' : List (Nd × P.T)} (h : l.map (·.1) = l'.map (·.1)) : ndCells l = ndCells l' := by
  have e : ∀ l : List (Nd × P.T), ndCells l = (l.map (·.1)).flatMap Nd.cells := fun l => by simp [ndCells, List.flatMap_map]
  rw [e, e, h]
theorem Parts.turn {w : World} {S : Nat → Prop} {g : Nat} {l l' : List (Nd × P.T)} (h : Parts w S g l) (e : l.map (·.1) = l'.map (·.1)) : Parts w S g l' := by
  obtain ⟨hS, cur, hc, ht⟩ := h
  have hl : l.length = l'.length := by have := congrArg List.length e; simpa using this
  exact ⟨hS, cur, hc, by rw [← hl, ht, ndCells_fst e]⟩

/-- A node in memory, and its tree. -/
inductive PT (w : World) (S : Nat → Prop) : Nd → Tr → Prop where
  | one (x0 x1 x2 x3 : Int) : PT w S ⟨0, x0, x1, x2, x3, none, 0, 0, false, false⟩ (.leaf x0 x1 x2 x3)
  | rep {g c : Nat} {d : Nd} {t : Tr} {no ag : Bool} (hg : Parts w S g (noT [(d, t)])) (h : PT w S d t) : PT w S ⟨3, 0, 0, 0, 0, some ⟨g, 0, none⟩, 1, c, no, ag⟩ (.rep no ag t)
  | row {g c : Nat} {l : List (Nd × Tr)} (hg : Parts w S g (noT l)) (hn : l.length ≤ 1000) (h : ∀ x, x ∈ l → PT w S x.1 x.2) : PT w S ⟨1, 0, 0, 0, 0, some ⟨g, 0, none⟩, l.length, c, false, false⟩ (.row (l.map (·.2)))
  | alt {g c : Nat} {l : List (Nd × Tr)} (hg : Parts w S g (noT l)) (hn : l.length ≤ 1000) (h : ∀ x, x ∈ l → PT w S x.1 x.2) : PT w S ⟨2, 0, 0, 0, 0, some ⟨g, 0, none⟩, l.length, c, false, false⟩ (.alt (l.map (·.2)))
theorem PT.only {w w' : World} {S : Nat → Prop} {d : Nd} {t : Tr} (h : PT w S d t) (k : OnlyS S w w') : PT w' S d t := by
  induction h with
  | one x0 x1 x2 x3 => exact .one x0 x1 x2 x3
  | rep hg _ ih => exact .rep (hg.only k) ih
  | row hg hn _ ih => exact .row (hg.only k) hn ih
  | alt hg hn _ ih => exact .alt (hg.only k) hn ih
theorem PT.bars {w : World} {S S' : Nat → Prop} {d : Nd} {t : Tr} (h : PT w S d t) (k : ∀ j, j < w.heap.size → S' j → S j) : PT w S' d t := by
  induction h with
  | one x0 x1 x2 x3 => exact .one x0 x1 x2 x3
  | rep hg _ ih => exact .rep (hg.bars k) ih
  | row hg hn _ ih => exact .row (hg.bars k) hn ih
  | alt hg hn _ ih => exact .alt (hg.bars k) hn ih

mutual
def Tr.em : Tr → Bool
  | .leaf _ _ _ _ => false
  | .rep no _ t => no || t.em
  | .row l => emAll l
  | .alt l => emAny l
def emAll : List Tr → Bool
  | [] => true
  | t :: ts => t.em && emAll ts
def emAny : List Tr → Bool
  | [] => false
  | t :: ts => t.em || emAny ts
end
theorem emAll_eq (l : List Tr) : emAll l = l.all Tr.em := by
  induction l with
  | nil => unfold emAll; rfl
  | cons t ts ih => unfold emAll; rw [ih]; rfl
theorem emAny_eq (l : List Tr) : emAny l = l.any Tr.em := by
  induction l with
  | nil => unfold emAny; rfl
  | cons t ts ih => unfold emAny; rw [ih]; rfl
theorem lvs_eq (l : List Tr) : lvs l = (l.map Tr.lv).sum := by
  induction l with
  | nil => unfold lvs; rfl
  | cons t ts ih => unfold lvs; rw [ih]; simp

/-- A tree, and what it was read as. -/
inductive TX : Tr → P.X → Prop where
  | leaf {x0 x1 x2 x3 : Int} {p : Nat → Bool} (h : W4 x0 x1 x2 x3 p) : TX (.leaf x0 x1 x2 x3) (.set p)
  | rep {no ag : Bool} {t : Tr} {x : P.X} (h : TX t x) : TX (.rep no ag t) (.rep no ag x)
  | row {ts : List Tr} {xs : List P.X} (hl : ts.length = xs.length) (h : ∀ (i : Nat) (t : Tr) (x : P.X), ts[i]? = some t → xs[i]? = some x → TX t x) : TX (.row ts) (.row xs)
  | alt {ts : List Tr} {xs : List P.X} (hl : ts.length = xs.length) (h : ∀ (i : Nat) (t : Tr) (x : P.X), ts[i]? = some t → xs[i]? = some x → TX t x) : TX (.alt ts) (.alt xs)

/-- Trees for the parts. -/
theorem trees_of {w : World} {S : Nat → Prop} (l : List (Nd × P.T)) (h : ∀ x, x ∈ l → ∃ tr, PT w S x.1 tr ∧ tr.lv ≤ x.2.sz ∧ tr.em = x.2.em ∧ (x.2.em = false → 1 ≤ tr.lv) ∧ TX tr x.2.x) :
    ∃ l' : List (Nd × Tr), l.map (·.1) = (noT l').map (·.1) ∧ l.length = l'.length ∧ (∀ x, x ∈ l' → PT w S x.1 x.2) ∧ lvs (l'.map (·.2)) ≤ sumSz l ∧ emAll (l'.map (·.2)) = allEm l ∧ emAny (l'.map (·.2)) = anyEm l ∧ (allEm l = false → 1 ≤ lvs (l'.map (·.2))) ∧ (l ≠ [] → anyEm l = false → 1 ≤ lvs (l'.map (·.2))) ∧ (l'.map (·.2)).length = (xsOf l).length ∧ (∀ (i : Nat) (t : Tr) (x : P.X), (l'.map (·.2))[i]? = some t → (xsOf l)[i]? = some x → TX t x) := by
  induction l with
  | nil => exact ⟨[], rfl, rfl, by simp, by simp [lvs, sumSz], by simp [emAll, allEm], by simp [emAny, anyEm], by simp [allEm], by simp, rfl, fun i t x h => by simp at h⟩
  | cons x xs ih =>
    obtain ⟨l', h1, h2, h3, h4, h5, h6, h7, h8, h9, h10⟩ := ih (fun y hy => h y (List.mem_cons_of_mem _ hy))
    obtain ⟨tr, k1, k2, k3, k4, k5⟩ := h x List.mem_cons_self
    have e1 : lvs (((x.1, tr) :: l').map (·.2)) = tr.lv + lvs (l'.map (·.2)) := by show lvs (tr :: l'.map (·.2)) = _; conv => lhs; unfold lvs
    have e2 : allEm (x :: xs) = (x.2.em && allEm xs) := by simp [allEm]
    have e3 : anyEm (x :: xs) = (x.2.em || anyEm xs) := by simp [anyEm]
    refine ⟨(x.1, tr) :: l', ?_, by simp [h2], ?_, ?_, ?_, ?_, ?_, ?_, ?_, ?_⟩
    · simpa [noT] using h1
    · intro y hy
      rcases List.mem_cons.1 hy with rfl | hy
      · exact k1
      · exact h3 y hy
    · rw [e1]
      simp only [sumSz, List.map_cons, List.sum_cons] at h4 ⊢
      omega
    · show emAll (tr :: l'.map (·.2)) = _
      unfold emAll
      rw [h5, k3, e2]
    · show emAny (tr :: l'.map (·.2)) = _
      unfold emAny
      rw [h6, k3, e3]
    · rw [e1, e2]
      intro he
      cases ex : x.2.em with
      | false => have := k4 ex; omega
      | true => rw [ex] at he; have := h7 (by simpa using he); omega
    · rw [e1, e3]
      intro _ he
      cases ex : x.2.em with
      | false => have := k4 ex; omega
      | true => rw [ex] at he; simp at he
    · simpa [xsOf] using h9
    · intro i t y hi hy
      cases i with
      | zero =>
        simp only [List.map_cons, List.getElem?_cons_zero, Option.some.injEq] at hi
        simp only [xsOf, List.map_cons, List.getElem?_cons_zero, Option.some.injEq] at hy
        subst hi; subst hy; exact k5
      | succ i =>
        simp only [List.map_cons, List.getElem?_cons_succ] at hi
        simp only [xsOf, List.map_cons, List.getElem?_cons_succ] at hy
        exact h10 i t y hi hy

theorem PN.tree {w : World} {S : Nat → Prop} {d : Nd} {t : P.T} (h : PN w S d t) : ∃ tr, PT w S d tr ∧ tr.lv ≤ t.sz ∧ tr.em = t.em ∧ (t.em = false → 1 ≤ tr.lv) ∧ TX tr t.x := by
  induction h with
  | one x0 x1 x2 x3 p hp => exact ⟨_, .one x0 x1 x2 x3, by unfold Tr.lv; exact Nat.le_refl _, by unfold Tr.em; rfl, fun _ => by unfold Tr.lv; exact Nat.le_refl _, .leaf hp⟩
  | @rep g c d t no ag hg _ ih =>
    obtain ⟨tr, h1, h2, h3, h4, h5⟩ := ih
    exact ⟨.rep no ag tr, .rep (hg.turn rfl) h1, by unfold Tr.lv; show tr.lv ≤ t.sz + 1; omega, by unfold Tr.em; rw [h3], fun he => by unfold Tr.lv; exact h4 (by simp at he; exact he.2), .rep h5⟩
  | @row g c l hg hn _ ih =>
    obtain ⟨l', h1, h2, h3, h4, h5, h6, h7, h8, h9, h10⟩ := trees_of l ih
    refine ⟨.row (l'.map (·.2)), ?_, by unfold Tr.lv; exact h4, by unfold Tr.em; exact h5, fun he => by unfold Tr.lv; exact h7 he, .row h9 h10⟩
    rw [h2]
    exact .row (hg.turn h1) (by omega) h3
  | @alt g c l hg hl hn _ ih =>
    obtain ⟨l', h1, h2, h3, h4, h5, h6, h7, h8, h9, h10⟩ := trees_of l ih
    refine ⟨.alt (l'.map (·.2)), ?_, by unfold Tr.lv; exact Nat.le_trans h4 (Nat.le_add_right _ _), by unfold Tr.em; exact h6, fun he => by unfold Tr.lv; exact h8 hl he, .alt h9 h10⟩
    rw [h2]
    exact .alt (hg.turn h1) (by omega) h3
end Go.Proofs.YtjhmlcilabnlbaaDoor
/- States: one part behind another. -/
namespace Go.Proofs.YtjhmlcilabnlbaaDoor
open Go.RowKit Go.Shelf

attribute [local go_sem] Oper.semAt_some

theorem PB.setF {w : World} {g : Nat} {a : Pc} (h : PB w g a) (x : S2) : PB ((w.setCell ⟨g, 0, none⟩ (.int .u64 (x.1 : Int))).setCell ⟨g, 1, none⟩ (.int .u64 (x.2 : Int))) g ⟨x, a.lst, a.em⟩ := hset (hset h _) _
theorem PB.setL {w : World} {g : Nat} {a : Pc} (h : PB w g a) (x : S2) : PB ((w.setCell ⟨g, 2, none⟩ (.int .u64 (x.1 : Int))).setCell ⟨g, 3, none⟩ (.int .u64 (x.2 : Int))) g ⟨a.fst, x, a.em⟩ := hset (hset h _) _
theorem PB.setE {w : World} {g : Nat} {a : Pc} (h : PB w g a) (x : Bool) : PB (w.setCell ⟨g, 4, none⟩ (.bool x)) g ⟨a.fst, a.lst, x⟩ := hset h _
theorem PB.below {w w' : World} {g : Nat} {a : Pc} (h : PB w g a) (k : Below w.heap.size w w') : PB w' g a := (k.block _ h.lt).trans h
theorem PB.other {w : World} {g k : Nat} {a : Pc} (h : PB w g a) (hk : g ≠ k) (i j : Nat) (x y : Value) : PB ((w.setCell ⟨k, i, none⟩ x).setCell ⟨k, j, none⟩ y) g a :=
  ((Below.heap_setCell _ _ _ _ hk).trans (Below.heap_setCell _ _ _ _ hk)).trans h

/-- What a call holds besides the plan: a part in a box, a result's box. -/
structure BoxI (B : Nat) (w : World) (p : Nat) (vb vn : Value) (D : PlD) (L : List (Nat × Pc)) (g : Nat) (x : Pc) (r : Nat) (W : World) : Prop where
  pl : PlanIn B W p vb vn D
  tn : Turn (fun k => vn.ownBlock = some k) w W
  bx : PB W g x
  rs : PB W r pc0
  gw : w.heap.size ≤ g
  rw' : w.heap.size ≤ r
  gr : g ≠ r
  pg : p < w.heap.size
  og : ∀ k, vb.ownBlock = some k → k < w.heap.size
  on : ∀ k, vn.ownBlock = some k → k < w.heap.size
  ls : ∀ k y, (k, y) ∈ L → PB W k y ∧ k ≠ g
theorem BoxI.below {B p : Nat} {w W W' : World} {vb vn : Value} {D : PlD} {L : List (Nat × Pc)} {g r : Nat} {x : Pc} (h : BoxI B w p vb vn D L g x r W) (k : Below W.heap.size W W') : BoxI B w p vb vn D L g x r W' :=
  ⟨h.pl.below k (Nat.le_refl _), h.tn.below k h.tn.size, h.bx.below k, h.rs.below k, h.gw, h.rw', h.gr, h.pg, h.og, h.on, fun j y hj => ⟨(h.ls j y hj).1.below k, (h.ls j y hj).2⟩⟩
theorem BoxI.two {B p : Nat} {w W : World} {vb vn : Value} {D : PlD} {L : List (Nat × Pc)} {g r : Nat} {x y : Pc} (h : BoxI B w p vb vn D L g x r W) (i j : Nat) (u v : Value) (hb : PB ((W.setCell ⟨g, i, none⟩ u).setCell ⟨g, j, none⟩ v) g y) : BoxI B w p vb vn D L g y r ((W.setCell ⟨g, i, none⟩ u).setCell ⟨g, j, none⟩ v) := by
  have hg := h.gw
  have hp := h.pg
  have other : ∀ k, k ≠ g → ((W.setCell ⟨g, i, none⟩ u).setCell ⟨g, j, none⟩ v).heap[k]? = W.heap[k]? := fun k hk => (Below.heap_setCell _ _ _ _ hk).trans (Below.heap_setCell _ _ _ _ hk)
  exact ⟨h.pl.keep (other _ (by omega)) (fun k hk => other _ (by have := h.og k hk; omega)) (fun k hk => other _ (by have := h.on k hk; omega)), (h.tn.setCell ⟨g, i, none⟩ (fun e => by have : g < w.heap.size := e; omega) _).setCell ⟨g, j, none⟩ (fun e => by have : g < w.heap.size := e; omega) _, hb, (other r (by have := h.gr; omega)).trans h.rs, h.gw, h.rw', h.gr, h.pg, h.og, h.on, fun k y hk => ⟨(other k (h.ls k y hk).2).trans (h.ls k y hk).1, (h.ls k y hk).2⟩⟩
theorem BoxI.setF {B p : Nat} {w W : World} {vb vn : Value} {D : PlD} {L : List (Nat × Pc)} {g r : Nat} {x : Pc} (h : BoxI B w p vb vn D L g x r W) (z : S2) : BoxI B w p vb vn D L g ⟨z, x.lst, x.em⟩ r ((W.setCell ⟨g, 0, none⟩ (.int .u64 (z.1 : Int))).setCell ⟨g, 1, none⟩ (.int .u64 (z.2 : Int))) := h.two _ _ _ _ (h.bx.setF z)
theorem BoxI.setL {B p : Nat} {w W : World} {vb vn : Value} {D : PlD} {L : List (Nat × Pc)} {g r : Nat} {x : Pc} (h : BoxI B w p vb vn D L g x r W) (z : S2) : BoxI B w p vb vn D L g ⟨x.fst, z, x.em⟩ r ((W.setCell ⟨g, 2, none⟩ (.int .u64 (z.1 : Int))).setCell ⟨g, 3, none⟩ (.int .u64 (z.2 : Int))) := h.two _ _ _ _ (h.bx.setL z)
theorem BoxI.done {B p : Nat} {w W : World} {vb vn : Value} {D : PlD} {L : List (Nat × Pc)} {g r : Nat} {x : Pc} (h : BoxI B w p vb vn D L g x r W) : PB (putPc W r x) r x ∧ PlanIn B (putPc W r x) p vb vn D ∧ Turn (fun k => vn.ownBlock = some k) w (putPc W r x) :=
  ⟨h.rs.put x, h.pl.putPc (by have := h.rw'; have := h.pg; omega) (fun e => by have := h.rw'; have := h.og _ e; omega) (fun e => by have := h.rw'; have := h.on _ e; omega) x, putPc_turn h.tn h.rw' x⟩

set_option maxRecDepth 100000 in
set_option maxHeartbeats 4000000 in
theorem behind_any (B : Nat) (hB1 : 1 ≤ B) (D : PlD) (p : Nat) (vb vn : Value) (a b : Pc) (ha : a.ok D.nx.length) (hb : b.ok D.nx.length) (hnx : ∀ a, a ∈ D.nx → a.ok) (w : World) (hP : PlanIn B w p vb vn D) (hT : TabIn w) :
    Calls Tryd.prog 56 #[.pointer (some ⟨p, 0, none⟩), .agg #[.int .u64 (a.fst.1 : Int), .int .u64 (a.fst.2 : Int), .int .u64 (a.lst.1 : Int), .int .u64 (a.lst.2 : Int), .bool a.em], .agg #[.int .u64 (b.fst.1 : Int), .int .u64 (b.fst.2 : Int), .int .u64 (b.lst.1 : Int), .int .u64 (b.lst.2 : Int), .bool b.em]] w fun e w' => e = .returned (a.beh b).val ∧ PlanIn B w' p vb vn (D.lnk a.lst b.fst) ∧ Turn (fun k => vn.ownBlock = some k) w w' := by
  have hplt := hP.lt
  have hol : ∀ k, vb.ownBlock = some k → k < w.heap.size := fun k hk => (hP.ob.lt hk).1
  have hnl : ∀ k, vn.ownBlock = some k → k < w.heap.size := fun k hk => (hP.on.lt hk).1
  have hB0 : Below w.heap.size w (((w.alloc (.cells #[.int .u64 (a.fst.1 : Int), .int .u64 (a.fst.2 : Int), .int .u64 (a.lst.1 : Int), .int .u64 (a.lst.2 : Int), .bool a.em] 83)).alloc (.cells #[.int .u64 (b.fst.1 : Int), .int .u64 (b.fst.2 : Int), .int .u64 (b.lst.1 : Int), .int .u64 (b.lst.2 : Int), .bool b.em] 83)).alloc (.cells #[.int .u64 0, .int .u64 0, .int .u64 0, .int .u64 0, .bool false] 83)) := ((((Below.refl _ w).alloc (Nat.le_refl _) _).alloc (by simp) _).alloc (by simp; omega) _)
  obtain ⟨g0, g1, g2⟩ := heap_three w (.cells #[.int .u64 (a.fst.1 : Int), .int .u64 (a.fst.2 : Int), .int .u64 (a.lst.1 : Int), .int .u64 (a.lst.2 : Int), .bool a.em] 83) (.cells #[.int .u64 (b.fst.1 : Int), .int .u64 (b.fst.2 : Int), .int .u64 (b.lst.1 : Int), .int .u64 (b.lst.2 : Int), .bool b.em] 83) (.cells #[.int .u64 0, .int .u64 0, .int .u64 0, .int .u64 0, .bool false] 83) _ rfl
  have hVs : (((w.alloc (.cells #[.int .u64 (a.fst.1 : Int), .int .u64 (a.fst.2 : Int), .int .u64 (a.lst.1 : Int), .int .u64 (a.lst.2 : Int), .bool a.em] 83)).alloc (.cells #[.int .u64 (b.fst.1 : Int), .int .u64 (b.fst.2 : Int), .int .u64 (b.lst.1 : Int), .int .u64 (b.lst.2 : Int), .bool b.em] 83)).alloc (.cells #[.int .u64 0, .int .u64 0, .int .u64 0, .int .u64 0, .bool false] 83)).heap.size = w.heap.size + 1 + 1 + 1 := by simp
  go_enter Tryd.func56, Tryd.ntmps56
  go_wp2_with fail
  generalize (((w.alloc (.cells #[.int .u64 (a.fst.1 : Int), .int .u64 (a.fst.2 : Int), .int .u64 (a.lst.1 : Int), .int .u64 (a.lst.2 : Int), .bool a.em] 83)).alloc (.cells #[.int .u64 (b.fst.1 : Int), .int .u64 (b.fst.2 : Int), .int .u64 (b.lst.1 : Int), .int .u64 (b.lst.2 : Int), .bool b.em] 83)).alloc (.cells #[.int .u64 0, .int .u64 0, .int .u64 0, .int .u64 0, .bool false] 83)) = V at *
  refine (link_any B hB1 D p vb vn a.lst b.fst ha.lst hb.fst hnx ha.lf V (hP.below hB0 (Nat.le_refl _)) (hT.below hB0 (by omega))).mono ?_
  rintro e w1 ⟨rfl, hP1, hT1⟩
  have pa : PB w1 w.heap.size a := (hT1.block _ (by omega) (fun e => by have := hnl _ e; omega)).trans g0
  have pb : PB w1 (w.heap.size + 1) b := (hT1.block _ (by omega) (fun e => by have := hnl _ e; omega)).trans g1
  have pr : PB w1 (w.heap.size + 1 + 1) pc0 := (hT1.block _ (by omega) (fun e => by have := hnl _ e; omega)).trans g2
  have hT2 : Turn (fun k => vn.ownBlock = some k) w w1 := (Turn.ofBelow hB0).trans (hT1.mono (fun j _ h => h))
  have hw1 := hT1.size
  clear hB0 g0 g1 g2 hT1 hP hT
  have HI : ∀ X : Pc, X.fst = a.fst → X.lst = b.lst → X.em = (a.em && b.em) → BoxI B w p vb vn (D.lnk a.lst b.fst) [(w.heap.size, a), (w.heap.size + 1, b)] w1.heap.size X (w.heap.size + 1 + 1) (w1.alloc (.cells #[.int .u64 (X.fst.1 : Int), .int .u64 (X.fst.2 : Int), .int .u64 (X.lst.1 : Int), .int .u64 (X.lst.2 : Int), .bool X.em] 83)) := fun X _ _ _ =>
    ⟨hP1.below ((Below.refl _ _).alloc (Nat.le_refl _) _) (Nat.le_refl _), hT2.alloc _, heap_alloc_at _ _, heap_alloc_old pr pr.lt, by omega, by omega, by have := pr.lt; omega, hplt, hol, hnl, fun k y hk => by
      have hal := pa.lt
      have hbl := pb.lt
      simp only [List.mem_cons, Prod.mk.injEq, List.not_mem_nil, or_false] at hk
      rcases hk with ⟨rfl, rfl⟩ | ⟨rfl, rfl⟩
      · exact ⟨heap_alloc_old pa hal, by omega⟩
      · exact ⟨heap_alloc_old pb hbl, by omega⟩⟩
  have a0 := pa.c0
  have a1 := pa.c1
  have a2 := pa.c2
  have a3 := pa.c3
  have a4 := pa.c4
  have b0 := pb.c0
  have b1 := pb.c1
  have b2 := pb.c2
  have b3 := pb.c3
  have b4 := pb.c4
  cases hae : a.em <;> cases hbe : b.em
  · -- false, false
    have HB : Hid (a.beh b = ⟨a.fst, b.lst, false⟩) := by unfold Hid Pc.beh; rw [hae, hbe]; rfl
    have hI := HI ⟨a.fst, b.lst, false⟩ rfl rfl (by rw [hae, hbe]; rfl)
    clear HI
    rw [hae] at a4
    rw [hbe] at b4
    have y0 := a0
    have y1 := a1
    have y2 := a2
    have y3 := a3
    have y4 := a4
    have z0 := b0
    have z1 := b1
    have z2 := b2
    have z3 := b3
    have z4 := b4
    clear a0 a1 a2 a3 a4 b0 b1 b2 b3 b4
    have qa := (hI.ls w.heap.size a (by simp)).1
    have qb := (hI.ls (w.heap.size + 1) b (by simp)).1
    have a0 := qa.c0
    have b0 := qb.c0
    have x0 := hI.bx.c0
    have r0 := hI.rs.c0
    have a1 := qa.c1
    have b1 := qb.c1
    have x1 := hI.bx.c1
    have r1 := hI.rs.c1
    have a2 := qa.c2
    have b2 := qb.c2
    have x2 := hI.bx.c2
    have r2 := hI.rs.c2
    have a3 := qa.c3
    have b3 := qb.c3
    have x3 := hI.bx.c3
    have r3 := hI.rs.c3
    have a4 := qa.c4
    have b4 := qb.c4
    have x4 := hI.bx.c4
    have r4 := hI.rs.c4
    have xf := hI.bx.fz
    have rf := hI.rs.fz
    rw [hae] at a4
    rw [hbe] at b4
    obtain ⟨q, hPe, hTe⟩ := hI.done
    have q0 := q.c0
    have q1 := q.c1
    have q2 := q.c2
    have q3 := q.c3
    have q4 := q.c4
    go_wp2_with fail
    exact bodyPost_ret (v := (⟨a.fst, b.lst, false⟩ : Pc).val) (by unfold putPc at q0 q1 q2 q3 q4; simp [results, Tryd.results56, go_sem, q0, q1, q2, q3, q4, Pc.val]) rfl ⟨by rw [HB.out], hPe, hTe⟩
  · -- false, true
    have HB : Hid (a.beh b = ⟨a.fst, (a.lst.or b.lst), false⟩) := by unfold Hid Pc.beh; rw [hae, hbe]; rfl
    have hI := HI ⟨a.fst, b.lst, false⟩ rfl rfl (by rw [hae, hbe]; rfl)
    clear HI
    rw [hae] at a4
    rw [hbe] at b4
    have y0 := a0
    have y1 := a1
    have y2 := a2
    have y3 := a3
    have y4 := a4
    have z0 := b0
    have z1 := b1
    have z2 := b2
    have z3 := b3
    have z4 := b4
    clear a0 a1 a2 a3 a4 b0 b1 b2 b3 b4
    have qa := (hI.ls w.heap.size a (by simp)).1
    have qb := (hI.ls (w.heap.size + 1) b (by simp)).1
    have a0 := qa.c0
    have b0 := qb.c0
    have x0 := hI.bx.c0
    have r0 := hI.rs.c0
    have a1 := qa.c1
    have b1 := qb.c1
    have x1 := hI.bx.c1
    have r1 := hI.rs.c1
    have a2 := qa.c2
    have b2 := qb.c2
    have x2 := hI.bx.c2
    have r2 := hI.rs.c2
    have a3 := qa.c3
    have b3 := qb.c3
    have x3 := hI.bx.c3
    have r3 := hI.rs.c3
    have a4 := qa.c4
    have b4 := qb.c4
    have x4 := hI.bx.c4
    have r4 := hI.rs.c4
    have xf := hI.bx.fz
    have rf := hI.rs.fz
    rw [hae] at a4
    rw [hbe] at b4
    go_wp2_with fail
    clear y0 y1 y2 y3 y4 z0 z1 z2 z3 z4
    clear qa qb a0 a1 a2 a3 a4 b0 b1 b2 b3 b4 x0 x1 x2 x3 x4 r0 r1 r2 r3 r4 xf rf
    refine (union_nat a.lst b.lst ha.lst hb.lst _).mono ?_
    rintro e w3 ⟨rfl, hB3⟩
    have hI3 := hI.below hB3
    have qa := (hI3.ls w.heap.size a (by simp)).1
    have qb := (hI3.ls (w.heap.size + 1) b (by simp)).1
    have a0 := qa.c0
    have b0 := qb.c0
    have x0 := hI3.bx.c0
    have r0 := hI3.rs.c0
    have a1 := qa.c1
    have b1 := qb.c1
    have x1 := hI3.bx.c1
    have r1 := hI3.rs.c1
    have a2 := qa.c2
    have b2 := qb.c2
    have x2 := hI3.bx.c2
    have r2 := hI3.rs.c2
    have a3 := qa.c3
    have b3 := qb.c3
    have x3 := hI3.bx.c3
    have r3 := hI3.rs.c3
    have a4 := qa.c4
    have b4 := qb.c4
    have x4 := hI3.bx.c4
    have r4 := hI3.rs.c4
    have xf := hI3.bx.fz
    have rf := hI3.rs.fz
    rw [hae] at a4
    rw [hbe] at b4
    have hJ3 := hI3.setL (a.lst.or b.lst)
    have kx0 := hJ3.bx.c0
    have kr0 := hJ3.rs.c0
    have kx1 := hJ3.bx.c1
    have kr1 := hJ3.rs.c1
    have kx2 := hJ3.bx.c2
    have kr2 := hJ3.rs.c2
    have kx3 := hJ3.bx.c3
    have kr3 := hJ3.rs.c3
    have kx4 := hJ3.bx.c4
    have kr4 := hJ3.rs.c4
    have krf := hJ3.rs.fz
    obtain ⟨q, hPe, hTe⟩ := hJ3.done
    have q0 := q.c0
    have q1 := q.c1
    have q2 := q.c2
    have q3 := q.c3
    have q4 := q.c4
    go_wp2_with fail
    exact bodyPost_ret (v := (⟨a.fst, a.lst.or b.lst, false⟩ : Pc).val) (by unfold putPc at q0 q1 q2 q3 q4; simp [results, Tryd.results56, go_sem, q0, q1, q2, q3, q4, Pc.val]) rfl ⟨by rw [HB.out], hPe, hTe⟩
  · -- true, false
    have HB : Hid (a.beh b = ⟨(a.fst.or b.fst), b.lst, false⟩) := by unfold Hid Pc.beh; rw [hae, hbe]; rfl
    have hI := HI ⟨a.fst, b.lst, false⟩ rfl rfl (by rw [hae, hbe]; rfl)
    clear HI
    rw [hae] at a4
    rw [hbe] at b4
    have y0 := a0
    have y1 := a1
    have y2 := a2
    have y3 := a3
    have y4 := a4
    have z0 := b0
    have z1 := b1
    have z2 := b2
    have z3 := b3
    have z4 := b4
    clear a0 a1 a2 a3 a4 b0 b1 b2 b3 b4
    have qa := (hI.ls w.heap.size a (by simp)).1
    have qb := (hI.ls (w.heap.size + 1) b (by simp)).1
    have a0 := qa.c0
    have b0 := qb.c0
    have x0 := hI.bx.c0
    have r0 := hI.rs.c0
    have a1 := qa.c1
    have b1 := qb.c1
    have x1 := hI.bx.c1
    have r1 := hI.rs.c1
    have a2 := qa.c2
    have b2 := qb.c2
    have x2 := hI.bx.c2
    have r2 := hI.rs.c2
    have a3 := qa.c3
    have b3 := qb.c3
    have x3 := hI.bx.c3
    have r3 := hI.rs.c3
    have a4 := qa.c4
    have b4 := qb.c4
    have x4 := hI.bx.c4
    have r4 := hI.rs.c4
    have xf := hI.bx.fz
    have rf := hI.rs.fz
    rw [hae] at a4
    rw [hbe] at b4
    go_wp2_with fail
    clear y0 y1 y2 y3 y4 z0 z1 z2 z3 z4
    clear qa qb a0 a1 a2 a3 a4 b0 b1 b2 b3 b4 x0 x1 x2 x3 x4 r0 r1 r2 r3 r4 xf rf
    refine (union_nat a.fst b.fst ha.fst hb.fst _).mono ?_
    rintro e w3 ⟨rfl, hB3⟩
    have hI3 := hI.below hB3
    have qa := (hI3.ls w.heap.size a (by simp)).1
    have qb := (hI3.ls (w.heap.size + 1) b (by simp)).1
    have a0 := qa.c0
    have b0 := qb.c0
    have x0 := hI3.bx.c0
    have r0 := hI3.rs.c0
    have a1 := qa.c1
    have b1 := qb.c1
    have x1 := hI3.bx.c1
    have r1 := hI3.rs.c1
    have a2 := qa.c2
    have b2 := qb.c2
    have x2 := hI3.bx.c2
    have r2 := hI3.rs.c2
    have a3 := qa.c3
    have b3 := qb.c3
    have x3 := hI3.bx.c3
    have r3 := hI3.rs.c3
    have a4 := qa.c4
    have b4 := qb.c4
    have x4 := hI3.bx.c4
    have r4 := hI3.rs.c4
    have xf := hI3.bx.fz
    have rf := hI3.rs.fz
    rw [hae] at a4
    rw [hbe] at b4
    have hJ3 := hI3.setF (a.fst.or b.fst)
    have ka := (hJ3.ls w.heap.size a (by simp)).1
    have kb := (hJ3.ls (w.heap.size + 1) b (by simp)).1
    have ka0 := ka.c0
    have kb0 := kb.c0
    have kx0 := hJ3.bx.c0
    have kr0 := hJ3.rs.c0
    have ka1 := ka.c1
    have kb1 := kb.c1
    have kx1 := hJ3.bx.c1
    have kr1 := hJ3.rs.c1
    have ka2 := ka.c2
    have kb2 := kb.c2
    have kx2 := hJ3.bx.c2
    have kr2 := hJ3.rs.c2
    have ka3 := ka.c3
    have kb3 := kb.c3
    have kx3 := hJ3.bx.c3
    have kr3 := hJ3.rs.c3
    have ka4 := ka.c4
    have kb4 := kb.c4
    have kx4 := hJ3.bx.c4
    have kr4 := hJ3.rs.c4
    have krf := hJ3.rs.fz
    rw [hae] at ka4
    rw [hbe] at kb4
    obtain ⟨q, hPe, hTe⟩ := hJ3.done
    have q0 := q.c0
    have q1 := q.c1
    have q2 := q.c2
    have q3 := q.c3
    have q4 := q.c4
    go_wp2_with fail
    exact bodyPost_ret (v := (⟨a.fst.or b.fst, b.lst, false⟩ : Pc).val) (by unfold putPc at q0 q1 q2 q3 q4; simp [results, Tryd.results56, go_sem, q0, q1, q2, q3, q4, Pc.val]) rfl ⟨by rw [HB.out], hPe, hTe⟩
  · -- true, true
    have HB : Hid (a.beh b = ⟨(a.fst.or b.fst), (a.lst.or b.lst), true⟩) := by unfold Hid Pc.beh; rw [hae, hbe]; rfl
    have hI := HI ⟨a.fst, b.lst, true⟩ rfl rfl (by rw [hae, hbe]; rfl)
    clear HI
    rw [hae] at a4
    rw [hbe] at b4
    have y0 := a0
    have y1 := a1
    have y2 := a2
    have y3 := a3
    have y4 := a4
    have z0 := b0
    have z1 := b1
    have z2 := b2
    have z3 := b3
    have z4 := b4
    clear a0 a1 a2 a3 a4 b0 b1 b2 b3 b4
    have qa := (hI.ls w.heap.size a (by simp)).1
    have qb := (hI.ls (w.heap.size + 1) b (by simp)).1
    have a0 := qa.c0
    have b0 := qb.c0
    have x0 := hI.bx.c0
    have r0 := hI.rs.c0
    have a1 := qa.c1
    have b1 := qb.c1
    have x1 := hI.bx.c1
    have r1 := hI.rs.c1
    have a2 := qa.c2
    have b2 := qb.c2
    have x2 := hI.bx.c2
    have r2 := hI.rs.c2
    have a3 := qa.c3
    have b3 := qb.c3
    have x3 := hI.bx.c3
    have r3 := hI.rs.c3
    have a4 := qa.c4
    have b4 := qb.c4
    have x4 := hI.bx.c4
    have r4 := hI.rs.c4
    have xf := hI.bx.fz
    have rf := hI.rs.fz
    rw [hae] at a4
    rw [hbe] at b4
    go_wp2_with fail
    clear y0 y1 y2 y3 y4 z0 z1 z2 z3 z4
    clear qa qb a0 a1 a2 a3 a4 b0 b1 b2 b3 b4 x0 x1 x2 x3 x4 r0 r1 r2 r3 r4 xf rf
    refine (union_nat a.fst b.fst ha.fst hb.fst _).mono ?_
    rintro e w3 ⟨rfl, hB3⟩
    have hI3 := hI.below hB3
    have qa := (hI3.ls w.heap.size a (by simp)).1
    have qb := (hI3.ls (w.heap.size + 1) b (by simp)).1
    have a0 := qa.c0
    have b0 := qb.c0
    have x0 := hI3.bx.c0
    have r0 := hI3.rs.c0
    have a1 := qa.c1
    have b1 := qb.c1
    have x1 := hI3.bx.c1
    have r1 := hI3.rs.c1
    have a2 := qa.c2
    have b2 := qb.c2
    have x2 := hI3.bx.c2
    have r2 := hI3.rs.c2
    have a3 := qa.c3
    have b3 := qb.c3
    have x3 := hI3.bx.c3
    have r3 := hI3.rs.c3
    have a4 := qa.c4
    have b4 := qb.c4
    have x4 := hI3.bx.c4
    have r4 := hI3.rs.c4
    have xf := hI3.bx.fz
    have rf := hI3.rs.fz
    rw [hae] at a4
    rw [hbe] at b4
    have hJ3 := hI3.setF (a.fst.or b.fst)
    have ka := (hJ3.ls w.heap.size a (by simp)).1
    have kb := (hJ3.ls (w.heap.size + 1) b (by simp)).1
    have ka0 := ka.c0
    have kb0 := kb.c0
    have ka1 := ka.c1
    have kb1 := kb.c1
    have ka2 := ka.c2
    have kb2 := kb.c2
    have ka3 := ka.c3
    have kb3 := kb.c3
    have ka4 := ka.c4
    have kb4 := kb.c4
    rw [hae] at ka4
    rw [hbe] at kb4
    go_wp2_with fail
    clear qa qb a0 a1 a2 a3 a4 b0 b1 b2 b3 b4 x0 x1 x2 x3 x4 r0 r1 r2 r3 r4 xf rf
    clear ka kb ka0 ka1 ka2 ka3 ka4 kb0 kb1 kb2 kb3 kb4
    refine (union_nat a.lst b.lst ha.lst hb.lst _).mono ?_
    rintro e w5 ⟨rfl, hB5⟩
    have hI5 := hJ3.below hB5
    have qa := (hI5.ls w.heap.size a (by simp)).1
    have qb := (hI5.ls (w.heap.size + 1) b (by simp)).1
    have a0 := qa.c0
    have b0 := qb.c0
    have x0 := hI5.bx.c0
    have r0 := hI5.rs.c0
    have a1 := qa.c1
    have b1 := qb.c1
    have x1 := hI5.bx.c1
    have r1 := hI5.rs.c1
    have a2 := qa.c2
    have b2 := qb.c2
    have x2 := hI5.bx.c2
    have r2 := hI5.rs.c2
    have a3 := qa.c3
    have b3 := qb.c3
    have x3 := hI5.bx.c3
    have r3 := hI5.rs.c3
    have a4 := qa.c4
    have b4 := qb.c4
    have x4 := hI5.bx.c4
    have r4 := hI5.rs.c4
    have xf := hI5.bx.fz
    have rf := hI5.rs.fz
    rw [hae] at a4
    rw [hbe] at b4
    have hJ5 := hI5.setL (a.lst.or b.lst)
    have kx0 := hJ5.bx.c0
    have kr0 := hJ5.rs.c0
    have kx1 := hJ5.bx.c1
    have kr1 := hJ5.rs.c1
    have kx2 := hJ5.bx.c2
    have kr2 := hJ5.rs.c2
    have kx3 := hJ5.bx.c3
    have kr3 := hJ5.rs.c3
    have kx4 := hJ5.bx.c4
    have kr4 := hJ5.rs.c4
    have krf := hJ5.rs.fz
    obtain ⟨q, hPe, hTe⟩ := hJ5.done
    have q0 := q.c0
    have q1 := q.c1
    have q2 := q.c2
    have q3 := q.c3
    have q4 := q.c4
    go_wp2_with fail
    exact bodyPost_ret (v := (⟨a.fst.or b.fst, a.lst.or b.lst, true⟩ : Pc).val) (by unfold putPc at q0 q1 q2 q3 q4; simp [results, Tryd.results56, go_sem, q0, q1, q2, q3, q4, Pc.val]) rfl ⟨by rw [HB.out], hPe, hTe⟩
end Go.Proofs.YtjhmlcilabnlbaaDoor
/- States: a row of parts. -/
namespace Go.Proofs.YtjhmlcilabnlbaaDoor
open Go.RowKit Go.Shelf

attribute [local go_sem] Oper.semAt_some

/-- What the making of a part comes to, wherever it is made. -/
def LayC (B n : Nat) (t : Tr) : Prop := ∀ (D : PlD) (d : Nd) (p : Nat) (vb vn : Value) (w : World), D.good n → D.nx.length + t.lv ≤ 64 → PlanIn B w p vb vn D → PT w (fun k => B ≤ k) d t → TabIn w →
  Calls Tryd.prog 26 #[.pointer (some ⟨p, 0, none⟩), .agg #[.int .i64 d.k, .int .u64 d.x0, .int .u64 d.x1, .int .u64 d.x2, .int .u64 d.x3, .slice d.pa d.pn d.pc, .bool d.no, .bool d.ag]] w fun e w' => ∃ vn', e = .returned (lay t D).2.val ∧ PlanIn B w' p vb vn' (lay t D).1 ∧ Turn (plS p vn) w w' ∧ Moved w vn vn'

/-- A block of the call's own that the plan does not use. -/
structure Free (V : World) (p : Nat) (vb vn : Value) (k : Nat) : Prop where
  lt : k < V.heap.size
  np : k ≠ p
  nb : vb.ownBlock ≠ some k
  nn : vn.ownBlock ≠ some k
/-- A plan in the making, a part in a box, a result's box: since V. -/
structure MkI (B : Nat) (V : World) (p : Nat) (vb vn vn' : Value) (D : PlD) (g : Nat) (x : Pc) (r : Nat) (W : World) : Prop where
  pl : PlanIn B W p vb vn' D
  tn : Turn (fun k => plS p vn k ∨ k = g) V W
  mv : Moved V vn vn'
  bx : PB W g x
  rs : PB W r pc0
  fg : Free V p vb vn g
  fr : Free V p vb vn r
  gr : g ≠ r
theorem MkI.ng {B p : Nat} {V W : World} {vb vn vn' : Value} {D : PlD} {g r : Nat} {x : Pc} (h : MkI B V p vb vn vn' D g x r W) {k : Nat} (hk : Free V p vb vn k) : vn'.ownBlock ≠ some k := by
  intro e
  rcases h.mv with e' | ⟨j, hj, e'⟩
  · exact hk.nn (e' ▸ e)
  · rw [e'] at e; have := Option.some.inj e; have := hk.lt; omega
theorem MkI.old {B p : Nat} {V W : World} {vb vn vn' : Value} {D : PlD} {g r : Nat} {x : Pc} (h : MkI B V p vb vn vn' D g x r W) {j : Nat} (hj : j < V.heap.size) (hs : plS p vn' j) : plS p vn j := by
  rcases hs with e | e
  · exact Or.inl e
  · rcases h.mv with e' | ⟨k, hk, e'⟩
    · exact Or.inr (e' ▸ e)
    · rw [e'] at e; have := Option.some.inj e; omega
theorem MkI.next {B p : Nat} {V W W' : World} {vb vn vn' vn'' : Value} {D D' : PlD} {g r : Nat} {x : Pc} (h : MkI B V p vb vn vn' D g x r W) (hp : PlanIn B W' p vb vn'' D') (ht : Turn (plS p vn') W W') (hm : Moved W vn' vn'') : MkI B V p vb vn vn'' D' g x r W' := by
  have hs := h.tn.size
  have kept : ∀ k, Free V p vb vn k → W'.heap[k]? = W.heap[k]? := fun k hk => ht.block k (by have := hk.lt; omega) (fun e => by
    rcases e with e | e
    · exact hk.np e
    · exact h.ng hk e)
  refine ⟨hp, h.tn.next ht (fun j hj e => Or.inl (h.old hj e)), ?_, (kept g h.fg).trans h.bx, (kept r h.fr).trans h.rs, h.fg, h.fr, h.gr⟩
  rcases hm with e | ⟨k, hk, e⟩
  · rcases h.mv with e' | ⟨j, hj, e'⟩
    · exact Or.inl (e.trans e')
    · exact Or.inr ⟨j, hj, e.trans e'⟩
  · exact Or.inr ⟨k, by omega, e⟩
theorem Moved.refl (w : World) (v : Value) : Moved w v v := Or.inl rfl
theorem MkI.below {B p : Nat} {V W W' : World} {vb vn vn' : Value} {D : PlD} {g r : Nat} {x : Pc} (h : MkI B V p vb vn vn' D g x r W) (k : Below W.heap.size W W') : MkI B V p vb vn vn' D g x r W' :=
  h.next (h.pl.below k (Nat.le_refl _)) (Turn.ofBelow k) (Moved.refl _ _)
theorem MkI.link {B p : Nat} {V W W' : World} {vb vn vn' : Value} {D D' : PlD} {g r : Nat} {x : Pc} (h : MkI B V p vb vn vn' D g x r W) (hp : PlanIn B W' p vb vn' D') (ht : Turn (fun k => vn'.ownBlock = some k) W W') : MkI B V p vb vn vn' D' g x r W' :=
  h.next hp (ht.mono (fun _ _ e => Or.inr e)) (Moved.refl _ _)
/-- Cells of the box stored. -/
theorem MkI.box {B p : Nat} {V W W' : World} {vb vn vn' : Value} {D : PlD} {g r : Nat} {x y : Pc} (h : MkI B V p vb vn vn' D g x r W) (ho : ∀ k, k ≠ g → W'.heap[k]? = W.heap[k]?) (ht : Turn (fun k => k = g) W W') (hy : PB W' g y) : MkI B V p vb vn vn' D g y r W' := by
  refine ⟨h.pl.keep (ho _ (fun e => h.fg.np e.symm)) (fun k hk => ho k (fun e => h.fg.nb (e ▸ hk))) (fun k hk => ho k (fun e => h.ng h.fg (e ▸ hk))), h.tn.next ht (fun j _ e => Or.inr e), h.mv, hy, (ho r (fun e => h.gr e.symm)).trans h.rs, h.fg, h.fr, h.gr⟩
theorem MkI.put {B p : Nat} {V W : World} {vb vn vn' : Value} {D : PlD} {g r : Nat} {x : Pc} (h : MkI B V p vb vn vn' D g x r W) (y : Pc) : MkI B V p vb vn vn' D g y r (putPc W g y) :=
  h.box (fun _ hk => putPc_other W g y hk) (by
    have t0 := Turn.refl (fun k => k = g) W
    exact (((((t0.setCell ⟨g, 0, none⟩ (fun _ => rfl) _).setCell ⟨g, 1, none⟩ (fun _ => rfl) _).setCell ⟨g, 2, none⟩ (fun _ => rfl) _).setCell ⟨g, 3, none⟩ (fun _ => rfl) _).setCell ⟨g, 4, none⟩ (fun _ => rfl) _)) (h.bx.put y)
theorem MkI.setF {B p : Nat} {V W : World} {vb vn vn' : Value} {D : PlD} {g r : Nat} {x : Pc} (h : MkI B V p vb vn vn' D g x r W) (z : S2) : MkI B V p vb vn vn' D g ⟨z, x.lst, x.em⟩ r ((W.setCell ⟨g, 0, none⟩ (.int .u64 (z.1 : Int))).setCell ⟨g, 1, none⟩ (.int .u64 (z.2 : Int))) :=
  h.box (fun _ hk => (Below.heap_setCell _ _ _ _ hk).trans (Below.heap_setCell _ _ _ _ hk)) (((Turn.refl (fun k => k = g) W).setCell ⟨g, 0, none⟩ (fun _ => rfl) _).setCell ⟨g, 1, none⟩ (fun _ => rfl) _) (h.bx.setF z)
theorem MkI.setL {B p : Nat} {V W : World} {vb vn vn' : Value} {D : PlD} {g r : Nat} {x : Pc} (h : MkI B V p vb vn vn' D g x r W) (z : S2) : MkI B V p vb vn vn' D g ⟨x.fst, z, x.em⟩ r ((W.setCell ⟨g, 2, none⟩ (.int .u64 (z.1 : Int))).setCell ⟨g, 3, none⟩ (.int .u64 (z.2 : Int))) :=
  h.box (fun _ hk => (Below.heap_setCell _ _ _ _ hk).trans (Below.heap_setCell _ _ _ _ hk)) (((Turn.refl (fun k => k = g) W).setCell ⟨g, 2, none⟩ (fun _ => rfl) _).setCell ⟨g, 3, none⟩ (fun _ => rfl) _) (h.bx.setL z)
theorem MkI.setE {B p : Nat} {V W : World} {vb vn vn' : Value} {D : PlD} {g r : Nat} {x : Pc} (h : MkI B V p vb vn vn' D g x r W) (z : Bool) : MkI B V p vb vn vn' D g ⟨x.fst, x.lst, z⟩ r (W.setCell ⟨g, 4, none⟩ (.bool z)) :=
  h.box (fun _ hk => Below.heap_setCell _ _ _ _ hk) ((Turn.refl (fun k => k = g) W).setCell ⟨g, 4, none⟩ (fun _ => rfl) _) (h.bx.setE z)
/-- The result handed back. -/
theorem MkI.done {B p : Nat} {w V W : World} {vb vn vn' : Value} {D : PlD} {g r : Nat} {x : Pc} (h : MkI B V p vb vn vn' D g x r W) (hV : Below w.heap.size w V) (hg : w.heap.size ≤ g) (hr : w.heap.size ≤ r) : PB (putPc W r x) r x ∧ PlanIn B (putPc W r x) p vb vn' D ∧ Turn (plS p vn) w (putPc W r x) ∧ Moved w vn vn' := by
  refine ⟨h.rs.put x, h.pl.putPc (fun e => h.fr.np e.symm) h.fr.nb (h.ng h.fr) x, putPc_turn ((Turn.ofBelow hV).next h.tn (fun j hj e => ?_)) hr x, ?_⟩
  · rcases e with e | e
    · exact e
    · omega
  · rcases h.mv with e | ⟨k, hk, e⟩
    · exact Or.inl e
    · exact Or.inr ⟨k, Nat.le_trans hV.size hk, e⟩
/-- What lies below B stands. -/
theorem MkI.stands {B p : Nat} {w V W : World} {vb vn vn' : Value} {D D0 : PlD} {g r : Nat} {x : Pc} (h : MkI B V p vb vn vn' D g x r W) (hP : PlanIn B w p vb vn D0) (hV : Below w.heap.size w V) (hg : w.heap.size ≤ g) : ∀ k, k < w.heap.size → k < B → W.heap[k]? = w.heap[k]? := by
  intro k hk hB
  refine (h.tn.block k (Nat.lt_of_lt_of_le hk hV.size) ?_).trans (hV.block k hk)
  rintro ((e | e) | e)
  · have := hP.pge; omega
  · have := (hP.on.lt e).2; omega
  · omega
theorem TabIn.blocks {w W : World} (h : TabIn w) (k : W.heap[0]? = w.heap[0]?) : TabIn W := fun j hj => (World.cell?_of_block (a := ⟨0, j, none⟩) k).trans (h j hj)

set_option maxRecDepth 100000 in
set_option maxHeartbeats 4000000 in
theorem row_any (B : Nat) (hB1 : 1 ≤ B) (n : Nat) (l : List (Nd × Tr)) (hL : ∀ x, x ∈ l → LayC B n x.2) (hl : l.length ≤ 1000) (D : PlD) (g c p : Nat) (vb vn : Value) (w : World) (hD : D.good n) (hv : D.nx.length + lvs (l.map (·.2)) ≤ 64) (hP : PlanIn B w p vb vn D) (hg : Parts w (fun k => B ≤ k) g (noT l)) (hT : ∀ x, x ∈ l → PT w (fun k => B ≤ k) x.1 x.2) (hTab : TabIn w) :
    Calls Tryd.prog 40 #[.pointer (some ⟨p, 0, none⟩), .slice (some ⟨g, 0, none⟩) l.length c] w fun e w' => ∃ vn', e = .returned (layRow (l.map (·.2)) D pc1).2.val ∧ PlanIn B w' p vb vn' (layRow (l.map (·.2)) D pc1).1 ∧ Turn (plS p vn) w w' ∧ Moved w vn vn' := by
  have hplt := hP.lt
  have hpB := hP.pge
  have hV : Below w.heap.size w ((w.alloc (.cells #[.int .u64 0, .int .u64 0, .int .u64 0, .int .u64 0, .bool false] 83)).alloc (.cells #[.int .u64 0, .int .u64 0, .int .u64 0, .int .u64 0, .bool true] 83)) := ((Below.refl _ w).alloc (Nat.le_refl _) _).alloc (by simp) _
  have v0 : PB ((w.alloc (.cells #[.int .u64 0, .int .u64 0, .int .u64 0, .int .u64 0, .bool false] 83)).alloc (.cells #[.int .u64 0, .int .u64 0, .int .u64 0, .int .u64 0, .bool true] 83)) w.heap.size pc0 := heap_alloc_old (heap_alloc_at _ _) (by simp)
  have v1 : PB ((w.alloc (.cells #[.int .u64 0, .int .u64 0, .int .u64 0, .int .u64 0, .bool false] 83)).alloc (.cells #[.int .u64 0, .int .u64 0, .int .u64 0, .int .u64 0, .bool true] 83)) (w.heap.size + 1) pc1 := by
    have h := heap_alloc_at (w.alloc (.cells #[.int .u64 0, .int .u64 0, .int .u64 0, .int .u64 0, .bool false] 83)) (.cells #[.int .u64 0, .int .u64 0, .int .u64 0, .int .u64 0, .bool true] 83)
    rw [World.size_alloc] at h
    exact h
  have hVs : ((w.alloc (.cells #[.int .u64 0, .int .u64 0, .int .u64 0, .int .u64 0, .bool false] 83)).alloc (.cells #[.int .u64 0, .int .u64 0, .int .u64 0, .int .u64 0, .bool true] 83)).heap.size = w.heap.size + 1 + 1 := by simp
  have hok := layRow_ok n (l.map (·.2)) D pc1 hD (pc1_good _) hv
  go_enter Tryd.func40, Tryd.ntmps40
  go_wp2_with fail
  generalize ((w.alloc (.cells #[.int .u64 0, .int .u64 0, .int .u64 0, .int .u64 0, .bool false] 83)).alloc (.cells #[.int .u64 0, .int .u64 0, .int .u64 0, .int .u64 0, .bool true] 83)) = V at *
  have free : ∀ k, w.heap.size ≤ k → k < V.heap.size → Free V p vb vn k := fun k h1 h2 => ⟨h2, by omega, fun e => by have := (hP.ob.lt e).1; omega, fun e => by have := (hP.on.lt e).1; omega⟩
  have hI0 : MkI B V p vb vn vn D (w.heap.size + 1) pc1 w.heap.size V := ⟨hP.below hV (Nat.le_refl _), Turn.refl _ _, Moved.refl _ _, v1, v0, free _ (by omega) (by omega), free _ (by omega) (by omega), by omega⟩
  have HG := hid hg
  have HT := hid hT
  have HL := hid hL
  clear hg hT hL
  go_loopg [11, 7] l.length (fun gk ix pt wr => ∃ m : Nat, m + gk = l.length ∧ ix = .int .i64 (m : Int) ∧ ∃ vn' Dm am, MkI B V p vb vn vn' Dm (w.heap.size + 1) am w.heap.size wr ∧ Dm.good n ∧ am.good Dm.nx.length ∧ Dm.nx.length + lvs ((l.drop m).map (·.2)) ≤ 64 ∧ layRow ((l.drop m).map (·.2)) Dm am = layRow (l.map (·.2)) D pc1)
  case atStart => exact ⟨0, by omega, rfl, vn, D, pc1, hI0, hD, pc1_good _, hv, rfl⟩
  case round =>
    obtain ⟨m, hm, rfl, vn', Dm, am, hI, hDm, ham, hlv, hlr⟩ := hrel
    have HLR := hid hlr
    clear hlr
    by_cases hlt : m < l.length
    · obtain ⟨x, hx⟩ : ∃ x, l[m]? = some x := ⟨l[m], List.getElem?_eq_getElem hlt⟩
      have hlt' : (m : Int) < (l.length : Int) := by omega
      have hst := hI.stands hP hV (by omega)
      have hon : OnlyS (fun k => B ≤ k) w wr := fun k hk hb => hst k hk (by omega)
      have hPx := HG.out.only hon
      have hx' : (noT l)[m]? = some (x.1, ⟨0, false, .row []⟩) := by simp [noT, hx]
      have e0 : wr.cell? ⟨g, m * 8, none⟩ = some (.int .i64 x.1.k) := hPx.cell hx' (j := 0) (by omega)
      have e1 : wr.cell? ⟨g, m * 8 + 1, none⟩ = some (.int .u64 x.1.x0) := hPx.cell hx' (j := 1) (by omega)
      have e2 : wr.cell? ⟨g, m * 8 + 2, none⟩ = some (.int .u64 x.1.x1) := hPx.cell hx' (j := 2) (by omega)
      have e3 : wr.cell? ⟨g, m * 8 + 3, none⟩ = some (.int .u64 x.1.x2) := hPx.cell hx' (j := 3) (by omega)
      have e4 : wr.cell? ⟨g, m * 8 + 4, none⟩ = some (.int .u64 x.1.x3) := hPx.cell hx' (j := 4) (by omega)
      have e5 : wr.cell? ⟨g, m * 8 + 5, none⟩ = some (.slice x.1.pa x.1.pn x.1.pc) := hPx.cell hx' (j := 5) (by omega)
      have e6 : wr.cell? ⟨g, m * 8 + 6, none⟩ = some (.bool x.1.no) := hPx.cell hx' (j := 6) (by omega)
      have e7 : wr.cell? ⟨g, m * 8 + 7, none⟩ = some (.bool x.1.ag) := hPx.cell hx' (j := 7) (by omega)
      have HX := hid hx
      have HPT := hid (HT.out x (List.mem_of_getElem? hx))
      have HC := hid (HL.out x (List.mem_of_getElem? hx))
      clear hx hx' hPx
      go_wp2_with fail
      clear e0 e1 e2 e3 e4 e5 e6 e7
      have hBx : Below wr.heap.size wr (wr.alloc (.cells #[.int .i64 x.1.k, .int .u64 x.1.x0, .int .u64 x.1.x1, .int .u64 x.1.x2, .int .u64 x.1.x3, .slice x.1.pa x.1.pn x.1.pc, .bool x.1.no, .bool x.1.ag] 49)) := (Below.refl _ _).alloc (Nat.le_refl _) _
      have hDX : DB (wr.alloc (.cells #[.int .i64 x.1.k, .int .u64 x.1.x0, .int .u64 x.1.x1, .int .u64 x.1.x2, .int .u64 x.1.x3, .slice x.1.pa x.1.pn x.1.pc, .bool x.1.no, .bool x.1.ag] 49)) wr.heap.size x.1 := heap_alloc_at _ _
      generalize (wr.alloc (.cells #[.int .i64 x.1.k, .int .u64 x.1.x0, .int .u64 x.1.x1, .int .u64 x.1.x2, .int .u64 x.1.x3, .slice x.1.pa x.1.pn x.1.pc, .bool x.1.no, .bool x.1.ag] 49)) = X at *
      have hIX := hI.below hBx
      have stX : ∀ W, MkI B V p vb vn vn' Dm (w.heap.size + 1) am w.heap.size W → PT W (fun k => B ≤ k) x.1 x.2 ∧ TabIn W := fun W h => by
        have st := h.stands hP hV (by omega)
        exact ⟨HPT.out.only (fun k hk hb => st k hk (by omega)), hTab.blocks (st 0 (by omega) (by omega))⟩
      have tabX : ∀ W vn2 D', MkI B V p vb vn vn2 D' (w.heap.size + 1) am w.heap.size W → TabIn W := fun W vn2 D' h => hTab.blocks (h.stands hP hV (by omega) 0 (by omega) (by omega))
      have hdrop : (l.drop m).map (·.2) = x.2 :: (l.drop (m + 1)).map (·.2) := by
        have e : l.drop m = x :: l.drop (m + 1) := by
          have hh := HX.out
          rw [List.getElem?_eq_some_iff] at hh
          obtain ⟨h1, h2⟩ := hh
          rw [List.drop_eq_getElem_cons h1, h2]
        rw [e]; rfl
      have hl1 : lvs ((l.drop m).map (·.2)) = x.2.lv + lvs ((l.drop (m + 1)).map (·.2)) := by rw [hdrop]; conv => lhs; unfold lvs
      have HL1 : Hid (layRow ((l.drop m).map (·.2)) Dm am = layRow ((l.drop (m + 1)).map (·.2)) (rowStep am (lay x.2 Dm)).1 (rowStep am (lay x.2 Dm)).2) := by unfold Hid; rw [hdrop]; conv => lhs; unfold layRow
      have hlay := lay_ok n x.2 Dm hDm (by omega)
      have hrs := hlay.rowStep ham
      have ham2 := ham.mono hlay.l.ge
      have b0 := hIX.bx.c0
      have b1 := hIX.bx.c1
      have b2 := hIX.bx.c2
      have b3 := hIX.bx.c3
      have b4 := hIX.bx.c4
      have d0 := hDX.c0
      have d1 := hDX.c1
      have d2 := hDX.c2
      have d3 := hDX.c3
      have d4 := hDX.c4
      have d5 := hDX.c5
      have d6 := hDX.c6
      have d7 := hDX.c7
      have hXd : Below X.heap.size X X.drew := (Below.refl _ _).drew
      have hId := hIX.below hXd
      have HSX := hid stX
      have HTX := hid tabX
      clear stX tabX
      generalize hr : lay x.2 Dm = res at *
      obtain ⟨D2, pc⟩ := res
      have key : ∀ W vn2, PlanIn B W p vb vn2 D2 → Turn (plS p vn') X.drew W → Moved X.drew vn' vn2 → MkI B V p vb vn vn2 D2 (w.heap.size + 1) am w.heap.size W := fun W vn2 h1 h2 h3 => hId.next h1 h2 h3
      go_region_with (first
        | (go_at_call 26; refine (HC.out Dm x.1 p vb vn' _ hDm (by omega) hId.pl (HSX.out _ hId).1 (HSX.out _ hId).2).mono ?_; rw [hr]; rintro e w2 ⟨vn2, rfl, hP2, hT2, hM2⟩; have hI2 := key _ _ hP2 hT2 hM2; have f0 := hI2.bx.c0; have f1 := hI2.bx.c1; have f2 := hI2.bx.c2; have f3 := hI2.bx.c3; have f4 := hI2.bx.c4; unfold Pc.val)
        | (go_at_call 56; refine (behind_any B hB1 D2 p vb vn2 am pc ham2.ok hlay.p.ok hlay.g.fine.nx _ hI2.pl (HTX.out _ _ _ hI2)).mono ?_; rintro e w3 ⟨rfl, hP3, hT3⟩; have hI3 := hI2.link hP3 hT3; clear f0 f1 f2 f3 f4; have f0 := hI3.bx.c0; have f1 := hI3.bx.c1; have f2 := hI3.bx.c2; have f3 := hI3.bx.c3; have f4 := hI3.bx.c4; have ff := hI3.bx.fz; unfold Pc.val))
      all_goals
        have hI4 := hI3.put (am.beh pc)
        go_wp2_with fail
        go_roundg (gk - 1)
        case measure => omega
        case rel =>
          refine ⟨m + 1, by omega, by go_num, vn2, _, _, hI4, hrs.g, hrs.p, ?_, ?_⟩
          · have hle := hrs.l.le
            have hE : (rowStep am (D2, pc)).1.nx.length = (D2.lnk am.lst pc.fst).nx.length := rfl
            omega
          · rw [← HLR.out, HL1.out]; rfl
    · have hme : m = l.length := by omega
      subst hme
      rw [List.drop_length] at HLR
      have hE : layRow (l.map (·.2)) D pc1 = (Dm, am) := by rw [← HLR.out]; show layRow [] Dm am = _; unfold layRow; rfl
      obtain ⟨q, hPe, hTe, hMe⟩ := hI.done hV (by omega) (Nat.le_refl _)
      have b0 := hI.bx.c0
      have b1 := hI.bx.c1
      have b2 := hI.bx.c2
      have b3 := hI.bx.c3
      have b4 := hI.bx.c4
      have r0 := hI.rs.c0
      have r1 := hI.rs.c1
      have r2 := hI.rs.c2
      have r3 := hI.rs.c3
      have r4 := hI.rs.c4
      have rf := hI.rs.fz
      have q0 := q.c0
      have q1 := q.c1
      have q2 := q.c2
      have q3 := q.c3
      have q4 := q.c4
      have HE := hid hE
      clear hE
      go_wp2_with fail
      exact bodyPost_ret (v := am.val) (by unfold putPc at q0 q1 q2 q3 q4; simp [results, Tryd.results40, go_sem, q0, q1, q2, q3, q4, Pc.val]) rfl ⟨by rw [HE.out], vn', by rw [HE.out]; exact hPe, hTe, hMe⟩
end Go.Proofs.YtjhmlcilabnlbaaDoor
/- States: a choice of parts. -/
namespace Go.Proofs.YtjhmlcilabnlbaaDoor
open Go.RowKit Go.Shelf

attribute [local go_sem] Oper.semAt_some

set_option maxRecDepth 100000 in
set_option maxHeartbeats 4000000 in
theorem either_any (B : Nat) (hB1 : 1 ≤ B) (n : Nat) (l : List (Nd × Tr)) (hL : ∀ x, x ∈ l → LayC B n x.2) (hl : l.length ≤ 1000) (D : PlD) (g c p : Nat) (vb vn : Value) (w : World) (hD : D.good n) (hv : D.nx.length + lvs (l.map (·.2)) ≤ 64) (hP : PlanIn B w p vb vn D) (hg : Parts w (fun k => B ≤ k) g (noT l)) (hT : ∀ x, x ∈ l → PT w (fun k => B ≤ k) x.1 x.2) (hTab : TabIn w) :
    Calls Tryd.prog 41 #[.pointer (some ⟨p, 0, none⟩), .slice (some ⟨g, 0, none⟩) l.length c] w fun e w' => ∃ vn', e = .returned (layAlt (l.map (·.2)) D pc0).2.val ∧ PlanIn B w' p vb vn' (layAlt (l.map (·.2)) D pc0).1 ∧ Turn (plS p vn) w w' ∧ Moved w vn vn' := by
  have hplt := hP.lt
  have hpB := hP.pge
  have hV : Below w.heap.size w ((w.alloc (.cells #[.int .u64 0, .int .u64 0, .int .u64 0, .int .u64 0, .bool false] 83)).alloc (.cells #[.int .u64 0, .int .u64 0, .int .u64 0, .int .u64 0, .bool false] 83)) := ((Below.refl _ w).alloc (Nat.le_refl _) _).alloc (by simp) _
  have v0 : PB ((w.alloc (.cells #[.int .u64 0, .int .u64 0, .int .u64 0, .int .u64 0, .bool false] 83)).alloc (.cells #[.int .u64 0, .int .u64 0, .int .u64 0, .int .u64 0, .bool false] 83)) w.heap.size pc0 := heap_alloc_old (heap_alloc_at _ _) (by simp)
  have v1 : PB ((w.alloc (.cells #[.int .u64 0, .int .u64 0, .int .u64 0, .int .u64 0, .bool false] 83)).alloc (.cells #[.int .u64 0, .int .u64 0, .int .u64 0, .int .u64 0, .bool false] 83)) (w.heap.size + 1) pc0 := by
    have h := heap_alloc_at (w.alloc (.cells #[.int .u64 0, .int .u64 0, .int .u64 0, .int .u64 0, .bool false] 83)) (.cells #[.int .u64 0, .int .u64 0, .int .u64 0, .int .u64 0, .bool false] 83)
    rw [World.size_alloc] at h
    exact h
  have hVs : ((w.alloc (.cells #[.int .u64 0, .int .u64 0, .int .u64 0, .int .u64 0, .bool false] 83)).alloc (.cells #[.int .u64 0, .int .u64 0, .int .u64 0, .int .u64 0, .bool false] 83)).heap.size = w.heap.size + 1 + 1 := by simp
  have hok := layAlt_ok n (l.map (·.2)) D pc0 hD (pc0_good _) hv
  go_enter Tryd.func41, Tryd.ntmps41
  go_wp2_with fail
  generalize ((w.alloc (.cells #[.int .u64 0, .int .u64 0, .int .u64 0, .int .u64 0, .bool false] 83)).alloc (.cells #[.int .u64 0, .int .u64 0, .int .u64 0, .int .u64 0, .bool false] 83)) = V at *
  have free : ∀ k, w.heap.size ≤ k → k < V.heap.size → Free V p vb vn k := fun k h1 h2 => ⟨h2, by omega, fun e => by have := (hP.ob.lt e).1; omega, fun e => by have := (hP.on.lt e).1; omega⟩
  have hI0 : MkI B V p vb vn vn D (w.heap.size + 1) pc0 w.heap.size V := ⟨hP.below hV (Nat.le_refl _), Turn.refl _ _, Moved.refl _ _, v1, v0, free _ (by omega) (by omega), free _ (by omega) (by omega), by omega⟩
  have HG := hid hg
  have HT := hid hT
  have HL := hid hL
  clear hg hT hL
  go_loopg [11, 7] l.length (fun gk ix pt wr => ∃ m : Nat, m + gk = l.length ∧ ix = .int .i64 (m : Int) ∧ ∃ vn' Dm am, MkI B V p vb vn vn' Dm (w.heap.size + 1) am w.heap.size wr ∧ Dm.good n ∧ am.good Dm.nx.length ∧ Dm.nx.length + lvs ((l.drop m).map (·.2)) ≤ 64 ∧ layAlt ((l.drop m).map (·.2)) Dm am = layAlt (l.map (·.2)) D pc0)
  case atStart => exact ⟨0, by omega, rfl, vn, D, pc0, hI0, hD, pc0_good _, hv, rfl⟩
  case round =>
    obtain ⟨m, hm, rfl, vn', Dm, am, hI, hDm, ham, hlv, hlr⟩ := hrel
    have HLR := hid hlr
    clear hlr
    by_cases hlt : m < l.length
    · obtain ⟨x, hx⟩ : ∃ x, l[m]? = some x := ⟨l[m], List.getElem?_eq_getElem hlt⟩
      have hlt' : (m : Int) < (l.length : Int) := by omega
      have hst := hI.stands hP hV (by omega)
      have hon : OnlyS (fun k => B ≤ k) w wr := fun k hk hb => hst k hk (by omega)
      have hPx := HG.out.only hon
      have hx' : (noT l)[m]? = some (x.1, ⟨0, false, .row []⟩) := by simp [noT, hx]
      have e0 : wr.cell? ⟨g, m * 8, none⟩ = some (.int .i64 x.1.k) := hPx.cell hx' (j := 0) (by omega)
      have e1 : wr.cell? ⟨g, m * 8 + 1, none⟩ = some (.int .u64 x.1.x0) := hPx.cell hx' (j := 1) (by omega)
      have e2 : wr.cell? ⟨g, m * 8 + 2, none⟩ = some (.int .u64 x.1.x1) := hPx.cell hx' (j := 2) (by omega)
      have e3 : wr.cell? ⟨g, m * 8 + 3, none⟩ = some (.int .u64 x.1.x2) := hPx.cell hx' (j := 3) (by omega)
      have e4 : wr.cell? ⟨g, m * 8 + 4, none⟩ = some (.int .u64 x.1.x3) := hPx.cell hx' (j := 4) (by omega)
      have e5 : wr.cell? ⟨g, m * 8 + 5, none⟩ = some (.slice x.1.pa x.1.pn x.1.pc) := hPx.cell hx' (j := 5) (by omega)
      have e6 : wr.cell? ⟨g, m * 8 + 6, none⟩ = some (.bool x.1.no) := hPx.cell hx' (j := 6) (by omega)
      have e7 : wr.cell? ⟨g, m * 8 + 7, none⟩ = some (.bool x.1.ag) := hPx.cell hx' (j := 7) (by omega)
      have HX := hid hx
      have HPT := hid (HT.out x (List.mem_of_getElem? hx))
      have HC := hid (HL.out x (List.mem_of_getElem? hx))
      clear hx hx' hPx
      go_wp2_with fail
      clear e0 e1 e2 e3 e4 e5 e6 e7
      have hBx : Below wr.heap.size wr (wr.alloc (.cells #[.int .i64 x.1.k, .int .u64 x.1.x0, .int .u64 x.1.x1, .int .u64 x.1.x2, .int .u64 x.1.x3, .slice x.1.pa x.1.pn x.1.pc, .bool x.1.no, .bool x.1.ag] 49)) := (Below.refl _ _).alloc (Nat.le_refl _) _
      have hDX : DB (wr.alloc (.cells #[.int .i64 x.1.k, .int .u64 x.1.x0, .int .u64 x.1.x1, .int .u64 x.1.x2, .int .u64 x.1.x3, .slice x.1.pa x.1.pn x.1.pc, .bool x.1.no, .bool x.1.ag] 49)) wr.heap.size x.1 := heap_alloc_at _ _
      generalize (wr.alloc (.cells #[.int .i64 x.1.k, .int .u64 x.1.x0, .int .u64 x.1.x1, .int .u64 x.1.x2, .int .u64 x.1.x3, .slice x.1.pa x.1.pn x.1.pc, .bool x.1.no, .bool x.1.ag] 49)) = X at *
      have hIX := hI.below hBx
      have stX : ∀ W, MkI B V p vb vn vn' Dm (w.heap.size + 1) am w.heap.size W → PT W (fun k => B ≤ k) x.1 x.2 ∧ TabIn W := fun W h => by
        have st := h.stands hP hV (by omega)
        exact ⟨HPT.out.only (fun k hk hb => st k hk (by omega)), hTab.blocks (st 0 (by omega) (by omega))⟩
      have tabX : ∀ W vn2 D', MkI B V p vb vn vn2 D' (w.heap.size + 1) am w.heap.size W → TabIn W := fun W vn2 D' h => hTab.blocks (h.stands hP hV (by omega) 0 (by omega) (by omega))
      have hdrop : (l.drop m).map (·.2) = x.2 :: (l.drop (m + 1)).map (·.2) := by
        have e : l.drop m = x :: l.drop (m + 1) := by
          have hh := HX.out
          rw [List.getElem?_eq_some_iff] at hh
          obtain ⟨h1, h2⟩ := hh
          rw [List.drop_eq_getElem_cons h1, h2]
        rw [e]; rfl
      have hl1 : lvs ((l.drop m).map (·.2)) = x.2.lv + lvs ((l.drop (m + 1)).map (·.2)) := by rw [hdrop]; conv => lhs; unfold lvs
      have HL1 : Hid (layAlt ((l.drop m).map (·.2)) Dm am = layAlt ((l.drop (m + 1)).map (·.2)) (lay x.2 Dm).1 (am.alt (lay x.2 Dm).2)) := by unfold Hid; rw [hdrop]; conv => lhs; unfold layAlt
      have hlay := lay_ok n x.2 Dm hDm (by omega)
      have ham2 := ham.mono hlay.l.ge
      have HSX := hid stX
      clear stX tabX hBx hdrop
      generalize hr : lay x.2 Dm = res at *
      obtain ⟨D2, pc⟩ := res
      refine (HC.out Dm x.1 p vb vn' X hDm (by omega) hIX.pl (HSX.out _ hIX).1 (HSX.out _ hIX).2).mono ?_
      rw [hr]
      rintro e w2 ⟨vn2, rfl, hP2, hT2, hM2⟩
      have hI2 := hIX.next hP2 hT2 hM2
      clear hP2 hT2 hM2 hIX hDX hI
      unfold Pc.val
      have hBo : Below w2.heap.size w2 (w2.alloc (.cells #[.int .u64 (pc.fst.1 : Int), .int .u64 (pc.fst.2 : Int), .int .u64 (pc.lst.1 : Int), .int .u64 (pc.lst.2 : Int), .bool pc.em] 83)) := (Below.refl _ _).alloc (Nat.le_refl _) _
      have hIo := hI2.below hBo
      have ob : PB (w2.alloc (.cells #[.int .u64 (pc.fst.1 : Int), .int .u64 (pc.fst.2 : Int), .int .u64 (pc.lst.1 : Int), .int .u64 (pc.lst.2 : Int), .bool pc.em] 83)) w2.heap.size pc := heap_alloc_at _ _
      have hne : w2.heap.size ≠ w.heap.size + 1 := by have := hI2.bx.lt; omega
      have b0 := hIo.bx.c0
      have b1 := hIo.bx.c1
      have o0 := ob.c0
      have o1 := ob.c1
      go_wp2_with fail
      clear b0 b1 o0 o1
      generalize (w2.alloc (.cells #[.int .u64 (pc.fst.1 : Int), .int .u64 (pc.fst.2 : Int), .int .u64 (pc.lst.1 : Int), .int .u64 (pc.lst.2 : Int), .bool pc.em] 83)) = Y at *
      generalize w2.heap.size = O at *
      refine (union_nat am.fst pc.fst ham.ok.fst hlay.p.ok.fst Y).mono ?_
      rintro e w3 ⟨rfl, hB3⟩
      have hI3 := hIo.below hB3
      have ob3 := ob.below hB3
      have hJ3 := hI3.setF (am.fst.or pc.fst)
      have oj3 : PB ((w3.setCell ⟨w.heap.size + 1, 0, none⟩ (.int .u64 ((am.fst.or pc.fst).1 : Int))).setCell ⟨w.heap.size + 1, 1, none⟩ (.int .u64 ((am.fst.or pc.fst).2 : Int))) O pc := ob3.other hne _ _ _ _
      have b0 := hI3.bx.c0
      have b1 := hI3.bx.c1
      have bf := hI3.bx.fz
      have c2 := hJ3.bx.c2
      have c3 := hJ3.bx.c3
      have o2 := oj3.c2
      have o3 := oj3.c3
      go_wp2_with fail
      clear b0 b1 bf c2 c3 o2 o3
      refine (union_nat am.lst pc.lst ham.ok.lst hlay.p.ok.lst _).mono ?_
      rintro e w4 ⟨rfl, hB4⟩
      have hI4 := hJ3.below hB4
      have ob4 := oj3.below hB4
      have hJ4 := hI4.setL (am.lst.or pc.lst)
      have oj4 : PB ((w4.setCell ⟨w.heap.size + 1, 2, none⟩ (.int .u64 ((am.lst.or pc.lst).1 : Int))).setCell ⟨w.heap.size + 1, 3, none⟩ (.int .u64 ((am.lst.or pc.lst).2 : Int))) O pc := ob4.other hne _ _ _ _
      clear hJ3 oj3 hB4 hI3 ob3 hIo ob hI2
      have b2 := hI4.bx.c2
      have b3 := hI4.bx.c3
      have bf := hI4.bx.fz
      have b4 := hI4.bx.c4
      have c4 := hJ4.bx.c4
      have cf := hJ4.bx.fz
      have o4 := oj4.c4
      have hK := hJ4.setE (am.em || pc.em)
      have HK : Hid (∀ gk', gk' = gk - 1 → ∃ m' : Nat, m' + gk' = l.length ∧ (Value.int .i64 ((m : Int) + 1)) = .int .i64 (m' : Int) ∧ ∃ vn' Dm am', MkI B V p vb vn vn' Dm (w.heap.size + 1) am' w.heap.size (((w4.setCell ⟨w.heap.size + 1, 2, none⟩ (.int .u64 ((am.lst.or pc.lst).1 : Int))).setCell ⟨w.heap.size + 1, 3, none⟩ (.int .u64 ((am.lst.or pc.lst).2 : Int))).setCell ⟨w.heap.size + 1, 4, none⟩ (.bool (am.em || pc.em))) ∧ Dm.good n ∧ am'.good Dm.nx.length ∧ Dm.nx.length + lvs ((l.drop m').map (·.2)) ≤ 64 ∧ layAlt ((l.drop m').map (·.2)) Dm am' = layAlt (l.map (·.2)) D pc0) := by
        intro gk' hgk
        have hle := hlay.l.le
        refine ⟨m + 1, by omega, by simp, vn2, D2, am.alt pc, hK, hlay.g, ham2.alt hlay.p, ?_, ?_⟩
        · show D2.nx.length + _ ≤ 64
          have hle' : D2.nx.length ≤ Dm.nx.length + x.2.lv := hle
          omega
        · rw [← HLR.out, HL1.out]
      clear hK HLR HL1
      cases hae : am.em with
      | true =>
        rw [hae] at b4 c4 HK
        go_wp2_with fail
        go_roundg (gk - 1)
        case measure => omega
        case rel =>
          have h := HK.out (gk - 1) rfl
          rw [Bool.true_or] at h
          go_num
      | false =>
        rw [hae] at b4 c4 HK
        go_wp2_with fail
        go_roundg (gk - 1)
        case measure => omega
        case rel =>
          have h := HK.out (gk - 1) rfl
          rw [Bool.false_or] at h
          go_num
    · have hme : m = l.length := by omega
      subst hme
      rw [List.drop_length] at HLR
      have hE : layAlt (l.map (·.2)) D pc0 = (Dm, am) := by rw [← HLR.out]; show layAlt [] Dm am = _; unfold layAlt; rfl
      obtain ⟨q, hPe, hTe, hMe⟩ := hI.done hV (by omega) (Nat.le_refl _)
      have b0 := hI.bx.c0
      have b1 := hI.bx.c1
      have b2 := hI.bx.c2
      have b3 := hI.bx.c3
      have b4 := hI.bx.c4
      have r0 := hI.rs.c0
      have r1 := hI.rs.c1
      have r2 := hI.rs.c2
      have r3 := hI.rs.c3
      have r4 := hI.rs.c4
      have rf := hI.rs.fz
      have q0 := q.c0
      have q1 := q.c1
      have q2 := q.c2
      have q3 := q.c3
      have q4 := q.c4
      have HE := hid hE
      clear hE
      go_wp2_with fail
      exact bodyPost_ret (v := am.val) (by unfold putPc at q0 q1 q2 q3 q4; simp [results, Tryd.results41, go_sem, q0, q1, q2, q3, q4, Pc.val]) rfl ⟨by rw [HE.out], vn', by rw [HE.out]; exact hPe, hTe, hMe⟩
end Go.Proofs.YtjhmlcilabnlbaaDoor
/- States: a part repeated; parts of every kind, by one induction over the tree. -/
namespace Go.Proofs.YtjhmlcilabnlbaaDoor
open Go.RowKit Go.Shelf

attribute [local go_sem] Oper.semAt_some

theorem Moved.trans {w V : World} {a b c : Value} (h : Moved w a b) (k : Moved V b c) (hs : w.heap.size ≤ V.heap.size) : Moved w a c := by
  rcases k with e | ⟨j, hj, e⟩
  · rcases h with e' | ⟨j, hj, e'⟩
    · exact Or.inl (e.trans e')
    · exact Or.inr ⟨j, hj, e.trans e'⟩
  · exact Or.inr ⟨j, by omega, e⟩
theorem Moved.old {w : World} {vn vn' : Value} {p j : Nat} (h : Moved w vn vn') (hj : j < w.heap.size) (hs : plS p vn' j) : plS p vn j := by
  rcases hs with e | e
  · exact Or.inl e
  · rcases h with e' | ⟨k, hk, e'⟩
    · exact Or.inr (e' ▸ e)
    · rw [e'] at e; have := Option.some.inj e; omega
theorem Moved.ne {w : World} {vn vn' : Value} {k : Nat} (h : Moved w vn vn') (hk : k < w.heap.size) (hn : vn.ownBlock ≠ some k) : vn'.ownBlock ≠ some k := by
  intro e
  rcases h with e' | ⟨j, hj, e'⟩
  · exact hn (e' ▸ e)
  · rw [e'] at e; have := Option.some.inj e; omega
theorem Moved.later {w V : World} {vn vn' : Value} (h : Moved V vn vn') (hs : w.heap.size ≤ V.heap.size) : Moved w vn vn' := by
  rcases h with e | ⟨j, hj, e⟩
  · exact Or.inl e
  · exact Or.inr ⟨j, by omega, e⟩

/-- A callee's part handed on, through the result's box. -/
theorem hand_back {B p r : Nat} {w V w2 : World} {vb vn vn2 : Value} {D0 D2 : PlD} (pc : Pc) (hP : PlanIn B w p vb vn D0) (hV : Below w.heap.size w V) (hr : w.heap.size ≤ r) (h0 : PB V r pc0) (hP2 : PlanIn B w2 p vb vn2 D2) (hT2 : Turn (plS p vn) V w2) (hM2 : Moved V vn vn2) :
    PB w2 r pc0 ∧ PB (putPc w2 r pc) r pc ∧ PlanIn B (putPc w2 r pc) p vb vn2 D2 ∧ Turn (plS p vn) w (putPc w2 r pc) ∧ Moved w vn vn2 := by
  have hplt := hP.lt
  have hrV := h0.lt
  have hnn : vn.ownBlock ≠ some r := fun e => by have := (hP.on.lt e).1; omega
  have h2 : PB w2 r pc0 := (hT2.block r hrV (fun e => by
    rcases e with e | e
    · omega
    · exact hnn e)).trans h0
  refine ⟨h2, h2.put pc, hP2.putPc (by omega) (fun e => by have := (hP.ob.lt e).1; omega) (hM2.ne hrV hnn) pc, putPc_turn ((Turn.ofBelow hV).trans hT2) hr pc, hM2.later hV.size⟩
theorem MkI.done2 {B p : Nat} {w V W : World} {vb vn vn1 vn' : Value} {D : PlD} {g r : Nat} {x : Pc} (h : MkI B V p vb vn1 vn' D g x r W) (h0 : Turn (plS p vn) w V) (hm : Moved w vn vn1) (hg : w.heap.size ≤ g) (hr : w.heap.size ≤ r) : PB (putPc W r x) r x ∧ PlanIn B (putPc W r x) p vb vn' D ∧ Turn (plS p vn) w (putPc W r x) ∧ Moved w vn vn' := by
  refine ⟨h.rs.put x, h.pl.putPc (fun e => h.fr.np e.symm) h.fr.nb (h.ng h.fr) x, putPc_turn (h0.next h.tn (fun j hj e => ?_)) hr x, hm.trans h.mv h0.size⟩
  rcases e with e | e
  · exact hm.old hj e
  · omega

set_option maxRecDepth 100000 in
set_option maxHeartbeats 4000000 in
theorem repeat_any (B : Nat) (hB1 : 1 ≤ B) (n : Nat) (d : Nd) (t : Tr) (hL : LayC B n t) (no ag : Bool) (D : PlD) (g c p : Nat) (vb vn : Value) (w : World) (hD : D.good n) (hv : D.nx.length + t.lv ≤ 64) (hP : PlanIn B w p vb vn D) (hg : Parts w (fun k => B ≤ k) g (noT [(d, t)])) (hT : PT w (fun k => B ≤ k) d t) (hTab : TabIn w) :
    Calls Tryd.prog 42 #[.pointer (some ⟨p, 0, none⟩), .agg #[.int .i64 3, .int .u64 0, .int .u64 0, .int .u64 0, .int .u64 0, .slice (some ⟨g, 0, none⟩) 1 c, .bool no, .bool ag]] w fun e w' => ∃ vn', e = .returned (repEnd no ag (rowStep pc1 (lay t D))).2.val ∧ PlanIn B w' p vb vn' (repEnd no ag (rowStep pc1 (lay t D))).1 ∧ Turn (plS p vn) w w' ∧ Moved w vn vn' := by
  have hplt := hP.lt
  have hpB := hP.pge
  have hV : Below w.heap.size w ((w.alloc (.cells #[.int .i64 3, .int .u64 0, .int .u64 0, .int .u64 0, .int .u64 0, .slice (some ⟨g, 0, none⟩) 1 c, .bool no, .bool ag] 49)).alloc (.cells #[.int .u64 0, .int .u64 0, .int .u64 0, .int .u64 0, .bool false] 83)) := ((Below.refl _ w).alloc (Nat.le_refl _) _).alloc (by simp) _
  have v0 : DB ((w.alloc (.cells #[.int .i64 3, .int .u64 0, .int .u64 0, .int .u64 0, .int .u64 0, .slice (some ⟨g, 0, none⟩) 1 c, .bool no, .bool ag] 49)).alloc (.cells #[.int .u64 0, .int .u64 0, .int .u64 0, .int .u64 0, .bool false] 83)) w.heap.size ⟨3, 0, 0, 0, 0, some ⟨g, 0, none⟩, 1, c, no, ag⟩ := heap_alloc_old (heap_alloc_at _ _) (by simp)
  have v1 : PB ((w.alloc (.cells #[.int .i64 3, .int .u64 0, .int .u64 0, .int .u64 0, .int .u64 0, .slice (some ⟨g, 0, none⟩) 1 c, .bool no, .bool ag] 49)).alloc (.cells #[.int .u64 0, .int .u64 0, .int .u64 0, .int .u64 0, .bool false] 83)) (w.heap.size + 1) pc0 := by
    have h := heap_alloc_at (w.alloc (.cells #[.int .i64 3, .int .u64 0, .int .u64 0, .int .u64 0, .int .u64 0, .slice (some ⟨g, 0, none⟩) 1 c, .bool no, .bool ag] 49)) (.cells #[.int .u64 0, .int .u64 0, .int .u64 0, .int .u64 0, .bool false] 83)
    rw [World.size_alloc] at h
    exact h
  have hVs : ((w.alloc (.cells #[.int .i64 3, .int .u64 0, .int .u64 0, .int .u64 0, .int .u64 0, .slice (some ⟨g, 0, none⟩) 1 c, .bool no, .bool ag] 49)).alloc (.cells #[.int .u64 0, .int .u64 0, .int .u64 0, .int .u64 0, .bool false] 83)).heap.size = w.heap.size + 1 + 1 := by simp
  have hrow : layRow ([(d, t)].map (·.2)) D pc1 = rowStep pc1 (lay t D) := by
    show layRow [t] D pc1 = _
    conv => lhs; unfold layRow
    unfold layRow
    rfl
  have hrs := (lay_ok n t D hD hv).rowStep (pc1_good _)
  have hlv1 : lvs ([(d, t)].map (·.2)) = t.lv := by show lvs [t] = _; unfold lvs; unfold lvs; omega
  go_enter Tryd.func42, Tryd.ntmps42
  go_wp2_with fail
  generalize ((w.alloc (.cells #[.int .i64 3, .int .u64 0, .int .u64 0, .int .u64 0, .int .u64 0, .slice (some ⟨g, 0, none⟩) 1 c, .bool no, .bool ag] 49)).alloc (.cells #[.int .u64 0, .int .u64 0, .int .u64 0, .int .u64 0, .bool false] 83)) = V at *
  have onV : OnlyS (fun k => B ≤ k) w V := fun k hk _ => hV.block k hk
  refine (row_any B hB1 n [(d, t)] (fun x hx => by rw [List.mem_singleton] at hx; subst hx; exact hL) (by simp) D g c p vb vn V hD (by omega) (hP.below hV (Nat.le_refl _)) (hg.only onV) (fun x hx => by rw [List.mem_singleton] at hx; subst hx; exact hT.only onV) (hTab.below hV (by omega))).mono ?_
  rw [hrow]
  rintro e w2 ⟨vn2, rfl, hP2, hT2, hM2⟩
  generalize hres : rowStep pc1 (lay t D) = res at *
  obtain ⟨D2, ⟨pf, pl, pe⟩⟩ := res
  have HRES := hid hres
  clear hres
  dsimp only at hP2
  unfold Pc.val
  dsimp only
  have hp2 := hT2.size
  have hnn : ∀ k, w.heap.size ≤ k → vn.ownBlock ≠ some k := fun k hk e => by have := (hP.on.lt e).1; omega
  have hbn : ∀ k, w.heap.size ≤ k → vb.ownBlock ≠ some k := fun k hk e => by have := (hP.ob.lt e).1; omega
  have keep2 : ∀ k, w.heap.size ≤ k → k < V.heap.size → w2.heap[k]? = V.heap[k]? := fun k h1 h2 => hT2.block k h2 (fun e => by
    rcases e with e | e
    · omega
    · exact hnn k h1 e)
  have n2 : DB w2 w.heap.size ⟨3, 0, 0, 0, 0, some ⟨g, 0, none⟩, 1, c, no, ag⟩ := (keep2 _ (Nat.le_refl _) (by omega)).trans v0
  have r2 : PB w2 (w.heap.size + 1) pc0 := (keep2 _ (by omega) (by omega)).trans v1
  have mkY : ∀ x : Pc, MkI B (w2.alloc (.cells #[.int .u64 (x.fst.1 : Int), .int .u64 (x.fst.2 : Int), .int .u64 (x.lst.1 : Int), .int .u64 (x.lst.2 : Int), .bool x.em] 83)) p vb vn2 vn2 D2 w2.heap.size x (w.heap.size + 1) (w2.alloc (.cells #[.int .u64 (x.fst.1 : Int), .int .u64 (x.fst.2 : Int), .int .u64 (x.lst.1 : Int), .int .u64 (x.lst.2 : Int), .bool x.em] 83)) ∧ DB (w2.alloc (.cells #[.int .u64 (x.fst.1 : Int), .int .u64 (x.fst.2 : Int), .int .u64 (x.lst.1 : Int), .int .u64 (x.lst.2 : Int), .bool x.em] 83)) w.heap.size ⟨3, 0, 0, 0, 0, some ⟨g, 0, none⟩, 1, c, no, ag⟩ ∧ Turn (plS p vn) w (w2.alloc (.cells #[.int .u64 (x.fst.1 : Int), .int .u64 (x.fst.2 : Int), .int .u64 (x.lst.1 : Int), .int .u64 (x.lst.2 : Int), .bool x.em] 83)) := fun x =>
    have hY : Below w2.heap.size w2 (w2.alloc (.cells #[.int .u64 (x.fst.1 : Int), .int .u64 (x.fst.2 : Int), .int .u64 (x.lst.1 : Int), .int .u64 (x.lst.2 : Int), .bool x.em] 83)) := (Below.refl _ _).alloc (Nat.le_refl _) _
    ⟨⟨hP2.below hY (Nat.le_refl _), Turn.refl _ _, Moved.refl _ _, heap_alloc_at _ _, heap_alloc_old r2 (by omega), ⟨by simp, by omega, hbn _ (by omega), fun e => by have := (hP2.on.lt e).1; omega⟩, ⟨by simp; omega, by omega, hbn _ (by omega), hM2.ne (by omega) (hnn _ (by omega))⟩, by omega⟩, heap_alloc_old n2 (by omega), ((Turn.ofBelow hV).trans hT2).alloc _⟩
  obtain ⟨hI, nY, h0⟩ := mkY ⟨pf, pl, pe⟩
  have hm : Moved w vn vn2 := hM2.later hV.size
  have htb : TabIn (w2.alloc (.cells #[.int .u64 (pf.1 : Int), .int .u64 (pf.2 : Int), .int .u64 (pl.1 : Int), .int .u64 (pl.2 : Int), .bool pe] 83)) := hTab.blocks (h0.block 0 (by omega) (fun e => by
    rcases e with e | e
    · omega
    · have := (hP.on.lt e).2; omega))
  have hn2 : vn2.ownBlock ≠ some w.heap.size := hM2.ne (by omega) (hnn _ (Nat.le_refl _))
  clear keep2 n2 r2 hT2 hM2 hP2 v0 v1 hrow
  have hgd := hrs.g
  have hpg : Pc.good ⟨pf, pl, pe⟩ D2.nx.length := hrs.p
  have hD2 : D2.good n := hgd
  clear hrs hgd
  clear hg hT hTab hL hlv1 hv hD
  cases ag with
  | false =>
    have b0 := hI.bx.c0
    have b1 := hI.bx.c1
    have b2 := hI.bx.c2
    have b3 := hI.bx.c3
    have b4 := hI.bx.c4
    have bf := hI.bx.fz
    have n6 := nY.c6
    have n7 := nY.c7
    clear nY htb h0
    cases pe
    · skip
      obtain ⟨hK, -, h0⟩ := mkY ⟨pf, pl, no⟩
      have k0 := hK.bx.c0
      have k1 := hK.bx.c1
      have k2 := hK.bx.c2
      have k3 := hK.bx.c3
      have k4 := hK.bx.c4
      have r0 := hK.rs.c0
      have r1 := hK.rs.c1
      have r2 := hK.rs.c2
      have r3 := hK.rs.c3
      have r4 := hK.rs.c4
      have rf := hK.rs.fz
      have HK := hid hK
      clear hK
      go_wp2_with fail
      clear b0 b1 b2 b3 b4 bf n6 n7 k0 k1 k2 k3 k4 r0 r1 r2 r3 r4 rf
      obtain ⟨q, hPe, hTe, hMe⟩ := HK.out.done2 h0 hm (by omega) (by omega)
      have q0 := q.c0
      have q1 := q.c1
      have q2 := q.c2
      have q3 := q.c3
      have q4 := q.c4
      refine bodyPost_ret (v := (⟨pf, pl, no⟩ : Pc).val) (by unfold putPc at q0 q1 q2 q3 q4; simp [results, Tryd.results42, go_sem, q0, q1, q2, q3, q4, Pc.val]) rfl ?_
      first | exact ⟨_, by first | (unfold repEnd Pc.rep; rfl) | (rw [HRES.out]; unfold repEnd Pc.rep; rfl), by first | exact hPe | (rw [HRES.out]; exact hPe), hTe, hMe⟩ | exact ⟨by first | (unfold repEnd Pc.rep; rfl) | (rw [HRES.out]; unfold repEnd Pc.rep; rfl), _, by first | exact hPe | (rw [HRES.out]; exact hPe), hTe, hMe⟩
    · skip
      obtain ⟨hK, -, h0⟩ := mkY ⟨pf, pl, true⟩
      have k0 := hK.bx.c0
      have k1 := hK.bx.c1
      have k2 := hK.bx.c2
      have k3 := hK.bx.c3
      have k4 := hK.bx.c4
      have r0 := hK.rs.c0
      have r1 := hK.rs.c1
      have r2 := hK.rs.c2
      have r3 := hK.rs.c3
      have r4 := hK.rs.c4
      have rf := hK.rs.fz
      have HK := hid hK
      clear hK
      go_wp2_with fail
      clear b0 b1 b2 b3 b4 bf n6 n7 k0 k1 k2 k3 k4 r0 r1 r2 r3 r4 rf
      obtain ⟨q, hPe, hTe, hMe⟩ := HK.out.done2 h0 hm (by omega) (by omega)
      have q0 := q.c0
      have q1 := q.c1
      have q2 := q.c2
      have q3 := q.c3
      have q4 := q.c4
      refine bodyPost_ret (v := (⟨pf, pl, true⟩ : Pc).val) (by unfold putPc at q0 q1 q2 q3 q4; simp [results, Tryd.results42, go_sem, q0, q1, q2, q3, q4, Pc.val]) rfl ?_
      first | exact ⟨_, by first | (unfold repEnd Pc.rep; rfl) | (rw [HRES.out]; unfold repEnd Pc.rep; rfl), by first | exact hPe | (rw [HRES.out]; exact hPe), hTe, hMe⟩ | exact ⟨by first | (unfold repEnd Pc.rep; rfl) | (rw [HRES.out]; unfold repEnd Pc.rep; rfl), _, by first | exact hPe | (rw [HRES.out]; exact hPe), hTe, hMe⟩
  | true =>
    clear mkY
    have b0 := hI.bx.c0
    have b1 := hI.bx.c1
    have b2 := hI.bx.c2
    have b3 := hI.bx.c3
    have b4 := hI.bx.c4
    have bf := hI.bx.fz
    have n6 := nY.c6
    have n7 := nY.c7
    go_wp2_with fail
    clear b0 b1 b2 b3 b4 bf n6 n7
    refine (link_any B hB1 D2 p vb vn2 pl pf hpg.ok.lst hpg.ok.fst hD2.fine.nx hpg.ok.lf _ hI.pl htb).mono ?_
    rintro e w3 ⟨rfl, hP3, hT3⟩
    have hI3 := hI.link hP3 hT3
    have n3 : DB w3 w.heap.size ⟨3, 0, 0, 0, 0, some ⟨g, 0, none⟩, 1, c, no, true⟩ := (hT3.block _ (by simp; omega) hn2).trans nY
    clear hP3 hT3 nY hI htb
    generalize (w2.alloc (.cells #[.int .u64 (pf.1 : Int), .int .u64 (pf.2 : Int), .int .u64 (pl.1 : Int), .int .u64 (pl.2 : Int), .bool pe] 83)) = Y at *
    have b0 := hI3.bx.c0
    have b1 := hI3.bx.c1
    have b2 := hI3.bx.c2
    have b3 := hI3.bx.c3
    have b4 := hI3.bx.c4
    have bf := hI3.bx.fz
    have n6 := n3.c6
    have n7 := n3.c7
    cases pe
    · skip
      have hK := hI3.setE no
      have k0 := hK.bx.c0
      have k1 := hK.bx.c1
      have k2 := hK.bx.c2
      have k3 := hK.bx.c3
      have k4 := hK.bx.c4
      have r0 := hK.rs.c0
      have r1 := hK.rs.c1
      have r2 := hK.rs.c2
      have r3 := hK.rs.c3
      have r4 := hK.rs.c4
      have rf := hK.rs.fz
      have HK := hid hK
      clear hK
      go_wp2_with fail
      clear b0 b1 b2 b3 b4 bf n6 n7 k0 k1 k2 k3 k4 r0 r1 r2 r3 r4 rf
      obtain ⟨q, hPe, hTe, hMe⟩ := HK.out.done2 h0 hm (by omega) (by omega)
      have q0 := q.c0
      have q1 := q.c1
      have q2 := q.c2
      have q3 := q.c3
      have q4 := q.c4
      refine bodyPost_ret (v := (⟨pf, pl, no⟩ : Pc).val) (by unfold putPc at q0 q1 q2 q3 q4; simp [results, Tryd.results42, go_sem, q0, q1, q2, q3, q4, Pc.val]) rfl ?_
      first | exact ⟨_, by first | (unfold repEnd Pc.rep; rfl) | (rw [HRES.out]; unfold repEnd Pc.rep; rfl), by first | exact hPe | (rw [HRES.out]; exact hPe), hTe, hMe⟩ | exact ⟨by first | (unfold repEnd Pc.rep; rfl) | (rw [HRES.out]; unfold repEnd Pc.rep; rfl), _, by first | exact hPe | (rw [HRES.out]; exact hPe), hTe, hMe⟩
    · skip
      have hK := hI3.setE true
      have k0 := hK.bx.c0
      have k1 := hK.bx.c1
      have k2 := hK.bx.c2
      have k3 := hK.bx.c3
      have k4 := hK.bx.c4
      have r0 := hK.rs.c0
      have r1 := hK.rs.c1
      have r2 := hK.rs.c2
      have r3 := hK.rs.c3
      have r4 := hK.rs.c4
      have rf := hK.rs.fz
      have HK := hid hK
      clear hK
      go_wp2_with fail
      clear b0 b1 b2 b3 b4 bf n6 n7 k0 k1 k2 k3 k4 r0 r1 r2 r3 r4 rf
      obtain ⟨q, hPe, hTe, hMe⟩ := HK.out.done2 h0 hm (by omega) (by omega)
      have q0 := q.c0
      have q1 := q.c1
      have q2 := q.c2
      have q3 := q.c3
      have q4 := q.c4
      refine bodyPost_ret (v := (⟨pf, pl, true⟩ : Pc).val) (by unfold putPc at q0 q1 q2 q3 q4; simp [results, Tryd.results42, go_sem, q0, q1, q2, q3, q4, Pc.val]) rfl ?_
      first | exact ⟨_, by first | (unfold repEnd Pc.rep; rfl) | (rw [HRES.out]; unfold repEnd Pc.rep; rfl), by first | exact hPe | (rw [HRES.out]; exact hPe), hTe, hMe⟩ | exact ⟨by first | (unfold repEnd Pc.rep; rfl) | (rw [HRES.out]; unfold repEnd Pc.rep; rfl), _, by first | exact hPe | (rw [HRES.out]; exact hPe), hTe, hMe⟩
end Go.Proofs.YtjhmlcilabnlbaaDoor
