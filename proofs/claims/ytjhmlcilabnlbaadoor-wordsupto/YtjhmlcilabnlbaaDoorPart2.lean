import Derived.Maps.AppendAt
import Derived.Deep.DeepCutAuto
import Derived.ChangeKeysEq
import Derived.Deep.RegionWith
import Derived.Test.YtjhmlcilabnlbaaDoorPart1
/- States: a plan in the making, in memory. -/
namespace Go.Proofs.YtjhmlcilabnlbaaDoor
open Go.RowKit

/-- All that was there is as it was, but for the blocks of S. -/
structure Turn (S : Nat → Prop) (w w' : World) : Prop where
  os : w'.os = w.os
  tape : w'.tape = w.tape
  output : w'.output = w.output
  size : w.heap.size ≤ w'.heap.size
  block : ∀ k, k < w.heap.size → ¬ S k → w'.heap[k]? = w.heap[k]?
theorem Turn.refl (S : Nat → Prop) (w : World) : Turn S w w := ⟨rfl, rfl, rfl, Nat.le_refl _, fun _ _ _ => rfl⟩
theorem Turn.trans {S : Nat → Prop} {a b c : World} (h : Turn S a b) (k : Turn S b c) : Turn S a c :=
  ⟨k.os.trans h.os, k.tape.trans h.tape, k.output.trans h.output, Nat.le_trans h.size k.size, fun i hi hb => (k.block i (Nat.lt_of_lt_of_le hi h.size) hb).trans (h.block i hi hb)⟩
theorem Turn.mono {S S' : Nat → Prop} {a b : World} (h : Turn S a b) (k : ∀ j, j < a.heap.size → S j → S' j) : Turn S' a b := ⟨h.os, h.tape, h.output, h.size, fun i hi hb => h.block i hi (fun e => hb (k i hi e))⟩
/-- What may turn, as a later world names it: the blocks that were there, and new ones. -/
theorem Turn.next {S S' : Nat → Prop} {a b c : World} (h : Turn S a b) (k : Turn S' b c) (hS : ∀ j, j < a.heap.size → S' j → S j) : Turn S a c :=
  ⟨k.os.trans h.os, k.tape.trans h.tape, k.output.trans h.output, Nat.le_trans h.size k.size, fun i hi hb => (k.block i (Nat.lt_of_lt_of_le hi h.size) (fun e => hb (hS i hi e))).trans (h.block i hi hb)⟩
theorem Turn.ofBelow {S : Nat → Prop} {a b : World} (h : Below a.heap.size a b) : Turn S a b := ⟨h.os, h.tape, h.output, h.size, fun i hi _ => h.block i hi⟩
theorem Turn.below {S : Nat → Prop} {B : Nat} {a b c : World} (h : Turn S a b) (k : Below B b c) (hB : a.heap.size ≤ B) : Turn S a c :=
  ⟨k.os.trans h.os, k.tape.trans h.tape, k.output.trans h.output, Nat.le_trans h.size k.size, fun i hi hb => (k.block i (by omega)).trans (h.block i hi hb)⟩
theorem Turn.toBelow {S : Nat → Prop} {B : Nat} {a b : World} (h : Turn S a b) (hB : B ≤ a.heap.size) (hS : ∀ j, j < B → ¬ S j) : Below B a b := ⟨h.os, h.tape, h.output, h.size, fun i hi => h.block i (by omega) (hS i hi)⟩
theorem Turn.setCell {S : Nat → Prop} {a b : World} (h : Turn S a b) (p : Addr) (hp : p.block < a.heap.size → S p.block) (v : Value) : Turn S a (b.setCell p v) :=
  ⟨h.os, h.tape, h.output, by have := h.size; simpa [World.setCell] using this, fun i hi hb => (Below.heap_setCell _ _ _ _ (fun e => hb (by rw [e]; exact hp (by rw [← e]; exact hi)))).trans (h.block i hi hb)⟩
theorem Turn.alloc {S : Nat → Prop} {a b : World} (h : Turn S a b) (o : Obj) : Turn S a (b.alloc o) :=
  ⟨h.os, h.tape, h.output, by have := h.size; simp; omega, fun i hi hb => (Below.heap_alloc _ _ _ (Nat.lt_of_lt_of_le hi h.size)).trans (h.block i hi hb)⟩
theorem Turn.drew {S : Nat → Prop} {a b : World} (h : Turn S a b) : Turn S a b.drew := ⟨h.os, h.tape, h.output, h.size, h.block⟩
theorem Turn.grown {S : Nat → Prop} {a b c : World} {row : Option Nat} (h : Turn S a b) (hg : b.grownBy c row) (hr : ∀ k, row = some k → k < a.heap.size → S k) : Turn S a c :=
  ⟨hg.os.trans h.os, hg.tape.trans h.tape, hg.output.trans h.output, Nat.le_trans h.size hg.size, fun i hi hb => (hg.block i (Nat.lt_of_lt_of_le hi h.size) (fun e => hb (hr i e.symm hi))).trans (h.block i hi hb)⟩

theorem ownFrom_of_below {β : Type} {B : Nat} {I : β → World → Prop} (hI : ∀ s W W', I s W → Below B W W' → I s W') (hS : ∀ s W, I s W → B ≤ W.heap.size) : OwnFrom B I :=
  fun s W W' _ hs hg hr => hI s W W' hs ((Below.refl B W).grown hg (hS s W hs) (fun k e => (hr k e).1))

def setCells (l : List S2) : List Value := l.flatMap fun a => [.int .u64 (a.1 : Int), .int .u64 (a.2 : Int)]
theorem setCells_len (l : List S2) : (setCells l).length = l.length * 2 := by
  induction l with
  | nil => rfl
  | cons x xs ih => simp [setCells] at ih ⊢; omega
theorem setCells_get (l : List S2) (i : Nat) (a : S2) (h : l[i]? = some a) : (setCells l)[i * 2]? = some (.int .u64 (a.1 : Int)) ∧ (setCells l)[i * 2 + 1]? = some (.int .u64 (a.2 : Int)) := by
  induction l generalizing i with
  | nil => simp at h
  | cons y ys ih =>
    have e : setCells (y :: ys) = .int .u64 (y.1 : Int) :: .int .u64 (y.2 : Int) :: setCells ys := rfl
    rw [e]
    cases i with
    | zero => simp at h; subst h; simp
    | succ i =>
      rw [show (i + 1) * 2 = i * 2 + 1 + 1 by omega]
      simp only [List.getElem?_cons_succ]
      exact ih i (by simpa using h)
theorem setCells_set (l : List S2) (i : Nat) (a : S2) (hi : i < l.length) : setCells (l.set i a) = ((setCells l).set (i * 2) (.int .u64 (a.1 : Int))).set (i * 2 + 1) (.int .u64 (a.2 : Int)) := by
  induction l generalizing i with
  | nil => simp at hi
  | cons y ys ih =>
    have e : ∀ (y : S2) ys, setCells (y :: ys) = .int .u64 (y.1 : Int) :: .int .u64 (y.2 : Int) :: setCells ys := fun _ _ => rfl
    cases i with
    | zero => simp [e]
    | succ i =>
      rw [show (i + 1) * 2 = i * 2 + 1 + 1 by omega, List.set_cons_succ, e, e, ih i (by simpa using hi)]
      simp
theorem setCells_snoc (l : List S2) (a : S2) : setCells (l ++ [a]) = setCells l ++ [.int .u64 (a.1 : Int), .int .u64 (a.2 : Int)] := by simp [setCells]

theorem hset {w : World} {b i : Nat} {cs : Array Value} {T : TypeId} {fr : Nat × Nat} (hb : w.heap[b]? = some (.cells cs T fr)) (v : Value) : (w.setCell ⟨b, i, none⟩ v).heap[b]? = some (.cells (cs.setIfInBounds i v) T fr) := by
  simp [World.setCell, Array.getElem?_modify, hb]

/-- A list of sets that the plan owns. -/
abbrev RowS (w : World) (B : Nat) (v : Value) (l : List S2) : Prop := w.ownsRow B 58 2 v l.length (setCells l)
theorem RowS.shape {w : World} {B : Nat} {v : Value} {l : List S2} (h : RowS w B v l) : ∃ ad c, v = .slice ad l.length c := by
  rcases h.2 with ⟨hv, h0⟩ | ⟨g, c, cur, hv, -⟩
  · exact ⟨none, 0, by rw [h0]; exact hv⟩
  · exact ⟨_, c, hv⟩
theorem RowS.some {w : World} {B : Nat} {v : Value} {l : List S2} (h : RowS w B v l) (hl : 0 < l.length) : ∃ g c cur, v = .slice (some ⟨g, 0, none⟩) l.length c ∧ B ≤ g ∧ w.heap[g]? = some (.cells cur 58 (0, 0)) ∧ l.length ≤ c ∧ c ≤ maxLen ∧ cur.size = c * 2 ∧ cur.toList.take (l.length * 2) = setCells l := by
  rcases h.2 with ⟨hv, h0⟩ | ⟨g, c, cur, hv, h1, h2, h3, h4, h5, h6⟩
  · omega
  · exact ⟨g, c, cur, hv, h1, h2, h3, h4, h5, h6⟩
theorem cell_of_take {w : World} {g n : Nat} {cur : Array Value} {T : TypeId} {fz : Nat × Nat} {xs : List Value} (hg : w.heap[g]? = some (.cells cur T fz)) (ht : cur.toList.take n = xs) {j : Nat} (hj : j < n) : w.cell? ⟨g, j, none⟩ = xs[j]? := by
  rw [← ht, List.getElem?_take, if_pos hj]
  simp [World.cell?, hg]
theorem RowS.keep {w w' : World} {B : Nat} {v : Value} {l : List S2} (h : RowS w B v l) (k : ∀ g, v.ownBlock = .some g → w'.heap[g]? = w.heap[g]?) : RowS w' B v l := by
  refine ⟨h.1, ?_⟩
  rcases h.2 with h0 | ⟨g, c, cur, hv, h1, h2, h3⟩
  · exact .inl h0
  · exact .inr ⟨g, c, cur, hv, h1, (k g (by rw [hv]; rfl)).trans h2, h3⟩
theorem RowS.lt {w : World} {B : Nat} {v : Value} {l : List S2} (h : RowS w B v l) {g : Nat} (hg : v.ownBlock = .some g) : g < w.heap.size ∧ B ≤ g := by
  rcases h.2 with ⟨hv, -⟩ | ⟨g', c, cur, hv, h1, h2, -⟩
  · rw [hv] at hg; cases hg
  · rw [hv] at hg; cases hg; exact ⟨(Array.getElem?_eq_some_iff.1 h2).1, h1⟩
theorem RowS.set {w : World} {B : Nat} {l : List S2} {g c : Nat} (h : RowS w B (.slice (.some ⟨g, 0, none⟩) l.length c) l) {k : Nat} (hk : k < l.length) (z : S2) :
    RowS ((w.setCell ⟨g, k * 2, none⟩ (.int .u64 (z.1 : Int))).setCell ⟨g, k * 2 + 1, none⟩ (.int .u64 (z.2 : Int))) B (.slice (.some ⟨g, 0, none⟩) l.length c) (l.set k z) := by
  obtain ⟨g', c', cur, hv, h1, h2, h3, h4, h5, h6⟩ := h.some (by omega)
  cases hv
  refine ⟨by rw [setCells_len], .inr ⟨g, c, (cur.setIfInBounds (k * 2) (.int .u64 (z.1 : Int))).setIfInBounds (k * 2 + 1) (.int .u64 (z.2 : Int)), by simp, h1, ?_, by simpa using h3, h4, by simpa using h5, ?_⟩⟩
  · exact hset (hset h2 _) _
  · rw [setCells_set l k z hk, ← h6]
    simp [List.take_set]

/-- A plan in the making: its block, and what its lists are. -/
structure PlanIn (B : Nat) (w : World) (p : Nat) (vb vn : Value) (D : PlD) : Prop where
  pge : B ≤ p
  blk : ∃ cs : Array Value, w.heap[p]? = some (.cells cs 81 (0, 0)) ∧ cs.size = 516 ∧ cs[0]? = some vb ∧ cs[1]? = some vn ∧ (∀ b, b < 256 → cs[2 + b * 2]? = some (.int .u64 ((D.mt b).1 : Int)) ∧ cs[2 + b * 2 + 1]? = some (.int .u64 ((D.mt b).2 : Int))) ∧ cs[514]? = some (.int .u64 (D.en.1 : Int)) ∧ cs[515]? = some (.int .u64 (D.en.2 : Int))
  ob : RowS w B vb D.bg
  on : RowS w B vn D.nx
  ab : vb.ownBlock ≠ some p
  an : vn.ownBlock ≠ some p
  abn : ∀ g, vb.ownBlock = some g → vn.ownBlock ≠ some g
theorem PlanIn.lt {B : Nat} {w : World} {p : Nat} {vb vn : Value} {D : PlD} (h : PlanIn B w p vb vn D) : p < w.heap.size := by
  obtain ⟨cs, hc, -⟩ := h.blk
  exact (Array.getElem?_eq_some_iff.1 hc).1
theorem PlanIn.keep {B : Nat} {w w' : World} {p : Nat} {vb vn : Value} {D : PlD} (h : PlanIn B w p vb vn D) (hp : w'.heap[p]? = w.heap[p]?) (hb : ∀ g, vb.ownBlock = some g → w'.heap[g]? = w.heap[g]?) (hn : ∀ g, vn.ownBlock = some g → w'.heap[g]? = w.heap[g]?) : PlanIn B w' p vb vn D := by
  obtain ⟨cs, hc, h2⟩ := h.blk
  exact ⟨h.pge, ⟨cs, hp.trans hc, h2⟩, h.ob.keep hb, h.on.keep hn, h.ab, h.an, h.abn⟩
theorem PlanIn.below {B B' : Nat} {w w' : World} {p : Nat} {vb vn : Value} {D : PlD} (h : PlanIn B w p vb vn D) (k : Below B' w w') (hB : w.heap.size ≤ B') : PlanIn B w' p vb vn D :=
  h.keep (k.block _ (by have := h.lt; omega)) (fun g hg => k.block _ (by have := (h.ob.lt hg).1; omega)) (fun g hg => k.block _ (by have := (h.on.lt hg).1; omega))
theorem PlanIn.cn {B : Nat} {w : World} {p : Nat} {vb vn : Value} {D : PlD} (h : PlanIn B w p vb vn D) : w.cell? ⟨p, 1, none⟩ = some vn := by
  obtain ⟨cs, hc, -, -, h1, -⟩ := h.blk
  simp [World.cell?, hc, h1]
theorem PlanIn.cb {B : Nat} {w : World} {p : Nat} {vb vn : Value} {D : PlD} (h : PlanIn B w p vb vn D) : w.cell? ⟨p, 0, none⟩ = some vb := by
  obtain ⟨cs, hc, -, h1, -⟩ := h.blk
  simp [World.cell?, hc, h1]
theorem PlanIn.cm {B : Nat} {w : World} {p : Nat} {vb vn : Value} {D : PlD} (h : PlanIn B w p vb vn D) {b : Nat} (hb : b < 256) : w.cell? ⟨p, 2 + b * 2, none⟩ = some (.int .u64 ((D.mt b).1 : Int)) ∧ w.cell? ⟨p, 2 + b * 2 + 1, none⟩ = some (.int .u64 ((D.mt b).2 : Int)) := by
  obtain ⟨cs, hc, -, -, -, h1, -⟩ := h.blk
  exact ⟨by simp [World.cell?, hc, (h1 b hb).1], by simp [World.cell?, hc, (h1 b hb).2]⟩
theorem PlanIn.ce {B : Nat} {w : World} {p : Nat} {vb vn : Value} {D : PlD} (h : PlanIn B w p vb vn D) : w.cell? ⟨p, 514, none⟩ = some (.int .u64 (D.en.1 : Int)) ∧ w.cell? ⟨p, 515, none⟩ = some (.int .u64 (D.en.2 : Int)) := by
  obtain ⟨cs, hc, -, -, -, -, h1, h2⟩ := h.blk
  exact ⟨by simp [World.cell?, hc, h1], by simp [World.cell?, hc, h2]⟩
theorem PlanIn.fz {B : Nat} {w : World} {p : Nat} {vb vn : Value} {D : PlD} (h : PlanIn B w p vb vn D) (k : Nat) : w.frozen? ⟨p, k, none⟩ = false := by
  obtain ⟨cs, hc, -⟩ := h.blk
  simp [World.frozen?, hc]
end Go.Proofs.YtjhmlcilabnlbaaDoor
/- States: link. -/
namespace Go.Proofs.YtjhmlcilabnlbaaDoor
open Go.RowKit Go.Shelf

attribute [local go_sem] Oper.semAt_some

def linkL (l : List S2) (y : S2) (ks : List Nat) : List S2 := ks.foldl (fun l k => l.set k ((l.getD k (0, 0)).or y)) l
theorem linkL_snoc (l : List S2) (y : S2) (ks : List Nat) (k : Nat) : linkL l y (ks ++ [k]) = (linkL l y ks).set k (((linkL l y ks).getD k (0, 0)).or y) := by
  unfold linkL; rw [List.foldl_append]; rfl
theorem linkL_len (l : List S2) (y : S2) (ks : List Nat) : (linkL l y ks).length = l.length := by
  unfold linkL
  induction ks generalizing l with
  | nil => rfl
  | cons k ks ih => rw [List.foldl_cons, ih]; simp
theorem linkL_ok {l : List S2} {y : S2} (hy : y.ok) (ks : List Nat) (h : ∀ a, a ∈ l → a.ok) : ∀ a, a ∈ linkL l y ks → a.ok := by
  unfold linkL
  induction ks generalizing l with
  | nil => exact h
  | cons k ks ih =>
    rw [List.foldl_cons]
    apply ih
    intro a ha
    rcases List.mem_or_eq_of_mem_set ha with ha | rfl
    · exact h a ha
    · exact S2.or_ok (getD_ok h k) hy

theorem heap_four (w : World) (o0 o1 o2 o3 : Obj) : ∀ W, W = (((w.alloc o0).alloc o1).alloc o2).alloc o3 → W.heap[w.heap.size]? = some o0 ∧ W.heap[w.heap.size + 1]? = some o1 ∧ W.heap[w.heap.size + 1 + 1]? = some o2 ∧ W.heap[w.heap.size + 1 + 1 + 1]? = some o3 := by
  intro W hW
  obtain ⟨e1, e2, e3⟩ := heap_three w o0 o1 o2 _ rfl
  have e4 := heap_alloc_at (((w.alloc o0).alloc o1).alloc o2) o3
  simp only [World.size_alloc] at e4
  subst hW
  exact ⟨heap_alloc_old e1 (by simp only [World.size_alloc]; omega), heap_alloc_old e2 (by simp only [World.size_alloc]; omega), heap_alloc_old e3 (by simp only [World.size_alloc]; omega), e4⟩

/-- The plan, its list of what may come behind another one. -/
def PlD.nxt (D : PlD) (l : List S2) : PlD := { D with nx := l }

/-- Between two rounds. -/
structure LinkI (B : Nat) (w : World) (X p : Nat) (vb vn : Value) (y : S2) (D : PlD) (W : World) : Prop where
  c0 : W.cell? ⟨w.heap.size, 0, none⟩ = some (.pointer (some ⟨p, 0, none⟩))
  c1 : W.cell? ⟨w.heap.size + 1 + 1, 0, none⟩ = some (.int .u64 (y.1 : Int))
  c2 : W.cell? ⟨w.heap.size + 1 + 1, 1, none⟩ = some (.int .u64 (y.2 : Int))
  pl : PlanIn B W p vb vn D
  tn : Turn (fun k => vn.ownBlock = some k) w W
  sz : X ≤ W.heap.size
  pX : p < X
  bX : ∀ g, vb.ownBlock = some g → g < X
  nX : ∀ g, vn.ownBlock = some g → g < w.heap.size
theorem LinkI.below {B X p : Nat} {w W W' : World} {vb vn : Value} {y : S2} {D : PlD} (h : LinkI B w X p vb vn y D W) (hX : w.heap.size + 1 + 1 < X) (k : Below X W W') : LinkI B w X p vb vn y D W' :=
  ⟨(k.cell (p := ⟨w.heap.size, 0, none⟩) (show w.heap.size < X by omega)).trans h.c0, (k.cell (p := ⟨w.heap.size + 1 + 1, 0, none⟩) hX).trans h.c1, (k.cell (p := ⟨w.heap.size + 1 + 1, 1, none⟩) hX).trans h.c2,
    h.pl.keep (k.block _ h.pX) (fun g hg => k.block _ (h.bX g hg)) (fun g hg => k.block _ (by have := h.nX g hg; omega)), h.tn.below k (by omega), Nat.le_trans h.sz k.size, h.pX, h.bX, h.nX⟩

theorem PlanIn.store {B p : Nat} {w : World} {vb : Value} {g c : Nat} {D : PlD} (h : PlanIn B w p vb (.slice (some ⟨g, 0, none⟩) D.nx.length c) D) {k : Nat} (hk : k < D.nx.length) (z : S2) :
    PlanIn B ((w.setCell ⟨g, k * 2, none⟩ (.int .u64 (z.1 : Int))).setCell ⟨g, k * 2 + 1, none⟩ (.int .u64 (z.2 : Int))) p vb (.slice (some ⟨g, 0, none⟩) D.nx.length c) (D.nxt (D.nx.set k z)) := by
  have other : ∀ j, j ≠ g → ((w.setCell ⟨g, k * 2, none⟩ (.int .u64 (z.1 : Int))).setCell ⟨g, k * 2 + 1, none⟩ (.int .u64 (z.2 : Int))).heap[j]? = w.heap[j]? := fun j hj => (Below.heap_setCell _ _ _ _ hj).trans (Below.heap_setCell _ _ _ _ hj)
  obtain ⟨cs, hc, h2⟩ := h.blk
  exact ⟨h.pge, ⟨cs, (other p (fun e => h.an (by rw [e]; rfl))).trans hc, h2⟩, h.ob.keep (fun j hj => other j (fun e => h.abn j hj (by rw [e]; rfl))), h.on.set hk z, h.ab, h.an, h.abn⟩

theorem LinkI.store {B X p g c : Nat} {w W : World} {vb vn : Value} {y : S2} {D : PlD} {nxs : List S2} (h : LinkI B w X p vb vn y (D.nxt nxs) W) (hv : vn = .slice (some ⟨g, 0, none⟩) nxs.length c) (hg : g < w.heap.size) {k : Nat} (hk : k < nxs.length) (z : S2) :
    LinkI B w X p vb vn y (D.nxt (nxs.set k z)) ((W.setCell ⟨g, k * 2, none⟩ (.int .u64 (z.1 : Int))).setCell ⟨g, k * 2 + 1, none⟩ (.int .u64 (z.2 : Int))) := by
  subst hv
  have other : ∀ (A : Addr), A.block ≠ g → ((W.setCell ⟨g, k * 2, none⟩ (.int .u64 (z.1 : Int))).setCell ⟨g, k * 2 + 1, none⟩ (.int .u64 (z.2 : Int))).cell? A = W.cell? A := fun A hA =>
    World.cell?_of_block ((Below.heap_setCell _ _ _ _ hA).trans (Below.heap_setCell _ _ _ _ hA))
  exact ⟨(other _ (by show w.heap.size ≠ g; omega)).trans h.c0, (other _ (by show w.heap.size + 1 + 1 ≠ g; omega)).trans h.c1, (other _ (by show w.heap.size + 1 + 1 ≠ g; omega)).trans h.c2,
    h.pl.store (D := D.nxt nxs) hk z, (h.tn.setCell ⟨g, k * 2, none⟩ (fun _ => rfl) _).setCell ⟨g, k * 2 + 1, none⟩ (fun _ => rfl) _, by have := h.sz; simpa [World.setCell] using this, h.pX, h.bX, h.nX⟩

set_option maxRecDepth 100000 in
set_option maxHeartbeats 2000000 in
theorem link_any (B : Nat) (hB1 : 1 ≤ B) (D : PlD) (p : Nat) (vb vn : Value) (x y : S2) (hx : x.ok) (hy : y.ok) (hnx : ∀ a, a ∈ D.nx → a.ok) (hfit : ∀ k, k < 64 → x.1.testBit k = true → k < D.nx.length) (w : World) (hP : PlanIn B w p vb vn D) (hT : TabIn w) :
    Calls Tryd.prog 28 #[.pointer (some ⟨p, 0, none⟩), .agg #[.int .u64 (x.1 : Int), .int .u64 (x.2 : Int)], .agg #[.int .u64 (y.1 : Int), .int .u64 (y.2 : Int)]] w fun e w' => e = .returned (.tuple #[]) ∧ PlanIn B w' p vb vn (D.nxt (linkL D.nx y (bitsN x.1))) ∧ Turn (fun k => vn.ownBlock = some k) w w' := by
  have hplt := hP.lt
  have hsh := hP.on.shape
  refine callsIn_wide (n := 5).1 ?_
  refine callsIn_of_wp_marks Tryd.func28 rfl trivial ?_ rfl
  simp only [Tryd.ntmps28, List.size_toArray, List.length_cons, List.length_nil, Nat.reduceAdd, Nat.reduceSub, Array.replicate_succ, Array.replicate_zero, List.push_toArray, List.append_toArray, List.nil_append, List.cons_append]
  gi_wp2
  refine ⟨trivial, (callsIn_wide.2 (atoms_any _ _ _)).mono ?_⟩
  rintro e w' ⟨rfl, rfl⟩
  gi_wp2
  have hB0 : Below w.heap.size w ((((w.alloc (.cells #[.pointer (some ⟨p, 0, none⟩)] 62)).alloc (.cells #[.int .u64 (x.1 : Int), .int .u64 (x.2 : Int)] 58)).alloc (.cells #[.int .u64 (y.1 : Int), .int .u64 (y.2 : Int)] 58)).alloc (.cells #[.int .u64 (x.1 : Int), .int .u64 (x.2 : Int)] 58)) := (((((Below.refl _ w).alloc (Nat.le_refl _) _).alloc (by simp) _).alloc (by simp; omega) _).alloc (by simp; omega) _)
  obtain ⟨g0, g1, g2, g3⟩ := heap_four w (.cells #[.pointer (some ⟨p, 0, none⟩)] 62) (.cells #[.int .u64 (x.1 : Int), .int .u64 (x.2 : Int)] 58) (.cells #[.int .u64 (y.1 : Int), .int .u64 (y.2 : Int)] 58) (.cells #[.int .u64 (x.1 : Int), .int .u64 (x.2 : Int)] 58) _ rfl
  have hXs : ((((w.alloc (.cells #[.pointer (some ⟨p, 0, none⟩)] 62)).alloc (.cells #[.int .u64 (x.1 : Int), .int .u64 (x.2 : Int)] 58)).alloc (.cells #[.int .u64 (y.1 : Int), .int .u64 (y.2 : Int)] 58)).alloc (.cells #[.int .u64 (x.1 : Int), .int .u64 (x.2 : Int)] 58)).heap.size = w.heap.size + 1 + 1 + 1 + 1 := by simp
  generalize ((((w.alloc (.cells #[.pointer (some ⟨p, 0, none⟩)] 62)).alloc (.cells #[.int .u64 (x.1 : Int), .int .u64 (x.2 : Int)] 58)).alloc (.cells #[.int .u64 (y.1 : Int), .int .u64 (y.2 : Int)] 58)).alloc (.cells #[.int .u64 (x.1 : Int), .int .u64 (x.2 : Int)] 58)) = X at *
  have hI0 : LinkI B w X.heap.size p vb vn y D X := ⟨by simp only [World.cell?, g0]; rfl, by simp only [World.cell?, g2]; rfl, by simp only [World.cell?, g2]; rfl, hP.below hB0 (Nat.le_refl _), Turn.ofBelow hB0, Nat.le_refl _, by omega, fun g hg => by have := (hP.ob.lt hg).1; omega, fun g hg => (hP.on.lt hg).1⟩
  have mixed : Tryd.prog.follows .mixedOrders = true := by kernel_rfl
  have hT0 := hT.below hB0 (by omega)
  refine wpIn_rangeFunc_ownF rfl (by omega) (gf := 58) (lb := #[.pointer (some ⟨w.heap.size + 1 + 1 + 1, 0, none⟩)]) rfl trivial (enters_of Tryd.func58 (by kernel_rfl) rfl)
    (atoms_stops 4 (w.heap.size + 1 + 1 + 1) x.1 hx.1 _ (by simp only [World.cell?, g3]; rfl) (by omega) hT0) belowK_t (belowK_b (by omega)) (Below.refl _ _) (fun _ => rfl)
    (fun (pre : List (Atom x.1)) W => LinkI B w X.heap.size p vb vn y (D.nxt (linkL D.nx y (pre.map (·.1)))) W) (fun _ _ _ => False)
    (ownFrom_of_below (β := List (Atom x.1)) (I := fun (pre : List (Atom x.1)) W => LinkI B w X.heap.size p vb vn y (D.nxt (linkL D.nx y (pre.map (fun q : Atom x.1 => q.1)))) W) (fun _ _ _ h k => LinkI.below h (by omega) k) (fun _ _ h => LinkI.sz h))
    (fun _ _ _ _ _ hs _ _ => hs) hI0
    (fun k => { tmps := #[.pointer (some ⟨p, 0, none⟩), .agg #[.int .u64 (x.1 : Int), .int .u64 (x.2 : Int)], .agg #[.int .u64 (y.1 : Int), .int .u64 (y.2 : Int)], .pointer (some ⟨w.heap.size, 0, none⟩), .pointer (some ⟨w.heap.size + 1, 0, none⟩), .pointer (some ⟨w.heap.size + 1 + 1, 0, none⟩), (.int .i64 (k.1 : Int)), .agg #[.int .u64 (x.1 : Int), .int .u64 (x.2 : Int)], .func (.func 58) #[] #[.pointer (some ⟨w.heap.size + 1 + 1 + 1, 0, none⟩)], (.int .i64 (k.1 : Int)), undef, undef, undef, undef, undef, undef, undef, undef, undef, undef, undef, undef, undef, undef, undef], defers := [] }) ?assign ?body ?done ?stop
  case assign =>
    intro l k W K hK
    gi_wp2
    exact hK
  case body =>
    rintro l pre k W hI hlen
    have hk := k.2.1
    have hll := linkL_len D.nx y (pre.map (·.1))
    have hok := linkL_ok hy (pre.map (·.1)) hnx
    have hkl := hfit k.1 hk k.2.2
    have HSN := hid (linkL_snoc D.nx y (pre.map (·.1)) k.1)
    have HMP : Hid ((pre ++ [k]).map (·.1) = pre.map (·.1) ++ [k.1]) := by simp [Hid]
    generalize linkL D.nx y (pre.map (·.1)) = nxs at *
    obtain ⟨z, hz⟩ : ∃ z, nxs[k.1]? = some z := ⟨nxs[k.1], List.getElem?_eq_getElem (by omega)⟩
    have hzD : nxs.getD k.1 (0, 0) = z := by rw [List.getD_eq_getElem?_getD, hz]; rfl
    rw [hzD] at HSN
    have hzok : z.ok := hok z (List.mem_of_getElem? hz)
    obtain ⟨g, c, cur, hv, hgB, hgc, hlc, hcm, hcs, hct⟩ := RowS.some hI.pl.on (show 0 < nxs.length by omega)
    have hv' : vn = .slice (some ⟨g, 0, none⟩) nxs.length c := hv
    have hgW : g < w.heap.size := hI.nX g (by rw [hv']; rfl)
    have hkI : (k.1 : Int) < (nxs.length : Int) := by omega
    have s0 : W.cell? ⟨g, k.1 * 2, none⟩ = some (.int .u64 (z.1 : Int)) := (cell_of_take hgc hct (by show k.1 * 2 < nxs.length * 2; omega)).trans (setCells_get nxs k.1 z hz).1
    have s1 : W.cell? ⟨g, k.1 * 2 + 1, none⟩ = some (.int .u64 (z.2 : Int)) := (cell_of_take hgc hct (by show k.1 * 2 + 1 < nxs.length * 2; omega)).trans (setCells_get nxs k.1 z hz).2
    have sz := hI.sz
    have hgf : ∀ W', Below W.heap.size W W' → ∀ j, W'.frozen? ⟨g, j, none⟩ = false := fun W' h j => by
      have e := (h.block g (by omega)).trans hgc
      simp [World.frozen?, e]
    have key : ∀ W', Below W.heap.size W W' → W'.cell? ⟨w.heap.size, 0, none⟩ = some (.pointer (some ⟨p, 0, none⟩)) ∧ W'.cell? ⟨p, 1, none⟩ = some (.slice (some ⟨g, 0, none⟩) nxs.length c) ∧ W'.cell? ⟨g, k.1 * 2, none⟩ = some (.int .u64 (z.1 : Int)) ∧ W'.cell? ⟨g, k.1 * 2 + 1, none⟩ = some (.int .u64 (z.2 : Int)) ∧ W'.cell? ⟨w.heap.size + 1 + 1, 0, none⟩ = some (.int .u64 (y.1 : Int)) ∧ W'.cell? ⟨w.heap.size + 1 + 1, 1, none⟩ = some (.int .u64 (y.2 : Int)) := fun W' h =>
      ⟨(h.cell (cell_lt hI.c0)).trans hI.c0, ((h.cell (cell_lt hI.pl.cn)).trans hI.pl.cn).trans (by rw [hv']), (h.cell (cell_lt s0)).trans s0, (h.cell (cell_lt s1)).trans s1, (h.cell (cell_lt hI.c1)).trans hI.c1, (h.cell (cell_lt hI.c2)).trans hI.c2⟩
    have k0 := fun W' h => (key W' h).1
    have k1 := fun W' h => (key W' h).2.1
    have k2 := fun W' h => (key W' h).2.2.1
    have k3 := fun W' h => (key W' h).2.2.2.1
    have k4 := fun W' h => (key W' h).2.2.2.2.1
    have k5 := fun W' h => (key W' h).2.2.2.2.2
    clear key s0 s1 hct hcs hgc hz
    gi_wp2
    refine region_tail (C := fun W' => Below W.heap.size W W') 15 (by kernel_rfl) mixed (by kernel_rfl) ((Below.refl _ _).drew) rfl ?_
    dsimp only [List.take]
    refine wpQuietIn_step (fun _ _ _ _ => trivial) (fun K hK => ?_)
    go_simp
    refine ⟨.pointer (some ⟨p, 0, none⟩), fun w' hC => by simp [k0 w' hC], hK _ ?_⟩
    clear hK K
    refine wpQuietIn_step (fun _ _ _ _ => trivial) (fun K hK => ?_)
    go_simp
    refine ⟨_, fun _ _ => rfl, hK _ ?_⟩
    clear hK K
    refine wpQuietIn_step (fun _ _ _ _ => trivial) (fun K hK => ?_)
    go_simp
    refine ⟨_, fun _ _ => rfl, hK _ ?_⟩
    clear hK K
    refine wpQuietIn_step (fun _ _ _ _ => trivial) (fun K hK => ?_)
    go_simp
    refine ⟨.slice (some ⟨g, 0, none⟩) nxs.length c, fun w' hC => by simp [k1 w' hC], hK _ ?_⟩
    clear hK K
    refine wpQuietIn_step (fun _ _ _ _ => trivial) (fun K hK => ?_)
    go_simp
    refine ⟨_, fun _ _ => rfl, hK _ ?_⟩
    clear hK K
    refine wpQuietIn_step (fun _ _ _ _ => trivial) (fun K hK => ?_)
    go_simp
    refine ⟨.pointer (some ⟨p, 0, none⟩), fun w' hC => by simp [k0 w' hC], hK _ ?_⟩
    clear hK K
    refine wpQuietIn_step (fun _ _ _ _ => trivial) (fun K hK => ?_)
    go_simp
    refine ⟨_, fun _ _ => rfl, hK _ ?_⟩
    clear hK K
    refine wpQuietIn_step (fun _ _ _ _ => trivial) (fun K hK => ?_)
    go_simp
    refine ⟨_, fun _ _ => rfl, hK _ ?_⟩
    clear hK K
    refine wpQuietIn_step (fun _ _ _ _ => trivial) (fun K hK => ?_)
    go_simp
    refine ⟨.slice (some ⟨g, 0, none⟩) nxs.length c, fun w' hC => by simp [k1 w' hC], hK _ ?_⟩
    clear hK K
    refine wpQuietIn_step (fun _ _ _ _ => trivial) (fun K hK => ?_)
    go_simp
    refine ⟨_, fun _ _ => rfl, hK _ ?_⟩
    clear hK K
    refine wpQuietIn_step (fun _ _ _ _ => trivial) (fun K hK => ?_)
    go_simp
    refine ⟨_, fun _ _ => rfl, hK _ ?_⟩
    clear hK K
    refine wpQuietIn_step (fun _ _ _ _ => trivial) (fun K hK => ?_)
    go_simp
    refine ⟨.agg #[.int .u64 (z.1 : Int), .int .u64 (z.2 : Int)], fun w' hC => by simp [k2 w' hC, k3 w' hC], hK _ ?_⟩
    clear hK K
    refine wpQuietIn_step (fun _ _ _ _ => trivial) (fun K hK => ?_)
    go_simp
    refine ⟨.agg #[.int .u64 (y.1 : Int), .int .u64 (y.2 : Int)], fun w' hC => by simp [k4 w' hC, k5 w' hC], hK _ ?_⟩
    clear hK K
    refine wpQuietIn_step (fun _ _ _ _ => trivial) (fun K hK => ?_)
    go_simp
    refine ⟨_, fun w' hC => (CallsIn.inRound l (callsIn_wide.2 (union_nat z y hzok hy w'))).mono (fun e w'' hx => ⟨hx.1, hC.trans (hx.2.mono hC.size)⟩), hK _ ?_⟩
    clear hK K
    refine wpQuietIn_step (fun _ _ _ _ => trivial) (fun K hK => ?_)
    go_simp
    refine ⟨_, fun _ _ => rfl, hK _ ?_⟩
    clear hK K
    refine wpQuietIn_nil ?_
    intro w3 hB3
    have d0 := k2 w3 hB3
    have d1 := k3 w3 hB3
    have df := hgf w3 hB3
    have hB1 : Below 1 W w3 := hB3.mono (by omega)
    have hKO := keeps_below hB3
    have hI3 := hI.below (by omega) (hB3.mono hI.sz)
    clear k0 k1 k2 k3 k4 k5 hgf
    rw [wpOpsIn_cons]
    refine wpOpIn_step rfl (fun K hK => ?_)
    go_simp
    refine hK _ _ ?_
    clear hK K
    simp only [wpOpsIn]
    refine ⟨hKO.trans ((KeepsOthers.setCell _ _ _).trans (KeepsOthers.setCell _ _ _)), ?_, ?_⟩
    · exact (hB1.setCell (p := ⟨g, k.1 * 2, none⟩) (by show 1 ≤ g; omega) _).setCell (p := ⟨g, k.1 * 2 + 1, none⟩) (by show 1 ≤ g; omega) _
    · show LinkI B w X.heap.size p vb vn y (D.nxt (linkL D.nx y ((pre ++ [k]).map (·.1)))) _
      rw [HMP.out, HSN.out]
      exact hI3.store hv' hgW (by omega) _
  case done =>
    rintro D' ys W hD' hS hI hK
    have hSt : linkL D.nx y (ys.map (·.1)) = linkL D.nx y (bitsN x.1) := by rw [hS]
    rw [hSt] at hI
    gi_wp2
    have hT2 := hI.tn.below (belowK_b (w := X) (Nat.le_refl _) W D' _ (.deferred none) hD' hK rfl rfl) (by omega)
    have hP2 := (hI.below (by omega) (belowK_b (w := X) (Nat.le_refl _) W D' _ (.deferred none) hD' hK rfl rfl)).pl
    refine ⟨by simp, .inl ⟨_, _, rfl, run_takeDeferred hK, ?_⟩⟩
    refine ⟨.tuple #[], ?_, rfl, hP2, hT2⟩
    exact results_none rfl _ _ _
  case stop =>
    rintro D' c pre W _ _ h _
    exact h.elim
end Go.Proofs.YtjhmlcilabnlbaaDoor
/- The program: has a set of bytes a byte; the plan's pure side. -/
namespace Go.Proofs.YtjhmlcilabnlbaaDoor
open Go.RowKit

/-- The word of a set of bytes in which a byte stands. -/
def wordAt (x0 x1 x2 x3 : Int) (b : Nat) : Int := if b / 64 = 0 then x0 else if b / 64 = 1 then x1 else if b / 64 = 2 then x2 else x3
def hasW (x0 x1 x2 x3 : Int) (b : Nat) : Bool := bits BinOp.and IntKind.u64 (wordAt x0 x1 x2 x3 b / 2 ^ (b % 64)) 1 == 1

set_option maxHeartbeats 1000000 in
theorem has_any (x0 x1 x2 x3 : Int) (b : Nat) (hb : b < 256) (w : World) :
    Calls Tryd.prog 57 #[.agg #[.int .u64 x0, .int .u64 x1, .int .u64 x2, .int .u64 x3], .int .u8 (b : Int)] w fun e w' => e = .returned (.bool (hasW x0 x1 x2 x3 b)) ∧ Below w.heap.size w w' := by
  have hr : ((b : Int) % 64).toNat = b % 64 := by omega
  have hq : (b : Int).tdiv 64 = ((b / 64 : Nat) : Int) := by rw [Int.tdiv_eq_ediv_of_nonneg (by omega)]; omega
  have hc : b / 64 = 0 ∨ b / 64 = 1 ∨ b / 64 = 2 ∨ b / 64 = 3 := by omega
  rcases hc with h0 | h0 | h0 | h0
  · have HW : Hid (hasW x0 x1 x2 x3 b = (bits BinOp.and IntKind.u64 (x0 / 2 ^ (b % 64)) 1 == 1)) := by unfold Hid hasW wordAt; rw [if_pos h0]
    rw [h0] at hq
    clear h0
    go_enter Tryd.func57, Tryd.ntmps57
    go_wp2
    go_ret
    exact ⟨ret_bool HW.out.symm, (Below.refl _ _).alloc (Nat.le_refl _) _⟩
  · have HW : Hid (hasW x0 x1 x2 x3 b = (bits BinOp.and IntKind.u64 (x1 / 2 ^ (b % 64)) 1 == 1)) := by unfold Hid hasW wordAt; rw [if_neg (by omega), if_pos h0]
    rw [h0] at hq
    clear h0
    go_enter Tryd.func57, Tryd.ntmps57
    go_wp2
    go_ret
    exact ⟨ret_bool HW.out.symm, (Below.refl _ _).alloc (Nat.le_refl _) _⟩
  · have HW : Hid (hasW x0 x1 x2 x3 b = (bits BinOp.and IntKind.u64 (x2 / 2 ^ (b % 64)) 1 == 1)) := by unfold Hid hasW wordAt; rw [if_neg (by omega), if_neg (by omega), if_pos h0]
    rw [h0] at hq
    clear h0
    go_enter Tryd.func57, Tryd.ntmps57
    go_wp2
    go_ret
    exact ⟨ret_bool HW.out.symm, (Below.refl _ _).alloc (Nat.le_refl _) _⟩
  · have HW : Hid (hasW x0 x1 x2 x3 b = (bits BinOp.and IntKind.u64 (x3 / 2 ^ (b % 64)) 1 == 1)) := by unfold Hid hasW wordAt; rw [if_neg (by omega), if_neg (by omega), if_neg (by omega)]
    rw [h0] at hq
    clear h0
    go_enter Tryd.func57, Tryd.ntmps57
    go_wp2
    go_ret
    exact ⟨ret_bool HW.out.symm, (Below.refl _ _).alloc (Nat.le_refl _) _⟩

/-- A part of a rule, as its neighbours see it. -/
structure Pc where
  fst : S2
  lst : S2
  em : Bool
def Pc.cells (a : Pc) : List Value := [.int .u64 (a.fst.1 : Int), .int .u64 (a.fst.2 : Int), .int .u64 (a.lst.1 : Int), .int .u64 (a.lst.2 : Int), .bool a.em]
def Pc.val (a : Pc) : Value := .agg #[.int .u64 (a.fst.1 : Int), .int .u64 (a.fst.2 : Int), .int .u64 (a.lst.1 : Int), .int .u64 (a.lst.2 : Int), .bool a.em]
/-- The bits of a set's atoms are below n. -/
def S2.under (a : S2) (n : Nat) : Prop := ∀ k, k < 64 → a.1.testBit k = true → k < n
structure Pc.ok (a : Pc) (n : Nat) : Prop where
  fst : a.fst.ok
  lst : a.lst.ok
  ff : a.fst.under n
  lf : a.lst.under n
theorem S2.under_or {a b : S2} {n : Nat} (ha : a.under n) (hb : b.under n) : (a.or b).under n := by
  intro k hk h
  simp only [S2.or, Nat.testBit_or, Bool.or_eq_true] at h
  exact h.elim (ha k hk) (hb k hk)
theorem S2.under_mono {a : S2} {n m : Nat} (h : a.under n) (hm : n ≤ m) : a.under m := fun k hk ht => Nat.lt_of_lt_of_le (h k hk ht) hm
theorem S2.under_zero (n : Nat) : S2.under (0, 0) n := by intro k _ h; simp at h
theorem S2.under_bit {k n : Nat} (hk : k < n) (h64 : k < 64) : (S2.bit k).under n := by
  intro j _ h
  unfold S2.bit at h
  rw [if_pos h64] at h
  have : k = j := by simpa [Nat.testBit_two_pow] using h
  omega
theorem Pc.ok.mono {a : Pc} {n m : Nat} (h : a.ok n) (hm : n ≤ m) : a.ok m := ⟨h.fst, h.lst, S2.under_mono h.ff hm, S2.under_mono h.lf hm⟩

/-- What holds of a plan while it is made. -/
structure PlD.fine (D : PlD) : Prop where
  bg : ∀ a, a ∈ D.bg → a.ok
  nx : ∀ a, a ∈ D.nx → a.ok
  mt : ∀ b, b < 256 → (D.mt b).ok
  en : D.en.ok
  fit : ∀ b, b < 256 → (D.mt b).under D.nx.length

/-- A leaf. -/
def PlD.leafTo (D : PlD) (x0 x1 x2 x3 : Int) (m : Nat) : PlD :=
  { D with nx := D.nx ++ [(0, 0)], mt := fun b => if b < m ∧ hasW x0 x1 x2 x3 b = true then (D.mt b).or (S2.bit D.nx.length) else D.mt b }
def PlD.leaf (D : PlD) (x0 x1 x2 x3 : Int) : PlD := D.leafTo x0 x1 x2 x3 256
def leafPc (n : Nat) : Pc := ⟨S2.bit n, S2.bit n, false⟩
theorem PlD.fine.leafTo {D : PlD} (h : D.fine) (x0 x1 x2 x3 : Int) (m : Nat) (hn : D.nx.length < 64) : (D.leafTo x0 x1 x2 x3 m).fine := by
  refine ⟨h.bg, ?_, ?_, h.en, ?_⟩
  · intro a ha
    rcases List.mem_append.1 ha with ha | ha
    · exact h.nx a ha
    · rw [List.mem_singleton] at ha; subst ha; exact S2.zero_ok
  · intro b hb
    show (if b < m ∧ hasW x0 x1 x2 x3 b = true then (D.mt b).or (S2.bit D.nx.length) else D.mt b).ok
    split
    · exact S2.or_ok (h.mt b hb) (S2.bit_ok (by omega))
    · exact h.mt b hb
  · intro b hb
    show (if b < m ∧ hasW x0 x1 x2 x3 b = true then (D.mt b).or (S2.bit D.nx.length) else D.mt b).under (D.nx ++ [(0, 0)]).length
    rw [List.length_append]
    split
    · exact S2.under_or (S2.under_mono (h.fit b hb) (by simp)) (S2.under_bit (by simp) hn)
    · exact S2.under_mono (h.fit b hb) (by simp)
theorem leafPc_ok {n m : Nat} (h : n < m) (h64 : n < 64) : (leafPc n).ok m := ⟨S2.bit_ok (by omega), S2.bit_ok (by omega), S2.under_bit h h64, S2.under_bit h h64⟩
theorem PlD.leafTo_zero (D : PlD) (x0 x1 x2 x3 : Int) : D.leafTo x0 x1 x2 x3 0 = D.nxt (D.nx ++ [(0, 0)]) := by
  unfold PlD.leafTo PlD.nxt
  congr 1
theorem PlD.leafTo_off (D : PlD) (x0 x1 x2 x3 : Int) (m : Nat) (h : hasW x0 x1 x2 x3 m = false) : D.leafTo x0 x1 x2 x3 (m + 1) = D.leafTo x0 x1 x2 x3 m := by
  unfold PlD.leafTo
  congr 1
  funext b
  by_cases hb : b = m
  · subst hb; rw [if_neg (by simp [h]), if_neg (by simp [h])]
  · by_cases h1 : b < m ∧ hasW x0 x1 x2 x3 b = true
    · rw [if_pos h1, if_pos ⟨by omega, h1.2⟩]
    · rw [if_neg h1, if_neg (fun e => h1 ⟨by omega, e.2⟩)]
/-- A plan in which one byte's set is another. -/
def PlD.at (D : PlD) (m : Nat) (z : S2) : PlD := { D with mt := fun b => if b = m then z else D.mt b }
theorem PlD.leafTo_on (D : PlD) (x0 x1 x2 x3 : Int) (m : Nat) (h : hasW x0 x1 x2 x3 m = true) : D.leafTo x0 x1 x2 x3 (m + 1) = (D.leafTo x0 x1 x2 x3 m).at m ((D.mt m).or (S2.bit D.nx.length)) := by
  unfold PlD.leafTo PlD.at
  congr 1
  funext b
  by_cases hb : b = m
  · subst hb; rw [if_pos ⟨by omega, h⟩]; simp
  · simp only [if_neg hb]
    by_cases h1 : b < m ∧ hasW x0 x1 x2 x3 b = true
    · rw [if_pos h1, if_pos ⟨by omega, h1.2⟩]
    · rw [if_neg h1, if_neg (fun e => h1 ⟨by omega, e.2⟩)]
theorem PlD.leafTo_mt (D : PlD) (x0 x1 x2 x3 : Int) (m : Nat) : (D.leafTo x0 x1 x2 x3 m).mt m = D.mt m := by
  show (if m < m ∧ _ then _ else _) = _
  rw [if_neg (by omega)]

/-- One byte's set stored. -/
theorem PlanIn.storem {B p : Nat} {w : World} {vb vn : Value} {D : PlD} (h : PlanIn B w p vb vn D) {m : Nat} (hm : m < 256) (z : S2) :
    PlanIn B ((w.setCell ⟨p, 2 + m * 2, none⟩ (.int .u64 (z.1 : Int))).setCell ⟨p, 2 + m * 2 + 1, none⟩ (.int .u64 (z.2 : Int))) p vb vn (D.at m z) := by
  have other : ∀ j, j ≠ p → ((w.setCell ⟨p, 2 + m * 2, none⟩ (.int .u64 (z.1 : Int))).setCell ⟨p, 2 + m * 2 + 1, none⟩ (.int .u64 (z.2 : Int))).heap[j]? = w.heap[j]? := fun j hj => (Below.heap_setCell _ _ _ _ hj).trans (Below.heap_setCell _ _ _ _ hj)
  obtain ⟨cs, hc, h1, h2, h3, h4, h5, h6⟩ := h.blk
  refine ⟨h.pge, ⟨(cs.setIfInBounds (2 + m * 2) (.int .u64 (z.1 : Int))).setIfInBounds (2 + m * 2 + 1) (.int .u64 (z.2 : Int)), hset (hset hc _) _, by simpa using h1, ?_, ?_, ?_, ?_, ?_⟩, h.ob.keep (fun j hj => other j (fun e => h.ab (e ▸ hj))), h.on.keep (fun j hj => other j (fun e => h.an (e ▸ hj))), h.ab, h.an, h.abn⟩
  · rw [Array.getElem?_setIfInBounds_ne (by omega), Array.getElem?_setIfInBounds_ne (by omega)]; exact h2
  · rw [Array.getElem?_setIfInBounds_ne (by omega), Array.getElem?_setIfInBounds_ne (by omega)]; exact h3
  · intro b hb
    by_cases e : b = m
    · subst e
      have hz : (D.at b z).mt b = z := by show (if b = b then z else D.mt b) = z; rw [if_pos rfl]
      rw [hz]
      constructor
      · rw [Array.getElem?_setIfInBounds_ne (by omega), Array.getElem?_setIfInBounds_self_of_lt (by omega)]
      · rw [Array.getElem?_setIfInBounds_self_of_lt (by simp; omega)]
    · have hz : (D.at m z).mt b = D.mt b := by show (if b = m then z else D.mt b) = _; rw [if_neg e]
      rw [hz]
      constructor
      · rw [Array.getElem?_setIfInBounds_ne (by omega), Array.getElem?_setIfInBounds_ne (by omega)]; exact (h4 b hb).1
      · rw [Array.getElem?_setIfInBounds_ne (by omega), Array.getElem?_setIfInBounds_ne (by omega)]; exact (h4 b hb).2
  · rw [Array.getElem?_setIfInBounds_ne (by omega), Array.getElem?_setIfInBounds_ne (by omega)]; exact h5
  · rw [Array.getElem?_setIfInBounds_ne (by omega), Array.getElem?_setIfInBounds_ne (by omega)]; exact h6

/-- Another list of what may come behind. -/
theorem PlanIn.storen {B p : Nat} {w : World} {vb vn v' : Value} {D : PlD} {l : List S2} (h : PlanIn B w p vb vn D) (hl : RowS w B v' l) (hp : v'.ownBlock ≠ some p) (hb : ∀ g, vb.ownBlock = some g → v'.ownBlock ≠ some g) :
    PlanIn B (w.setCell ⟨p, 1, none⟩ v') p vb v' (D.nxt l) := by
  have other : ∀ j, j ≠ p → (w.setCell ⟨p, 1, none⟩ v').heap[j]? = w.heap[j]? := fun j hj => Below.heap_setCell _ _ _ _ hj
  obtain ⟨cs, hc, h1, h2, h3, h4, h5, h6⟩ := h.blk
  refine ⟨h.pge, ⟨cs.setIfInBounds 1 v', hset hc _, by simpa using h1, ?_, ?_, ?_, ?_, ?_⟩, h.ob.keep (fun j hj => other j (fun e => h.ab (e ▸ hj))), hl.keep (fun j hj => other j (fun e => hp (e ▸ hj))), h.ab, hp, hb⟩
  · rw [Array.getElem?_setIfInBounds_ne (by omega)]; exact h2
  · rw [Array.getElem?_setIfInBounds_self_of_lt (by omega)]
  · intro b hb
    exact ⟨by rw [Array.getElem?_setIfInBounds_ne (by omega)]; exact (h4 b hb).1, by rw [Array.getElem?_setIfInBounds_ne (by omega)]; exact (h4 b hb).2⟩
  · rw [Array.getElem?_setIfInBounds_ne (by omega)]; exact h5
  · rw [Array.getElem?_setIfInBounds_ne (by omega)]; exact h6
end Go.Proofs.YtjhmlcilabnlbaaDoor
/- The program: item. -/
namespace Go.Proofs.YtjhmlcilabnlbaaDoor
open Go.RowKit

theorem single_small (s : ByteArray) (i : Nat) : singleP ⟨#[92, 93, 45, 94]⟩ s i = P.small s i := by
  unfold singleP P.small
  by_cases h : P.bt s i = 92
  · rw [if_pos h, if_pos h]
  · rw [if_neg h, if_neg h]
    have hr := bt_range s i
    have hp := pk_range s i
    rw [small_row hp.1 hp.2]
    by_cases hn : P.bt s i < 0
    · have e : pk s i = 0 := by unfold pk; rw [if_pos hn]
      rw [e, if_neg (by decide), if_neg (by omega)]
    · have e : pk s i = P.bt s i := by unfold pk; rw [if_neg hn]
      rw [e]
      by_cases hc : 33 ≤ P.bt s i ∧ P.bt s i ≤ 126 ∧ P.bt s i ≠ 93 ∧ P.bt s i ≠ 45 ∧ P.bt s i ≠ 94
      · rw [if_pos hc, if_pos]
        simp [hc.1, hc.2.1, hc.2.2.1, hc.2.2.2.1, hc.2.2.2.2, h]
      · rw [if_neg hc, if_neg]
        intro hx
        apply hc
        simp only [Bool.and_eq_true, decide_eq_true_eq, Bool.not_eq_true', Bool.or_eq_false_iff, beq_eq_false_iff_ne] at hx
        exact ⟨hx.1.1, hx.1.2, hx.2.1.1.2, hx.2.1.2, hx.2.2⟩

/-- What an item comes to. -/
def ItemF (r : P.PR (Int × Int)) (a0 a1 a2 a3 : Int) (i : Nat) (k : Bool) : Prop :=
  match r with
  | .ok lh j => k = true ∧ i = j ∧ W4 a0 a1 a2 a3 (rg lh.1 lh.2)
  | .bad p => k = false ∧ i = p
  | .out => False

theorem item_bad1 {s : ByteArray} {i p : Nat} (h : P.small s i = .bad p) : P.item s i = .bad p := by unfold P.item; rw [h]; rfl
theorem item_one {s : ByteArray} {i j : Nat} {lo : Int} (h : P.small s i = .ok lo j) (h2 : P.bt s j ≠ 45) : P.item s i = .ok (lo, lo) j := by
  unfold P.item; rw [h]; show (if P.bt s j = 45 then _ else _) = _; rw [if_neg h2]
theorem item_bad2 {s : ByteArray} {i j p : Nat} {lo : Int} (h : P.small s i = .ok lo j) (h2 : P.bt s j = 45) (h3 : P.small s (j + 1) = .bad p) : P.item s i = .bad p := by
  unfold P.item; rw [h]; show (if P.bt s j = 45 then _ else _) = _; rw [if_pos h2, h3]; rfl
theorem item_low {s : ByteArray} {i j k : Nat} {lo hi : Int} (h : P.small s i = .ok lo j) (h2 : P.bt s j = 45) (h3 : P.small s (j + 1) = .ok hi k) (h4 : hi < lo) : P.item s i = .bad (j + 1) := by
  unfold P.item; rw [h]; show (if P.bt s j = 45 then _ else _) = _; rw [if_pos h2, h3]; show (if hi < lo then _ else _) = _; rw [if_pos h4]
theorem item_two {s : ByteArray} {i j k : Nat} {lo hi : Int} (h : P.small s i = .ok lo j) (h2 : P.bt s j = 45) (h3 : P.small s (j + 1) = .ok hi k) (h4 : ¬ hi < lo) : P.item s i = .ok (lo, hi) k := by
  unfold P.item; rw [h]; show (if P.bt s j = 45 then _ else _) = _; rw [if_pos h2, h3]; show (if hi < lo then _ else _) = _; rw [if_neg h4]

def OutS (s : ByteArray) (b o : Nat) (F : Int → Int → Int → Int → Nat → Bool → Prop) (w : World) (e : Ending) (w' : World) : Prop :=
  ∃ (a0 a1 a2 a3 : Int) (i' : Nat) (k : Bool), e = .returned (.tuple #[.agg #[.int .u64 a0, .int .u64 a1, .int .u64 a2, .int .u64 a3], .bool k]) ∧ QB w' b s i' o ∧ Only b w w' ∧ i' ≤ s.size ∧ F a0 a1 a2 a3 i' k

theorem Fit2.okD {r : P.PR Int} {v : Int} {i : Nat} (h : Fit2 r v i true) : r = .ok v i := by
  cases r with
  | ok a j => obtain ⟨-, rfl, rfl⟩ := h; rfl
  | bad p => cases h.1
  | out => exact h.elim
theorem Fit2.badD {r : P.PR Int} {v : Int} {i : Nat} (h : Fit2 r v i false) : r = .bad i := by
  cases r with
  | ok a j => cases h.1
  | bad p => rw [h.2]
  | out => exact h.elim

theorem QB.put4 {w : World} {b g : Nat} {s : ByteArray} {i o : Nat} (h : QB w b s i o) (hg : b ≠ g) (x0 x1 x2 x3 : Value) : QB ((((w.setCell ⟨g, 0, none⟩ x0).setCell ⟨g, 1, none⟩ x1).setCell ⟨g, 2, none⟩ x2).setCell ⟨g, 3, none⟩ x3) b s i o :=
  (Below.heap_setCell _ _ _ _ hg).trans ((Below.heap_setCell _ _ _ _ hg).trans ((Below.heap_setCell _ _ _ _ hg).trans ((Below.heap_setCell _ _ _ _ hg).trans h)))
theorem Only.put4 {x w : World} {b g : Nat} (h : Only b x w) (hg : x.heap.size ≤ g) (x0 x1 x2 x3 : Value) : Only b x ((((w.setCell ⟨g, 0, none⟩ x0).setCell ⟨g, 1, none⟩ x1).setCell ⟨g, 2, none⟩ x2).setCell ⟨g, 3, none⟩ x3) :=
  (((h.new (p := ⟨g, 0, none⟩) hg _).new (p := ⟨g, 1, none⟩) hg _).new (p := ⟨g, 2, none⟩) hg _).new (p := ⟨g, 3, none⟩) hg _

set_option maxHeartbeats 4000000 in
theorem pitem_any (b : Nat) (s : ByteArray) (i o : Nat) (w : World) (hs : s.size ≤ 400) (hR : QB w b s i o) (hi : i ≤ s.size) :
    Calls Tryd.prog 95 #[.pointer (some ⟨b, 0, none⟩)] w fun e w' => OutS s b o (ItemF (P.item s i)) w e w' := by
  have hlt := hR.lt
  have hQ0 : QB (w.alloc (.cells #[.int .u64 0, .int .u64 0, .int .u64 0, .int .u64 0] 46)) b s i o := heap_alloc_old hR hlt
  have hS0 : SB (w.alloc (.cells #[.int .u64 0, .int .u64 0, .int .u64 0, .int .u64 0] 46)) w.heap.size 0 0 0 0 := heap_alloc_at _ _
  have hO0 : Only b w (w.alloc (.cells #[.int .u64 0, .int .u64 0, .int .u64 0, .int .u64 0] 46)) := (Only.refl _ _).alloc _
  go_enter Tryd.func95, Tryd.ntmps95
  go_wp2_with fail
  refine (single_any _ _ _ _ _ _ hs hQ0 hi).mono ?_
  rintro e w1 ⟨lo, i1, k1, rfl, hR1, hO1, hlo0, hlo1, hi1, hf1⟩
  rw [single_small] at hf1
  have hS1 : SB w1 w.heap.size 0 0 0 0 := (hO1.block _ (by simp) (by omega)).trans hS0
  have hX1 := hO0.trans hO1
  cases k1 with
  | false =>
    have HI := hid (item_bad1 hf1.badD)
    clear hf1
    have s0 := hS1.c0
    have s1 := hS1.c1
    have s2 := hS1.c2
    have s3 := hS1.c3
    have sf := hS1.fz
    go_wp2_with fail
    have hF := (((hS1.s0 0).s1 0).s2 0).s3 0
    have r0 := hF.c0
    have r1 := hF.c1
    have r2 := hF.c2
    have r3 := hF.c3
    refine bodyPost_ret (v := .tuple #[.agg #[.int .u64 0, .int .u64 0, .int .u64 0, .int .u64 0], .bool false]) (by simp [results, Tryd.results95, go_sem, r0, r1, r2, r3]) rfl ⟨0, 0, 0, 0, i1, false, rfl, hR1.put4 (by omega) _ _ _ _, hX1.put4 (Nat.le_refl _) _ _ _ _, hi1, ?_⟩
    rw [HI.out]; exact ⟨rfl, rfl⟩
  | true =>
    have HSM := hid hf1.okD
    clear hf1
    have HE := hid (pk_eq (s := s) (i := i1) (c := 45) (by omega))
    have d1 := hR1.c1
    have df := hR1.fz 1
    cases hd : (pk s i1 == 45) with
    | false =>
      have HI := hid (item_one HSM.out (ne_of_beq_false (by rw [← HE.out]; exact hd)))
      go_wp2_with fail
      refine (peek_any _ _ _ _ _ hR1).mono ?_
      rintro e w2 ⟨rfl, n2, rfl⟩
      go_wp2_with fail
      refine (span_any lo lo _ hlo0 (by omega) hlo1).mono ?_
      rintro e w3 ⟨a0, a1, a2, a3, rfl, hW3, hB3⟩
      have HW3 := hid hW3
      clear hW3
      have hO3 : Only b w1 w3 := ((Only.refl _ _).drewN n2).trans (Only.ofBelow hB3)
      have hw1 : w.heap.size < w1.heap.size := by have := hO1.size; simp at this; omega
      have hS3 : SB w3 w.heap.size 0 0 0 0 := (hO3.block _ hw1 (by omega)).trans hS1
      have hR3 : QB w3 b s i1 o := (hB3.block b (by have := hR1.lt; simpa using this)).trans hR1
      have hX3 := hX1.trans hO3
      have s0 := hS3.c0
      have s1 := hS3.c1
      have s2 := hS3.c2
      have s3 := hS3.c3
      have sf := hS3.fz
      go_wp2_with fail
      have hF := (((hS3.s0 a0).s1 a1).s2 a2).s3 a3
      have r0 := hF.c0
      have r1 := hF.c1
      have r2 := hF.c2
      have r3 := hF.c3
      refine bodyPost_ret (v := .tuple #[.agg #[.int .u64 a0, .int .u64 a1, .int .u64 a2, .int .u64 a3], .bool true]) (by simp [results, Tryd.results95, go_sem, r0, r1, r2, r3]) rfl ⟨a0, a1, a2, a3, i1, true, rfl, hR3.put4 (by omega) _ _ _ _, hX3.put4 (Nat.le_refl _) _ _ _ _, hi1, ?_⟩
      rw [HI.out]; exact ⟨rfl, rfl, HW3.out⟩
    | true =>
      have h45 : P.bt s i1 = 45 := eq_of_beq (by rw [← HE.out]; exact hd)
      have hl1 := lt_of_bt (s := s) (i := i1) (by omega)
      have H45 := hid h45
      clear h45
      go_wp2_with fail
      refine (peek_any _ _ _ _ _ hR1).mono ?_
      rintro e w2 ⟨rfl, n2, rfl⟩
      go_wp2_with fail
      refine (single_any _ _ _ (i1 + 1) _ _ hs ((hR1.drewN _).set1 (by omega)) (by omega)).mono ?_
      rintro e w3 ⟨hh, i3, k3, rfl, hR3, hO3', hh0, hh1, hi3, hf3⟩
      rw [single_small] at hf3
      have hO3 : Only b w1 w3 := (Only.setCell (p := ⟨b, 1, none⟩) ((Only.refl _ _).drewN n2) rfl _).trans hO3'
      have hw1 : w.heap.size < w1.heap.size := by have := hO1.size; simp at this; omega
      have hS3 : SB w3 w.heap.size 0 0 0 0 := (hO3.block _ hw1 (by omega)).trans hS1
      have hX3 := hX1.trans hO3
      have e1 := hR3.c1
      have ef := hR3.fz 1
      have s0 := hS3.c0
      have s1 := hS3.c1
      have s2 := hS3.c2
      have s3 := hS3.c3
      have sf := hS3.fz
      cases k3 with
      | false =>
        have HI := hid (item_bad2 HSM.out H45.out hf3.badD)
        clear hf3
        go_wp2_with fail
        have hF := (((hS3.s0 0).s1 0).s2 0).s3 0
        have r0 := hF.c0
        have r1 := hF.c1
        have r2 := hF.c2
        have r3 := hF.c3
        refine bodyPost_ret (v := .tuple #[.agg #[.int .u64 0, .int .u64 0, .int .u64 0, .int .u64 0], .bool false]) (by simp [results, Tryd.results95, go_sem, r0, r1, r2, r3]) rfl ⟨0, 0, 0, 0, i3, false, rfl, hR3.put4 (by omega) _ _ _ _, hX3.put4 (Nat.le_refl _) _ _ _ _, hi3, ?_⟩
        rw [HI.out]; exact ⟨rfl, rfl⟩
      | true =>
        have HS3 := hid hf3.okD
        clear hf3
        by_cases hl : hh < lo
        · have HI := hid (item_low HSM.out H45.out HS3.out hl)
          go_wp2_with fail
          have hS4 := hS3.other (p := ⟨b, 1, none⟩) (by show w.heap.size ≠ b; omega) (.int .i64 ((i1 : Int) + 1))
          have hR4 := hR3.set1 (x := (i1 : Int) + 1) (j := i1 + 1) (by omega)
          have hX4 := Only.setCell (p := ⟨b, 1, none⟩) hX3 rfl (.int .i64 ((i1 : Int) + 1))
          have hF := (((hS4.s0 0).s1 0).s2 0).s3 0
          have r0 := hF.c0
          have r1 := hF.c1
          have r2 := hF.c2
          have r3 := hF.c3
          refine bodyPost_ret (v := .tuple #[.agg #[.int .u64 0, .int .u64 0, .int .u64 0, .int .u64 0], .bool false]) (by simp [results, Tryd.results95, go_sem, r0, r1, r2, r3]) rfl ⟨0, 0, 0, 0, i1 + 1, false, rfl, hR4.put4 (by omega) _ _ _ _, hX4.put4 (Nat.le_refl _) _ _ _ _, by omega, ?_⟩
          rw [HI.out]; exact ⟨rfl, rfl⟩
        · have HI := hid (item_two HSM.out H45.out HS3.out hl)
          have hl' : decide (hh < lo) = false := by simpa using hl
          go_wp2_with fail
          refine (span_any lo hh _ hlo0 (by omega) hh1).mono ?_
          rintro e w4 ⟨a0, a1, a2, a3, rfl, hW4, hB4⟩
          have HW4 := hid hW4
          clear hW4
          have hw3 : w.heap.size < w3.heap.size := by have := hO3.size; omega
          have hS4 : SB w4 w.heap.size 0 0 0 0 := (hB4.block _ hw3).trans hS3
          have hR4 : QB w4 b s i3 o := (hB4.block b hR3.lt).trans hR3
          have hX4 := hX3.trans (Only.ofBelow hB4)
          clear s0 s1 s2 s3 sf
          have s0 := hS4.c0
          have s1 := hS4.c1
          have s2 := hS4.c2
          have s3 := hS4.c3
          have sf := hS4.fz
          go_wp2_with fail
          have hF := (((hS4.s0 a0).s1 a1).s2 a2).s3 a3
          have r0 := hF.c0
          have r1 := hF.c1
          have r2 := hF.c2
          have r3 := hF.c3
          refine bodyPost_ret (v := .tuple #[.agg #[.int .u64 a0, .int .u64 a1, .int .u64 a2, .int .u64 a3], .bool true]) (by simp [results, Tryd.results95, go_sem, r0, r1, r2, r3]) rfl ⟨a0, a1, a2, a3, i3, true, rfl, hR4.put4 (by omega) _ _ _ _, hX4.put4 (Nat.le_refl _) _ _ _ _, hi3, ?_⟩
          rw [HI.out]; exact ⟨rfl, rfl, HW4.out⟩
end Go.Proofs.YtjhmlcilabnlbaaDoor
/- The program: brackets. -/
namespace Go.Proofs.YtjhmlcilabnlbaaDoor
open Go.RowKit

def ClsF (r : P.PR (Nat → Bool)) (a0 a1 a2 a3 : Int) (i : Nat) (k : Bool) : Prop :=
  match r with
  | .ok p j => k = true ∧ i = j ∧ W4 a0 a1 a2 a3 p
  | .bad p => k = false ∧ i = p
  | .out => False

theorem W4.or {a0 a1 a2 a3 b0 b1 b2 b3 : Int} {p q : Nat → Bool} (h : W4 a0 a1 a2 a3 p) (k : W4 b0 b1 b2 b3 q) : W4 (orW a0 b0) (orW a1 b1) (orW a2 b2) (orW a3 b3) (fun x => p x || q x) :=
  ⟨h.1.or k.1, h.2.1.or k.2.1, h.2.2.1.or k.2.2.1, h.2.2.2.or k.2.2.2⟩
theorem W4.flip {a0 a1 a2 a3 : Int} {p : Nat → Bool} (h : W4 a0 a1 a2 a3 p) : W4 (flipW a0) (flipW a1) (flipW a2) (flipW a3) (fun x => !p x) :=
  ⟨h.1.flip, h.2.1.flip, h.2.2.1.flip, h.2.2.2.flip⟩
theorem W4.empty : W4 0 0 0 0 (fun _ => false) := ⟨Wd.zero, Wd.zero, Wd.zero, Wd.zero⟩
theorem W4.any {a0 a1 a2 a3 : Int} {p : Nat → Bool} (h : W4 a0 a1 a2 a3 p) : (a0 = 0 ∧ a1 = 0 ∧ a2 = 0 ∧ a3 = 0) ↔ ∀ x, x < 256 → p x = false := by
  rw [h.1.none, h.2.1.none, h.2.2.1.none, h.2.2.2.none]
  constructor
  · rintro ⟨h0, h1, h2, h3⟩ x hx
    by_cases e0 : x < 64
    · exact h0 x e0
    · by_cases e1 : x < 128
      · have := h1 (x - 64) (by omega); rwa [show 64 + (x - 64) = x from by omega] at this
      · by_cases e2 : x < 192
        · have := h2 (x - 128) (by omega); rwa [show 128 + (x - 128) = x from by omega] at this
        · have := h3 (x - 192) (by omega); rwa [show 192 + (x - 192) = x from by omega] at this
  · intro h
    exact ⟨fun j hj => h j (by omega), fun j hj => h (64 + j) (by omega), fun j hj => h (128 + j) (by omega), fun j hj => h (192 + j) (by omega)⟩

theorem items_next {s : ByteArray} {f i j : Nat} {acc : Nat → Bool} {lh : Int × Int} (h : P.item s i = .ok lh j) : P.items s (f + 1) i acc = if P.bt s j = 93 then .ok (P.add acc lh.1 lh.2) j else P.items s f j (P.add acc lh.1 lh.2) := by
  show (P.item s i).bind _ = _
  rw [h]; rfl
theorem items_bad {s : ByteArray} {f i p : Nat} {acc : Nat → Bool} (h : P.item s i = .bad p) : P.items s (f + 1) i acc = .bad p := by
  show (P.item s i).bind _ = _
  rw [h]; rfl

theorem SB.put4 {w : World} {g g' : Nat} {a0 a1 a2 a3 : Int} (h : SB w g a0 a1 a2 a3) (hg : g ≠ g') (x0 x1 x2 x3 : Value) : SB ((((w.setCell ⟨g', 0, none⟩ x0).setCell ⟨g', 1, none⟩ x1).setCell ⟨g', 2, none⟩ x2).setCell ⟨g', 3, none⟩ x3) g a0 a1 a2 a3 :=
  (Below.heap_setCell _ _ _ _ hg).trans ((Below.heap_setCell _ _ _ _ hg).trans ((Below.heap_setCell _ _ _ _ hg).trans ((Below.heap_setCell _ _ _ _ hg).trans h)))
theorem some_false (acc : Nat → Bool) (neg : Bool) : P.some256 acc neg = false ↔ ∀ x, x < 256 → (acc x != neg) = false := by
  unfold P.some256
  rw [List.any_eq_false]
  constructor
  · intro h x hx; have := h x (List.mem_range.2 hx); simpa using this
  · intro h x hx; have := h x (List.mem_range.1 hx); simp [this]

theorem Tryd.pt0 (w : World) (a0 a1 a2 a3 : Int) : (part 44 #[.int .u64 a0, .int .u64 a1, .int .u64 a2, .int .u64 a3] 0).run Tryd.prog w = .ok (.int .u64 a0) w := by kernel_rfl
theorem Tryd.pt1 (w : World) (a0 a1 a2 a3 : Int) : (part 44 #[.int .u64 a0, .int .u64 a1, .int .u64 a2, .int .u64 a3] 1).run Tryd.prog w = .ok (.int .u64 a1) w := by kernel_rfl
theorem Tryd.pt2 (w : World) (a0 a1 a2 a3 : Int) : (part 44 #[.int .u64 a0, .int .u64 a1, .int .u64 a2, .int .u64 a3] 2).run Tryd.prog w = .ok (.int .u64 a2) w := by kernel_rfl
theorem Tryd.pt3 (w : World) (a0 a1 a2 a3 : Int) : (part 44 #[.int .u64 a0, .int .u64 a1, .int .u64 a2, .int .u64 a3] 3).run Tryd.prog w = .ok (.int .u64 a3) w := by kernel_rfl
theorem Tryd.cells33 : Tryd.prog.cellsOf 44 = 1 := by kernel_rfl
theorem Tryd.info33 : ∃ i, Tryd.prog.info? 44 = some i := by
  cases h : Tryd.prog.info? 44 with
  | some i => exact ⟨i, rfl⟩
  | none =>
    have : (Tryd.prog.info? 44).isSome = true := by kernel_rfl
    rw [h] at this; cases this
theorem W4.congr {a0 a1 a2 a3 : Int} {p q : Nat → Bool} (h : W4 a0 a1 a2 a3 p) (e : ∀ x, x < 256 → p x = q x) : W4 a0 a1 a2 a3 q :=
  ⟨h.1.congr fun j hj => e _ (by omega), h.2.1.congr fun j hj => e _ (by omega), h.2.2.1.congr fun j hj => e _ (by omega), h.2.2.2.congr fun j hj => e _ (by omega)⟩
/-- Is no byte in the set? -/
def emptyS (a0 a1 a2 a3 : Int) : Bool := a0 == 0 && (a1 == 0 && (a2 == 0 && a3 == 0))
theorem run_eqS (w : World) (a0 a1 a2 a3 : Int) : (binOp .eql 46 (.agg #[.int .u64 a0, .int .u64 a1, .int .u64 a2, .int .u64 a3]) (.agg #[.int .u64 0, .int .u64 0, .int .u64 0, .int .u64 0])).run Tryd.prog w = .ok (.bool (emptyS a0 a1 a2 a3)) w := by
  obtain ⟨i, hi⟩ := Tryd.info33
  rw [run_eql_struct, run_equalIn_array w 9999 _ _ Tryd.underlying46 hi, Tryd.cells33]
  have e : ∀ (w : World) (a b : Int), (Op.equalIn 9999 44 (.int .u64 a) (.int .u64 b)).run Tryd.prog w = .ok (a == b) w := fun w a b => run_equalIn_int w 9998 44 .u64 .u64 a b Tryd.underlying44
  have p0 := Tryd.pt0
  have p1 := Tryd.pt1
  have p2 := Tryd.pt2
  have p3 := Tryd.pt3
  rw [show List.range 4 = [0, 1, 2, 3] from rfl]
  unfold emptyS
  simp only [Op.eqItems, Sem.run_bind, p0, e, Result.andThen_ok, Nat.zero_mul]
  cases h0 : (a0 == 0) <;> cases h1 : (a1 == 0) <;> cases h2 : (a2 == 0) <;> cases h3 : (a3 == 0) <;> simp [h1, h2, h3, p1, p2, p3, e]
theorem emptyS_iff (a0 a1 a2 a3 : Int) : emptyS a0 a1 a2 a3 = true ↔ (a0 = 0 ∧ a1 = 0 ∧ a2 = 0 ∧ a3 = 0) := by simp [emptyS]
theorem empty_pos {a0 a1 a2 a3 : Int} {acc : Nat → Bool} (h : W4 a0 a1 a2 a3 acc) : emptyS a0 a1 a2 a3 = !P.some256 acc false := by
  rw [Bool.eq_iff_iff, emptyS_iff, h.any, Bool.not_eq_true', some_false]
  constructor
  · intro k x hx; rw [k x hx]; rfl
  · intro k x hx; have := k x hx; simpa using this
theorem empty_neg {a0 a1 a2 a3 : Int} {acc : Nat → Bool} (h : W4 a0 a1 a2 a3 acc) : emptyS (flipW a0) (flipW a1) (flipW a2) (flipW a3) = !P.some256 acc true := by
  rw [Bool.eq_iff_iff, emptyS_iff, h.flip.any, Bool.not_eq_true', some_false]
  constructor
  · intro k x hx; have := k x hx; simpa using this
  · intro k x hx; have := k x hx; simpa using this

set_option maxHeartbeats 8000000 in
theorem brackets_any (F b : Nat) (s : ByteArray) (i o : Nat) (w : World) (hs : s.size ≤ 400) (hR : QB w b s i o) (hi : i < s.size) (hP : P.cls s F (i + 1) ≠ .out) :
    Calls Tryd.prog 81 #[.pointer (some ⟨b, 0, none⟩)] w fun e w' => OutS s b o (ClsF (P.cls s F (i + 1))) w e w' := by
  have hlt := hR.lt
  obtain ⟨R, hRd⟩ : ∃ R, R = P.items s F (if P.bt s (i + 1) = 94 then i + 1 + 1 else i + 1) (fun _ => false) := ⟨_, rfl⟩
  have HRn : Hid (R ≠ .out) := by
    intro e; apply hP; unfold P.cls; rw [← hRd, e]; rfl
  have HCL : Hid (P.cls s F (i + 1) = R.bind fun acc j => if P.some256 acc (P.bt s (i + 1) == 94) then .ok (fun x => acc x != (P.bt s (i + 1) == 94)) (j + 1) else .bad j) := by unfold Hid P.cls; rw [hRd]
  have HRd := hid hRd
  clear hP hRd
  have c1 := hR.c1
  have f1 := hR.fz 1
  have hQ0 : QB ((w.setCell ⟨b, 1, none⟩ (.int .i64 ((i : Int) + 1))).alloc (.cells #[.int .u64 0, .int .u64 0, .int .u64 0, .int .u64 0] 46)) b s (i + 1) o := heap_alloc_old (hR.set1 (by omega)) (by simpa using hlt)
  have hS0 : SB ((w.setCell ⟨b, 1, none⟩ (.int .i64 ((i : Int) + 1))).alloc (.cells #[.int .u64 0, .int .u64 0, .int .u64 0, .int .u64 0] 46)) w.heap.size 0 0 0 0 := by
    have h := heap_alloc_at (w.setCell ⟨b, 1, none⟩ (.int .i64 ((i : Int) + 1))) (.cells #[.int .u64 0, .int .u64 0, .int .u64 0, .int .u64 0] 46)
    rw [World.size_setCell] at h
    exact h
  have hO0 : Only b w ((w.setCell ⟨b, 1, none⟩ (.int .i64 ((i : Int) + 1))).alloc (.cells #[.int .u64 0, .int .u64 0, .int .u64 0, .int .u64 0] 46)) := (Only.setCell (p := ⟨b, 1, none⟩) (Only.refl _ _) rfl _).alloc _
  go_enter Tryd.func81, Tryd.ntmps81
  go_wp2_with fail
  refine (take_any 94 _ _ (i + 1) _ _ hs hQ0 (by omega)).mono ?_
  rintro e w1 ⟨rfl, hR1, hO1'⟩
  have hO1 : Only b w w1 := hO0.trans hO1'
  have hw1 : w.heap.size < w1.heap.size := by have := hO1'.size; simp at this; omega
  have hS1 : SB w1 w.heap.size 0 0 0 0 := (hO1'.block _ (by simp) (by omega)).trans hS0
  have hi1 : stp (ahd s (i + 1) 94) (i + 1) ≤ s.size := by
    cases h : ahd s (i + 1) 94 with
    | true => have := lt_of_bt (s := s) (i := i + 1) (by have := ahd_true h; omega); rw [stp_true]; omega
    | false => rw [stp_false]; omega
  go_wp2_with fail
  go_loopg [6, 7] F (fun g _ _ wr => ∃ (ir fr : Nat) (acc : Nat → Bool) (a0 a1 a2 a3 : Int), fr ≤ g ∧ ir ≤ s.size ∧ QB wr b s ir o ∧ SB wr w.heap.size 0 0 0 0 ∧ SB wr w1.heap.size a0 a1 a2 a3 ∧ Only b w wr ∧ w1.heap.size < wr.heap.size ∧ Hid (W4 a0 a1 a2 a3 acc) ∧ Hid (R = P.items s fr ir acc))
  case atStart =>
    refine ⟨_, F, fun _ => false, 0, 0, 0, 0, Nat.le_refl _, hi1, heap_alloc_old hR1 hR1.lt, heap_alloc_old hS1 hw1, heap_alloc_at _ _, hO1.alloc _, by simp, W4.empty, ?_⟩
    rw [HRd.out]
    congr 1
    by_cases h : P.bt s (i + 1) = 94
    · rw [if_pos h, show ahd s (i + 1) 94 = true from by simp [ahd, h], stp_true]
    · rw [if_neg h, show ahd s (i + 1) 94 = false from by simp [ahd, h], stp_false]
  case round =>
    obtain ⟨ir, fr, acc, a0, a1, a2, a3, hfr, hir, hR2, hS2, hA2, hO2, hz2, hW, hI⟩ := hrel
    clear hR1 hS1 hO1 hQ0 hS0 hO0 c1 f1 hO1'
    cases fr with
    | zero => exact absurd hI.out HRn.out
    | succ fr =>
      go_wp2_with fail
      refine (pitem_any _ _ _ _ _ hs hR2 hir).mono ?_
      rintro e w3 ⟨b0, b1, b2, b3, i3, k3, rfl, hR3, hO3, hi3, hf3⟩
      have hS3 : SB w3 w.heap.size 0 0 0 0 := (hO3.block _ (by omega) (by omega)).trans hS2
      have hA3 : SB w3 w1.heap.size a0 a1 a2 a3 := (hO3.block _ hz2 (by omega)).trans hA2
      have hz3 := hO3.size
      have HF := hid hf3
      clear hf3
      cases k3 with
      | false =>
        have HX : Hid (ClsF (P.cls s F (i + 1)) 0 0 0 0 i3 false) := by
          have h := HF.out
          cases hit : P.item s ir with
          | out => rw [hit] at h; exact h.elim
          | ok lh j => rw [hit] at h; cases h.1
          | bad p =>
            rw [hit] at h
            have e := h.2
            unfold Hid; rw [HCL.out, hI.out, items_bad hit]; exact ⟨rfl, e⟩
        have hSa : ∀ x, SB (w3.alloc x) w.heap.size 0 0 0 0 := fun x => heap_alloc_old hS3 (by omega)
        have s0 := fun x => (hSa x).c0
        have s1 := fun x => (hSa x).c1
        have s2 := fun x => (hSa x).c2
        have s3 := fun x => (hSa x).c3
        have sf := fun x => (hSa x).fz
        have hRa : ∀ x, QB (w3.alloc x) b s i3 o := fun x => heap_alloc_old hR3 hR3.lt
        have hXa : ∀ x, Only b w (w3.alloc x) := fun x => (hO2.trans hO3).alloc x
        go_wp2_with fail
        have hF := ((((hSa (.cells #[.int .u64 b0, .int .u64 b1, .int .u64 b2, .int .u64 b3] 46)).s0 0).s1 0).s2 0).s3 0
        have r0 := hF.c0
        have r1 := hF.c1
        have r2 := hF.c2
        have r3 := hF.c3
        refine bodyPost_ret (v := .tuple #[.agg #[.int .u64 0, .int .u64 0, .int .u64 0, .int .u64 0], .bool false]) (by simp [results, Tryd.results81, go_sem, r0, r1, r2, r3]) rfl ⟨0, 0, 0, 0, i3, false, rfl, (hRa (.cells #[.int .u64 b0, .int .u64 b1, .int .u64 b2, .int .u64 b3] 46)).put4 (by omega) _ _ _ _, (hXa (.cells #[.int .u64 b0, .int .u64 b1, .int .u64 b2, .int .u64 b3] 46)).put4 (Nat.le_refl _) _ _ _ _, hi3, ?_⟩
        exact HX.out
      | true =>
        have hA3a : ∀ x, SB (w3.alloc x) w1.heap.size a0 a1 a2 a3 := fun x => heap_alloc_old hA3 (by omega)
        have q0 := fun x => (hA3a x).c0
        have q1 := fun x => (hA3a x).c1
        have q2 := fun x => (hA3a x).c2
        have q3 := fun x => (hA3a x).c3
        obtain ⟨lo, hh, HIT⟩ : ∃ lo hh : Int, Hid (P.item s ir = .ok (lo, hh) i3 ∧ W4 b0 b1 b2 b3 (rg lo hh)) := by
          have h := HF.out
          cases hit : P.item s ir with
          | out => rw [hit] at h; exact h.elim
          | bad p => rw [hit] at h; cases h.1
          | ok lh j => rw [hit] at h; obtain ⟨-, rfl, h3⟩ := h; exact ⟨lh.1, lh.2, rfl, h3⟩
        have HW' : Hid (W4 (orW a0 b0) (orW a1 b1) (orW a2 b2) (orW a3 b3) (P.add acc lo hh)) := hW.out.or HIT.out.2
        have HI' := hid (hI.out.trans (items_next HIT.out.1))
        go_wp2_with fail
        refine (with_any _ _ _ _ _ _ _ _ _).mono ?_
        rintro e w4 ⟨rfl, hB4⟩
        have hz4 := hB4.size
        have hsz : (w3.alloc (.cells #[.int .u64 b0, .int .u64 b1, .int .u64 b2, .int .u64 b3] 46)).heap.size = w3.heap.size + 1 := by simp
        rw [hsz] at hz4
        have hS4 : SB w4 w.heap.size 0 0 0 0 := (hB4.block _ (by omega)).trans (heap_alloc_old hS3 (by omega))
        have hA4 : SB w4 w1.heap.size a0 a1 a2 a3 := (hB4.block _ (by omega)).trans (heap_alloc_old hA3 (by omega))
        have hR4 : QB w4 b s i3 o := (hB4.block b (by have := hR3.lt; omega)).trans (heap_alloc_old hR3 hR3.lt)
        have hX4 : Only b w w4 := ((hO2.trans hO3).alloc _).trans (Only.ofBelow hB4)
        clear q0 q1 q2 q3
        have t0 := hA4.c0
        have t1 := hA4.c1
        have t2 := hA4.c2
        have t3 := hA4.c3
        have tf := hA4.fz
        have hA5 := (((hA4.s0 (orW a0 b0)).s1 (orW a1 b1)).s2 (orW a2 b2)).s3 (orW a3 b3)
        have hR5 := hR4.put4 (g := w1.heap.size) (by omega) (.int .u64 (orW a0 b0)) (.int .u64 (orW a1 b1)) (.int .u64 (orW a2 b2)) (.int .u64 (orW a3 b3))
        have hS5 := hS4.put4 (g' := w1.heap.size) (by omega) (.int .u64 (orW a0 b0)) (.int .u64 (orW a1 b1)) (.int .u64 (orW a2 b2)) (.int .u64 (orW a3 b3))
        have hX5 := hX4.put4 (g := w1.heap.size) (by omega) (.int .u64 (orW a0 b0)) (.int .u64 (orW a1 b1)) (.int .u64 (orW a2 b2)) (.int .u64 (orW a3 b3))
        have HE := hid (pk_eq (s := s) (i := i3) (c := 93) (by omega))
        go_wp2_with fail
        refine (peek_any _ _ _ _ _ hR5).mono ?_
        rintro e w5 ⟨rfl, n5, rfl⟩
        cases h93 : (pk s i3 == 93) with
        | false =>
          have hb93 : P.bt s i3 ≠ 93 := ne_of_beq_false (by rw [← HE.out]; exact h93)
          have HI2 := HI'.out
          rw [if_neg hb93] at HI2
          have HI3 := hid HI2
          clear HI2 hb93
          go_wp2_with fail
          go_roundg fr
          case measure => omega
          case rel => exact ⟨i3, fr, _, _, _, _, _, Nat.le_refl _, hi3, hR5.drewN _, hS5, hA5, hX5.drewN _, by simp; omega, HW', HI3⟩
        | true =>
          have hb93 : P.bt s i3 = 93 := eq_of_beq (by rw [← HE.out]; exact h93)
          have hl3 := lt_of_bt (s := s) (i := i3) (by omega)
          have HI2 := HI'.out
          rw [if_pos hb93] at HI2
          have HI3 := hid HI2
          clear HI2 hb93
          have hq5 := run_eqS
          cases hne : ahd s (i + 1) 94 with
          | false =>
            have HG : Hid (emptyS (orW a0 b0) (orW a1 b1) (orW a2 b2) (orW a3 b3) = !P.some256 (P.add acc lo hh) (P.bt s (i + 1) == 94)) := by
              unfold Hid
              rw [show (P.bt s (i + 1) == 94) = false from hne]; exact empty_pos HW'.out
            have u0 := hA5.c0
            have u1 := hA5.c1
            have u2 := hA5.c2
            have u3 := hA5.c3
            have uf := hA5.fz
            have v0 := hS5.c0
            have v1 := hS5.c1
            have v2 := hS5.c2
            have v3 := hS5.c3
            have vf := hS5.fz
            have hS5d : SB ((((((w4.setCell ⟨w1.heap.size, 0, none⟩ (.int .u64 (orW a0 b0))).setCell ⟨w1.heap.size, 1, none⟩ (.int .u64 (orW a1 b1))).setCell ⟨w1.heap.size, 2, none⟩ (.int .u64 (orW a2 b2))).setCell ⟨w1.heap.size, 3, none⟩ (.int .u64 (orW a3 b3)))).drewN n5) w.heap.size 0 0 0 0 := hS5
            have hR5d := hR5.drewN n5
            have hX5d := hX5.drewN n5
            have vr := hR5.c1
            have vg := hR5.fz
            cases hem : emptyS (orW a0 b0) (orW a1 b1) (orW a2 b2) (orW a3 b3) with
            | true =>
              have HX : Hid (ClsF (P.cls s F (i + 1)) 0 0 0 0 i3 false) := by
                have h := HG.out; rw [hem] at h
                unfold Hid; rw [HCL.out, HI3.out]
                show ClsF (if P.some256 (P.add acc lo hh) (P.bt s (i + 1) == 94) then _ else _) _ _ _ _ _ _
                rw [show P.some256 (P.add acc lo hh) (P.bt s (i + 1) == 94) = false from by simpa using h.symm]; exact ⟨rfl, rfl⟩
              go_wp2_with fail
              have hF := (((hS5d.s0 0).s1 0).s2 0).s3 0
              have r0 := hF.c0
              have r1 := hF.c1
              have r2 := hF.c2
              have r3 := hF.c3
              refine bodyPost_ret (v := .tuple #[.agg #[.int .u64 0, .int .u64 0, .int .u64 0, .int .u64 0], .bool false]) (by simp [results, Tryd.results81, go_sem, r0, r1, r2, r3]) rfl ⟨0, 0, 0, 0, i3, false, rfl, hR5d.put4 (by omega) _ _ _ _, hX5d.put4 (Nat.le_refl _) _ _ _ _, hi3, ?_⟩
              exact HX.out
            | false =>
              have HX : Hid (ClsF (P.cls s F (i + 1)) (orW a0 b0) (orW a1 b1) (orW a2 b2) (orW a3 b3) (i3 + 1) true) := by
                have h := HG.out; rw [hem] at h
                unfold Hid; rw [HCL.out, HI3.out]
                show ClsF (if P.some256 (P.add acc lo hh) (P.bt s (i + 1) == 94) then _ else _) _ _ _ _ _ _
                rw [show P.some256 (P.add acc lo hh) (P.bt s (i + 1) == 94) = true from by simpa using h.symm]; exact ⟨rfl, rfl, HW'.out.congr fun x _ => by rw [show (P.bt s (i + 1) == 94) = false from hne]; simp⟩
              go_wp2_with fail
              have hS9 := hS5d.other (p := ⟨b, 1, none⟩) (by show w.heap.size ≠ b; omega) (.int .i64 ((i3 : Int) + 1))
              have hR9 := hR5d.set1 (x := (i3 : Int) + 1) (j := i3 + 1) (by omega)
              have hX9 := Only.setCell (p := ⟨b, 1, none⟩) hX5d rfl (.int .i64 ((i3 : Int) + 1))
              have hF := (((hS9.s0 (orW a0 b0)).s1 (orW a1 b1)).s2 (orW a2 b2)).s3 (orW a3 b3)
              have r0 := hF.c0
              have r1 := hF.c1
              have r2 := hF.c2
              have r3 := hF.c3
              refine bodyPost_ret (v := .tuple #[.agg #[.int .u64 (orW a0 b0), .int .u64 (orW a1 b1), .int .u64 (orW a2 b2), .int .u64 (orW a3 b3)], .bool true]) (by simp [results, Tryd.results81, go_sem, r0, r1, r2, r3]) rfl ⟨(orW a0 b0), (orW a1 b1), (orW a2 b2), (orW a3 b3), i3 + 1, true, rfl, hR9.put4 (by omega) _ _ _ _, hX9.put4 (Nat.le_refl _) _ _ _ _, by omega, ?_⟩
              exact HX.out
          | true =>
            have HG : Hid (emptyS (flipW (orW a0 b0)) (flipW (orW a1 b1)) (flipW (orW a2 b2)) (flipW (orW a3 b3)) = !P.some256 (P.add acc lo hh) (P.bt s (i + 1) == 94)) := by
              unfold Hid
              rw [show (P.bt s (i + 1) == 94) = true from hne]; exact empty_neg HW'.out
            have u0 := hA5.c0
            have u1 := hA5.c1
            have u2 := hA5.c2
            have u3 := hA5.c3
            have uf := hA5.fz
            go_wp2_with fail
            refine (rest_any _ _ _ _ _).mono ?_
            rintro e w6 ⟨rfl, hB6⟩
            have hsz5 : (((((w4.setCell ⟨w1.heap.size, 0, none⟩ (.int .u64 (orW a0 b0))).setCell ⟨w1.heap.size, 1, none⟩ (.int .u64 (orW a1 b1))).setCell ⟨w1.heap.size, 2, none⟩ (.int .u64 (orW a2 b2))).setCell ⟨w1.heap.size, 3, none⟩ (.int .u64 (orW a3 b3))).drewN n5).heap.size = w4.heap.size := by simp
            have hS6 : SB w6 w.heap.size 0 0 0 0 := (hB6.block _ (by rw [hsz5]; omega)).trans hS5
            have hA6 : SB w6 w1.heap.size (orW a0 b0) (orW a1 b1) (orW a2 b2) (orW a3 b3) := (hB6.block _ (by rw [hsz5]; omega)).trans hA5
            have hR6 : QB w6 b s i3 o := (hB6.block b (by rw [hsz5]; have := hR4.lt; omega)).trans hR5
            have hX6 : Only b w w6 := (hX5.drewN n5).trans (Only.ofBelow hB6)
            clear u0 u1 u2 u3 uf
            have hA7 := (((hA6.s0 (flipW (orW a0 b0))).s1 (flipW (orW a1 b1))).s2 (flipW (orW a2 b2))).s3 (flipW (orW a3 b3))
            have hS7 := hS6.put4 (g' := w1.heap.size) (by omega) (.int .u64 (flipW (orW a0 b0))) (.int .u64 (flipW (orW a1 b1))) (.int .u64 (flipW (orW a2 b2))) (.int .u64 (flipW (orW a3 b3)))
            have hR7 := hR6.put4 (g := w1.heap.size) (by omega) (.int .u64 (flipW (orW a0 b0))) (.int .u64 (flipW (orW a1 b1))) (.int .u64 (flipW (orW a2 b2))) (.int .u64 (flipW (orW a3 b3)))
            have hX7 := hX6.put4 (g := w1.heap.size) (by omega) (.int .u64 (flipW (orW a0 b0))) (.int .u64 (flipW (orW a1 b1))) (.int .u64 (flipW (orW a2 b2))) (.int .u64 (flipW (orW a3 b3)))
            have p0 := hA6.c0
            have p1 := hA6.c1
            have p2 := hA6.c2
            have p3 := hA6.c3
            have pf := hA6.fz
            have u0 := hA7.c0
            have u1 := hA7.c1
            have u2 := hA7.c2
            have u3 := hA7.c3
            have uf := hA7.fz
            have v0 := hS7.c0
            have v1 := hS7.c1
            have v2 := hS7.c2
            have v3 := hS7.c3
            have vf := hS7.fz
            have vr := hR7.c1
            have vg := hR7.fz
            cases hem : emptyS (flipW (orW a0 b0)) (flipW (orW a1 b1)) (flipW (orW a2 b2)) (flipW (orW a3 b3)) with
            | true =>
              have HX : Hid (ClsF (P.cls s F (i + 1)) 0 0 0 0 i3 false) := by
                have h := HG.out; rw [hem] at h
                unfold Hid; rw [HCL.out, HI3.out]
                show ClsF (if P.some256 (P.add acc lo hh) (P.bt s (i + 1) == 94) then _ else _) _ _ _ _ _ _
                rw [show P.some256 (P.add acc lo hh) (P.bt s (i + 1) == 94) = false from by simpa using h.symm]; exact ⟨rfl, rfl⟩
              go_wp2_with fail
              have hF := (((hS7.s0 0).s1 0).s2 0).s3 0
              have r0 := hF.c0
              have r1 := hF.c1
              have r2 := hF.c2
              have r3 := hF.c3
              refine bodyPost_ret (v := .tuple #[.agg #[.int .u64 0, .int .u64 0, .int .u64 0, .int .u64 0], .bool false]) (by simp [results, Tryd.results81, go_sem, r0, r1, r2, r3]) rfl ⟨0, 0, 0, 0, i3, false, rfl, hR7.put4 (by omega) _ _ _ _, hX7.put4 (Nat.le_refl _) _ _ _ _, hi3, ?_⟩
              exact HX.out
            | false =>
              have HX : Hid (ClsF (P.cls s F (i + 1)) (flipW (orW a0 b0)) (flipW (orW a1 b1)) (flipW (orW a2 b2)) (flipW (orW a3 b3)) (i3 + 1) true) := by
                have h := HG.out; rw [hem] at h
                unfold Hid; rw [HCL.out, HI3.out]
                show ClsF (if P.some256 (P.add acc lo hh) (P.bt s (i + 1) == 94) then _ else _) _ _ _ _ _ _
                rw [show P.some256 (P.add acc lo hh) (P.bt s (i + 1) == 94) = true from by simpa using h.symm]; exact ⟨rfl, rfl, HW'.out.flip.congr fun x _ => by rw [show (P.bt s (i + 1) == 94) = true from hne]; simp⟩
              go_wp2_with fail
              have hS9 := hS7.other (p := ⟨b, 1, none⟩) (by show w.heap.size ≠ b; omega) (.int .i64 ((i3 : Int) + 1))
              have hR9 := hR7.set1 (x := (i3 : Int) + 1) (j := i3 + 1) (by omega)
              have hX9 := Only.setCell (p := ⟨b, 1, none⟩) hX7 rfl (.int .i64 ((i3 : Int) + 1))
              have hF := (((hS9.s0 (flipW (orW a0 b0))).s1 (flipW (orW a1 b1))).s2 (flipW (orW a2 b2))).s3 (flipW (orW a3 b3))
              have r0 := hF.c0
              have r1 := hF.c1
              have r2 := hF.c2
              have r3 := hF.c3
              refine bodyPost_ret (v := .tuple #[.agg #[.int .u64 (flipW (orW a0 b0)), .int .u64 (flipW (orW a1 b1)), .int .u64 (flipW (orW a2 b2)), .int .u64 (flipW (orW a3 b3))], .bool true]) (by simp [results, Tryd.results81, go_sem, r0, r1, r2, r3]) rfl ⟨(flipW (orW a0 b0)), (flipW (orW a1 b1)), (flipW (orW a2 b2)), (flipW (orW a3 b3)), i3 + 1, true, rfl, hR9.put4 (by omega) _ _ _ _, hX9.put4 (Nat.le_refl _) _ _ _ _, by omega, ?_⟩
              exact HX.out
end Go.Proofs.YtjhmlcilabnlbaaDoor
/- The program: its nodes in memory. -/
namespace Go.Proofs.YtjhmlcilabnlbaaDoor
open Go.RowKit

/-- A node as the program has it: its kind, its set, its parts, none, again. -/
structure Nd where
  k : Int
  x0 : Int
  x1 : Int
  x2 : Int
  x3 : Int
  pa : Option Addr
  pn : Nat
  pc : Nat
  no : Bool
  ag : Bool

def Nd.cells (d : Nd) : List Value := [.int .i64 d.k, .int .u64 d.x0, .int .u64 d.x1, .int .u64 d.x2, .int .u64 d.x3, .slice d.pa d.pn d.pc, .bool d.no, .bool d.ag]
def ndCells (l : List (Nd × P.T)) : List Value := l.flatMap fun x => x.1.cells
def sumSz (l : List (Nd × P.T)) : Nat := (l.map fun x => x.2.sz).sum
def xsOf (l : List (Nd × P.T)) : List P.X := l.map fun x => x.2.x
def allEm (l : List (Nd × P.T)) : Bool := l.all fun x => x.2.em
def anyEm (l : List (Nd × P.T)) : Bool := l.any fun x => x.2.em

/-- Where all blocks outside S are as they were. -/
def OnlyS (S : Nat → Prop) (w w' : World) : Prop := ∀ k, k < w.heap.size → ¬ S k → w'.heap[k]? = w.heap[k]?
theorem Only.toS {b : Nat} {w w' : World} (h : Only b w w') : OnlyS (· = b) w w' := fun k hk hb => h.block k hk hb

/-- The parts of a node lie at the head of a block that is not one of S. -/
def Parts (w : World) (S : Nat → Prop) (g : Nat) (l : List (Nd × P.T)) : Prop := ¬ S g ∧ ∃ cur, w.heap[g]? = some (.cells cur 49 (0, 0)) ∧ cur.toList.take (l.length * 8) = ndCells l

inductive PN (w : World) (S : Nat → Prop) : Nd → P.T → Prop where
  | one (x0 x1 x2 x3 : Int) (p : Nat → Bool) (hp : W4 x0 x1 x2 x3 p) : PN w S ⟨0, x0, x1, x2, x3, none, 0, 0, false, false⟩ ⟨1, false, .set p⟩
  | rep {g c : Nat} {d : Nd} {t : P.T} {no ag : Bool} (hg : Parts w S g [(d, t)]) (h : PN w S d t) : PN w S ⟨3, 0, 0, 0, 0, some ⟨g, 0, none⟩, 1, c, no, ag⟩ ⟨t.sz + 1, no || t.em, .rep no ag t.x⟩
  | row {g c : Nat} {l : List (Nd × P.T)} (hg : Parts w S g l) (hn : l.length ≤ 1000) (h : ∀ x, x ∈ l → PN w S x.1 x.2) : PN w S ⟨1, 0, 0, 0, 0, some ⟨g, 0, none⟩, l.length, c, false, false⟩ ⟨sumSz l, allEm l, .row (xsOf l)⟩
  | alt {g c : Nat} {l : List (Nd × P.T)} (hg : Parts w S g l) (hl : l ≠ []) (hn : l.length ≤ 1000) (h : ∀ x, x ∈ l → PN w S x.1 x.2) : PN w S ⟨2, 0, 0, 0, 0, some ⟨g, 0, none⟩, l.length, c, false, false⟩ ⟨sumSz l + (l.length - 1), anyEm l, .alt (xsOf l)⟩

theorem Parts.lt {w : World} {S : Nat → Prop} {g : Nat} {l : List (Nd × P.T)} (h : Parts w S g l) : g < w.heap.size := by
  obtain ⟨-, cur, hc, -⟩ := h
  by_cases hx : g < w.heap.size
  · exact hx
  · simp [hx] at hc
theorem Parts.only {w w' : World} {S : Nat → Prop} {g : Nat} {l : List (Nd × P.T)} (h : Parts w S g l) (k : OnlyS S w w') : Parts w' S g l := by
  have hlt := h.lt
  obtain ⟨hb, cur, hc, ht⟩ := h
  exact ⟨hb, cur, (k g hlt hb).trans hc, ht⟩
theorem PN.only {w w' : World} {S : Nat → Prop} {d : Nd} {t : P.T} (h : PN w S d t) (k : OnlyS S w w') : PN w' S d t := by
  induction h with
  | one x0 x1 x2 x3 p hp => exact .one x0 x1 x2 x3 p hp
  | rep hg _ ih => exact .rep (hg.only k) ih
  | row hg hn _ ih => exact .row (hg.only k) hn ih
  | alt hg hl hn _ ih => exact .alt (hg.only k) hl hn ih
/-- What S bars may turn, as long as no block that was there is barred anew. -/
theorem Parts.bars {w : World} {S S' : Nat → Prop} {g : Nat} {l : List (Nd × P.T)} (h : Parts w S g l) (k : ∀ j, j < w.heap.size → S' j → S j) : Parts w S' g l :=
  ⟨fun e => h.1 (k g h.lt e), h.2⟩
theorem PN.bars {w : World} {S S' : Nat → Prop} {d : Nd} {t : P.T} (h : PN w S d t) (k : ∀ j, j < w.heap.size → S' j → S j) : PN w S' d t := by
  induction h with
  | one x0 x1 x2 x3 p hp => exact .one x0 x1 x2 x3 p hp
  | rep hg _ ih => exact .rep (hg.bars k) ih
  | row hg hn _ ih => exact .row (hg.bars k) hn ih
  | alt hg hl hn _ ih => exact .alt (hg.bars k) hl hn ih

theorem ndCells_get (l : List (Nd × P.T)) (i : Nat) (x : Nd × P.T) (h : l[i]? = some x) (j : Nat) (hj : j < 8) : (ndCells l)[i * 8 + j]? = x.1.cells[j]? := by
  induction l generalizing i with
  | nil => simp at h
  | cons y ys ih =>
    have e : ndCells (y :: ys) = y.1.cells ++ ndCells ys := rfl
    rw [e]
    cases i with
    | zero =>
      simp at h; subst h
      rw [List.getElem?_append_left (by simp [Nd.cells]; omega)]
      simp
    | succ i =>
      rw [List.getElem?_append_right (by simp [Nd.cells]; omega)]
      rw [show (i + 1) * 8 + j - y.1.cells.length = i * 8 + j from by simp [Nd.cells]; omega]
      exact ih i (by simpa using h)
theorem Parts.cell {w : World} {S : Nat → Prop} {g : Nat} {l : List (Nd × P.T)} (h : Parts w S g l) {i : Nat} {x : Nd × P.T} (hx : l[i]? = some x) {j : Nat} (hj : j < 8) : w.cell? ⟨g, i * 8 + j, none⟩ = x.1.cells[j]? := by
  obtain ⟨hb, cur, hc, ht⟩ := h
  have hi : i < l.length := by
    by_cases hl : i < l.length
    · exact hl
    · rw [List.getElem?_eq_none (by omega)] at hx; cases hx
  rw [← ndCells_get l i x hx j hj, ← ht, List.getElem?_take, if_pos (by omega)]
  simp [World.cell?, hc]

end Go.Proofs.YtjhmlcilabnlbaaDoor
/- The program: own, Count. -/
namespace Go.Proofs.YtjhmlcilabnlbaaDoor
open Go.RowKit

def ownN (k : Int) (n : Nat) : Int := if k = 1 then 0 else if k = 2 then (n : Int) - 1 else 1

set_option maxHeartbeats 1000000 in
theorem own_any (k x0 x1 x2 x3 : Int) (ad : Option Addr) (n c : Nat) (p q : Bool) (w : World) (hn : n ≤ 100000) :
    Calls Tryd.prog 20 #[.agg #[.int .i64 k, .int .u64 x0, .int .u64 x1, .int .u64 x2, .int .u64 x3, .slice ad n c, .bool p, .bool q]] w fun e w' => e = .returned (.int .i64 (ownN k n)) ∧ Below w.heap.size w w' := by
  by_cases h1 : k = 1
  · subst h1
    go_enter Tryd.func20, Tryd.ntmps20
    go_wp2
    go_ret
    exact ⟨rfl, (Below.refl _ _).alloc (Nat.le_refl _) _⟩
  · by_cases h2 : k = 2
    · subst h2
      go_enter Tryd.func20, Tryd.ntmps20
      go_wp2
      go_ret
      exact ⟨rfl, (Below.refl _ _).alloc (Nat.le_refl _) _⟩
    · have b1 : (k == 1) = false := beq_false_of_ne h1
      have b2 : (k == 2) = false := beq_false_of_ne h2
      have HO : Hid (ownN k n = 1) := by unfold Hid ownN; rw [if_neg h1, if_neg h2]
      clear h1 h2
      go_enter Tryd.func20, Tryd.ntmps20
      go_wp2
      go_ret
      exact ⟨ret_int HO.out.symm, (Below.refl _ _).alloc (Nat.le_refl _) _⟩

/-- The value of a node. -/
def Nd.val (d : Nd) : Value := .agg #[.int .i64 d.k, .int .u64 d.x0, .int .u64 d.x1, .int .u64 d.x2, .int .u64 d.x3, .slice d.pa d.pn d.pc, .bool d.no, .bool d.ag]

def sumTo (l : List (Nd × P.T)) (m : Nat) : Nat := sumSz (l.take m)
theorem sumTo_succ {l : List (Nd × P.T)} {m : Nat} {x : Nd × P.T} (h : l[m]? = some x) : sumTo l (m + 1) = sumTo l m + x.2.sz := by
  unfold sumTo sumSz
  rw [List.take_add_one, h]; simp
theorem sumTo_all (l : List (Nd × P.T)) : sumTo l l.length = sumSz l := by unfold sumTo; rw [List.take_length]
theorem sumTo_le (l : List (Nd × P.T)) (m : Nat) : sumTo l m ≤ sumSz l := by
  unfold sumTo sumSz
  induction l generalizing m with
  | nil => simp
  | cons x xs ih =>
    cases m with
    | zero => simp
    | succ m => simp; have := ih m; simp at this; omega

/-- Count over the parts, whatever the kind: what the calls on the parts come to is given. -/
def PartsC (w0 : World) (b : Nat) (l : List (Nd × P.T)) : Prop := ∀ x, x ∈ l → ∀ w, Only b w0 w → Calls Tryd.prog 12 #[x.1.val] w fun e w' => e = .returned (.int .i64 (x.2.sz : Int)) ∧ Below w.heap.size w w'

set_option maxHeartbeats 4000000 in
theorem count_parts (w0 : World) (b g c : Nat) (l : List (Nd × P.T)) (k : Int) (no ag : Bool) (hg : Parts w0 (· = b) g l) (hC : PartsC w0 b l) (hl : l.length ≤ 1000) (hsz : sumSz l ≤ 100000) (ho : -1 ≤ ownN k l.length) (ho2 : ownN k l.length ≤ 100000) (w : World) (hw : Only b w0 w) :
    Calls Tryd.prog 12 #[.agg #[.int .i64 k, .int .u64 0, .int .u64 0, .int .u64 0, .int .u64 0, .slice (some ⟨g, 0, none⟩) l.length c, .bool no, .bool ag]] w fun e w' => e = .returned (.int .i64 (ownN k l.length + (sumSz l : Int))) ∧ Below w.heap.size w w' := by
  go_enter Tryd.func12, Tryd.ntmps12
  go_wp2_with fail
  refine (own_any _ _ _ _ _ _ _ _ _ _ _ (by omega)).mono ?_
  rintro e w1 ⟨rfl, hB1⟩
  have hb0 : w1.heap[w.heap.size]? = some (.cells #[.int .i64 k, .int .u64 0, .int .u64 0, .int .u64 0, .int .u64 0, .slice (some ⟨g, 0, none⟩) l.length c, .bool no, .bool ag] 49 (0, 0)) := (hB1.block _ (by simp)).trans (heap_alloc_at _ _)
  have c5 : w1.cell? ⟨w.heap.size, 5, none⟩ = some (.slice (some ⟨g, 0, none⟩) l.length c) := by simp [World.cell?, hb0]
  have hB : Below w.heap.size w w1 := ((Below.refl _ _).alloc (Nat.le_refl _) _).trans (hB1.mono (by simp))
  clear hB1
  have hcap := hg
  go_wp2_with fail
  go_loopg [3, 11] l.length (fun gk cnt ix wr => ∃ m : Nat, m + gk = l.length ∧ ix = .int .i64 (m : Int) ∧ cnt = .int .i64 (ownN k l.length + (sumTo l m : Int)) ∧ Below w.heap.size w wr)
  case atStart => exact ⟨0, by omega, rfl, by simp [sumTo, sumSz], hB⟩
  case round =>
    obtain ⟨m, hm, rfl, rfl, hBr⟩ := hrel
    have hO : Only b w0 wr := hw.trans (Only.ofBelow hBr)
    have hsm := sumTo_le l m
    by_cases hlt : m < l.length
    · obtain ⟨x, hx⟩ : ∃ x, l[m]? = some x := ⟨l[m], List.getElem?_eq_getElem hlt⟩
      have hlt' : (m : Int) < (l.length : Int) := by omega
      have hP := hg.only hO.toS
      have e0 : wr.cell? ⟨g, m * 8, none⟩ = some (.int .i64 x.1.k) := hP.cell hx (j := 0) (by omega)
      have e1 : wr.cell? ⟨g, m * 8 + 1, none⟩ = some (.int .u64 x.1.x0) := hP.cell hx (j := 1) (by omega)
      have e2 : wr.cell? ⟨g, m * 8 + 2, none⟩ = some (.int .u64 x.1.x1) := hP.cell hx (j := 2) (by omega)
      have e3 : wr.cell? ⟨g, m * 8 + 3, none⟩ = some (.int .u64 x.1.x2) := hP.cell hx (j := 3) (by omega)
      have e4 : wr.cell? ⟨g, m * 8 + 4, none⟩ = some (.int .u64 x.1.x3) := hP.cell hx (j := 4) (by omega)
      have e5 : wr.cell? ⟨g, m * 8 + 5, none⟩ = some (.slice x.1.pa x.1.pn x.1.pc) := hP.cell hx (j := 5) (by omega)
      have e6 : wr.cell? ⟨g, m * 8 + 6, none⟩ = some (.bool x.1.no) := hP.cell hx (j := 6) (by omega)
      have e7 : wr.cell? ⟨g, m * 8 + 7, none⟩ = some (.bool x.1.ag) := hP.cell hx (j := 7) (by omega)
      have HSU := hid (sumTo_succ hx)
      have hsm2 := sumTo_le l (m + 1)
      have HCx := hid (hC x (List.mem_of_getElem? hx))
      have HX := hid hx
      clear hx hP hC
      have hszr := hBr.size
      go_wp2_with fail
      refine (HCx.out _ (hO.alloc _)).mono ?_
      rintro e w2 ⟨rfl, hB2⟩
      have hBx : Below w.heap.size w w2 := (hBr.alloc (by omega) _).trans (hB2.mono (by simp; omega))
      have hs1 : (sumTo l m : Int) + (x.2.sz : Int) ≤ 100000 := by have := HSU.out; omega
      go_wp2_with fail
      go_roundg (gk - 1)
      case measure => omega
      case rel => exact ⟨m + 1, by omega, by go_num, by have := HSU.out; rw [this]; go_num, hBx⟩
    · have hme : m = l.length := by omega
      subst hme
      rw [sumTo_all]
      go_wp2_with fail
      go_ret
      exact ⟨rfl, hBr⟩

set_option maxHeartbeats 4000000 in
theorem count_one (x0 x1 x2 x3 : Int) (w : World) :
    Calls Tryd.prog 12 #[.agg #[.int .i64 0, .int .u64 x0, .int .u64 x1, .int .u64 x2, .int .u64 x3, .slice none 0 0, .bool false, .bool false]] w fun e w' => e = .returned (.int .i64 1) ∧ Below w.heap.size w w' := by
  go_enter Tryd.func12, Tryd.ntmps12
  go_wp2_with fail
  refine (own_any _ _ _ _ _ _ _ _ _ _ _ (by omega)).mono ?_
  rintro e w1 ⟨rfl, hB1⟩
  have hb0 : w1.heap[w.heap.size]? = some (.cells #[.int .i64 0, .int .u64 x0, .int .u64 x1, .int .u64 x2, .int .u64 x3, .slice none 0 0, .bool false, .bool false] 49 (0, 0)) := (hB1.block _ (by simp)).trans (heap_alloc_at _ _)
  have c5 : w1.cell? ⟨w.heap.size, 5, none⟩ = some (.slice none 0 0) := by simp [World.cell?, hb0]
  have hB : Below w.heap.size w w1 := ((Below.refl _ _).alloc (Nat.le_refl _) _).trans (hB1.mono (by simp))
  clear hB1
  go_wp2_with fail
  go_loopg [3, 11] 1 (fun gk cnt ix wr => gk = 1 ∧ ix = .int .i64 0 ∧ cnt = .int .i64 1 ∧ wr = w1)
  case atStart => exact ⟨rfl, rfl, rfl, rfl⟩
  case round =>
    obtain ⟨rfl, rfl, rfl, rfl⟩ := hrel
    go_wp2_with fail
    go_ret
    exact ⟨rfl, hB⟩

theorem sum_mem {l : List (Nd × P.T)} {x : Nd × P.T} (h : x ∈ l) : x.2.sz ≤ sumSz l := by
  unfold sumSz
  induction l with
  | nil => cases h
  | cons y ys ih =>
    rcases List.mem_cons.1 h with rfl | h
    · simp
    · have := ih h; simp; omega

/-- Count of a node in memory: the nodes that the document counts. -/
theorem count_any (w0 : World) (b : Nat) {d : Nd} {t : P.T} (h : PN w0 (· = b) d t) : t.sz ≤ 1000 → ∀ w, Only b w0 w → Calls Tryd.prog 12 #[d.val] w fun e w' => e = .returned (.int .i64 (t.sz : Int)) ∧ Below w.heap.size w w' := by
  induction h with
  | one x0 x1 x2 x3 p hp => intro _ w _; exact count_one x0 x1 x2 x3 w
  | @rep g c d t no ag hg h ih =>
    intro hs w hw
    have hs' : t.sz + 1 ≤ 1000 := hs
    have hC : PartsC w0 b [(d, t)] := by
      intro x hx w hw
      rw [List.mem_singleton] at hx; subst hx
      exact ih (by omega) w hw
    refine (count_parts w0 b g c [(d, t)] 3 no ag hg hC (by simp) (by simp [sumSz]; omega) (by simp [ownN]) (by simp [ownN]) w hw).mono ?_
    rintro e w' ⟨rfl, hB⟩
    exact ⟨ret_int (by simp [ownN, sumSz]; omega), hB⟩
  | @row g c l hg hn h ih =>
    intro hs w hw
    have hs' : sumSz l ≤ 1000 := hs
    have hC : PartsC w0 b l := fun x hx w hw => ih x hx (Nat.le_trans (sum_mem hx) hs') w hw
    refine (count_parts w0 b g c l 1 false false hg hC hn (by omega) (by simp [ownN]) (by simp [ownN]) w hw).mono ?_
    rintro e w' ⟨rfl, hB⟩
    exact ⟨ret_int (by simp [ownN]), hB⟩
  | @alt g c l hg hl hn h ih =>
    intro hs w hw
    have hs' : sumSz l + (l.length - 1) ≤ 1000 := hs
    have hpos : 0 < l.length := List.length_pos_iff.2 hl
    have hC : PartsC w0 b l := fun x hx w hw => ih x hx (by have := sum_mem hx; omega) w hw
    refine (count_parts w0 b g c l 2 false false hg hC hn (by omega) (by unfold ownN; rw [if_neg (by decide), if_pos rfl]; omega) (by unfold ownN; rw [if_neg (by decide), if_pos rfl]; omega) w hw).mono ?_
    rintro e w' ⟨rfl, hB⟩
    exact ⟨ret_int (by unfold ownN; rw [if_neg (by decide), if_pos rfl]; show _ = ((sumSz l + (l.length - 1) : Nat) : Int); omega), hB⟩
end Go.Proofs.YtjhmlcilabnlbaaDoor
/- The program: emptyParts, Empty. -/
namespace Go.Proofs.YtjhmlcilabnlbaaDoor
open Go.RowKit

def cntEm (l : List (Nd × P.T)) : Nat := (l.filter fun x => x.2.em).length
def cntTo (l : List (Nd × P.T)) (m : Nat) : Nat := cntEm (l.take m)
theorem cntTo_succ {l : List (Nd × P.T)} {m : Nat} {x : Nd × P.T} (h : l[m]? = some x) : cntTo l (m + 1) = cntTo l m + (if x.2.em then 1 else 0) := by
  unfold cntTo cntEm
  rw [List.take_add_one, h, List.filter_append]
  cases hx : x.2.em <;> simp [hx]
theorem cntTo_all (l : List (Nd × P.T)) : cntTo l l.length = cntEm l := by unfold cntTo; rw [List.take_length]
theorem cntTo_le (l : List (Nd × P.T)) (m : Nat) : cntTo l m ≤ m := by
  unfold cntTo cntEm
  have h1 := List.length_filter_le (fun x : Nd × P.T => x.2.em) (l.take m)
  have h2 := List.length_take_le m l
  omega
theorem cnt_all (l : List (Nd × P.T)) : decide (cntEm l = l.length) = allEm l := by
  unfold cntEm allEm
  rw [Bool.eq_iff_iff, decide_eq_true_eq, List.length_filter_eq_length_iff, List.all_eq_true]
theorem cnt_any (l : List (Nd × P.T)) : decide (0 < cntEm l) = anyEm l := by
  unfold cntEm anyEm
  rw [Bool.eq_iff_iff, decide_eq_true_eq, List.length_filter_pos_iff, List.any_eq_true]

def PartsE (w0 : World) (b : Nat) (l : List (Nd × P.T)) : Prop := ∀ x, x ∈ l → ∀ w, Only b w0 w → Calls Tryd.prog 23 #[x.1.val] w fun e w' => e = .returned (.bool x.2.em) ∧ Below w.heap.size w w'

set_option maxHeartbeats 4000000 in
theorem emptyParts_any (w0 : World) (b g c : Nat) (l : List (Nd × P.T)) (k : Int) (no ag : Bool) (hg : Parts w0 (· = b) g l) (hC : PartsE w0 b l) (hl : l.length ≤ 1000) (w : World) (hw : Only b w0 w) :
    Calls Tryd.prog 34 #[.agg #[.int .i64 k, .int .u64 0, .int .u64 0, .int .u64 0, .int .u64 0, .slice (some ⟨g, 0, none⟩) l.length c, .bool no, .bool ag]] w fun e w' => e = .returned (.int .i64 (cntEm l : Int)) ∧ Below w.heap.size w w' := by
  go_enter Tryd.func34, Tryd.ntmps34
  go_wp2_with fail
  go_loopg [3, 9] l.length (fun gk cnt ix wr => ∃ m : Nat, m + gk = l.length ∧ ix = .int .i64 (m : Int) ∧ cnt = .int .i64 (cntTo l m : Int) ∧ Below w.heap.size w wr)
  case atStart => exact ⟨0, by omega, rfl, by simp [cntTo, cntEm], (Below.refl _ _).alloc (Nat.le_refl _) _⟩
  case round =>
    obtain ⟨m, hm, rfl, rfl, hBr⟩ := hrel
    have hO : Only b w0 wr := hw.trans (Only.ofBelow hBr)
    have hsm := cntTo_le l m
    by_cases hlt : m < l.length
    · obtain ⟨x, hx⟩ : ∃ x, l[m]? = some x := ⟨l[m], List.getElem?_eq_getElem hlt⟩
      have hlt' : (m : Int) < (l.length : Int) := by omega
      have hP := hg.only hO.toS
      have e0 : wr.cell? ⟨g, m * 8, none⟩ = some (.int .i64 x.1.k) := hP.cell hx (j := 0) (by omega)
      have e1 : wr.cell? ⟨g, m * 8 + 1, none⟩ = some (.int .u64 x.1.x0) := hP.cell hx (j := 1) (by omega)
      have e2 : wr.cell? ⟨g, m * 8 + 2, none⟩ = some (.int .u64 x.1.x1) := hP.cell hx (j := 2) (by omega)
      have e3 : wr.cell? ⟨g, m * 8 + 3, none⟩ = some (.int .u64 x.1.x2) := hP.cell hx (j := 3) (by omega)
      have e4 : wr.cell? ⟨g, m * 8 + 4, none⟩ = some (.int .u64 x.1.x3) := hP.cell hx (j := 4) (by omega)
      have e5 : wr.cell? ⟨g, m * 8 + 5, none⟩ = some (.slice x.1.pa x.1.pn x.1.pc) := hP.cell hx (j := 5) (by omega)
      have e6 : wr.cell? ⟨g, m * 8 + 6, none⟩ = some (.bool x.1.no) := hP.cell hx (j := 6) (by omega)
      have e7 : wr.cell? ⟨g, m * 8 + 7, none⟩ = some (.bool x.1.ag) := hP.cell hx (j := 7) (by omega)
      have HSU := hid (cntTo_succ hx)
      have HCx := hid (hC x (List.mem_of_getElem? hx))
      clear hx hP hC
      have hszr := hBr.size
      go_wp2_with fail
      refine (HCx.out _ (hO.alloc _)).mono ?_
      rintro e w2 ⟨rfl, hB2⟩
      have hBx : Below w.heap.size w w2 := (hBr.alloc (by omega) _).trans (hB2.mono (by simp; omega))
      cases hem : x.2.em with
      | true =>
        rw [hem] at HSU
        go_wp2_with fail
        go_roundg (gk - 1)
        case measure => omega
        case rel => exact ⟨m + 1, by omega, by go_num, by have := HSU.out; rw [this]; go_num, hBx⟩
      | false =>
        rw [hem] at HSU
        go_wp2_with fail
        go_roundg (gk - 1)
        case measure => omega
        case rel => exact ⟨m + 1, by omega, by go_num, by have := HSU.out; rw [this]; rfl, hBx⟩
    · have hme : m = l.length := by omega
      subst hme
      rw [cntTo_all]
      go_wp2_with fail
      go_ret
      exact ⟨rfl, hBr⟩

set_option maxHeartbeats 1000000 in
theorem empty_one (x0 x1 x2 x3 : Int) (w : World) :
    Calls Tryd.prog 23 #[.agg #[.int .i64 0, .int .u64 x0, .int .u64 x1, .int .u64 x2, .int .u64 x3, .slice none 0 0, .bool false, .bool false]] w fun e w' => e = .returned (.bool false) ∧ Below w.heap.size w w' := by
  go_enter Tryd.func23, Tryd.ntmps23
  go_wp2_with fail
  go_ret
  exact ⟨rfl, (Below.refl _ _).alloc (Nat.le_refl _) _⟩

set_option maxHeartbeats 4000000 in
theorem empty_row (w0 : World) (b g c : Nat) (l : List (Nd × P.T)) (hg : Parts w0 (· = b) g l) (hC : PartsE w0 b l) (hl : l.length ≤ 1000) (w : World) (hw : Only b w0 w) :
    Calls Tryd.prog 23 #[.agg #[.int .i64 1, .int .u64 0, .int .u64 0, .int .u64 0, .int .u64 0, .slice (some ⟨g, 0, none⟩) l.length c, .bool false, .bool false]] w fun e w' => e = .returned (.bool (allEm l)) ∧ Below w.heap.size w w' := by
  have HC := hid (fun (w : World) (hw : Only b w0 w) => emptyParts_any w0 b g c l 1 false false hg hC hl w hw)
  have HA := hid (cnt_all l)
  clear hC hg
  go_enter Tryd.func23, Tryd.ntmps23
  go_wp2_with fail
  go_region_with (go_at_call 34; refine (HC.out _ (by first | exact (hw.alloc _).drew | exact hw.alloc _)).mono ?_; rintro e w2 ⟨rfl, hB2⟩; have q5 : w2.cell? ⟨w.heap.size, 5, none⟩ = some (.slice (some ⟨g, 0, none⟩) l.length c) := (hB2.cell (p := ⟨w.heap.size, 5, none⟩) (by simp)).trans (by simp))
  all_goals
    go_wp2_with fail
    go_ret
    refine ⟨ret_bool (by rw [← HA.out, Bool.eq_iff_iff]; simp; omega), ?_⟩
    first
      | exact (((Below.refl _ _).alloc (Nat.le_refl _) _).drew).trans (hB2.mono (by simp))
      | exact ((Below.refl _ _).alloc (Nat.le_refl _) _).trans (hB2.mono (by simp))
      | exact (((Below.refl _ _).alloc (Nat.le_refl _) _).trans (hB2.mono (by simp))).drew

set_option maxHeartbeats 4000000 in
theorem empty_alt (w0 : World) (b g c : Nat) (l : List (Nd × P.T)) (hg : Parts w0 (· = b) g l) (hC : PartsE w0 b l) (hl : l.length ≤ 1000) (w : World) (hw : Only b w0 w) :
    Calls Tryd.prog 23 #[.agg #[.int .i64 2, .int .u64 0, .int .u64 0, .int .u64 0, .int .u64 0, .slice (some ⟨g, 0, none⟩) l.length c, .bool false, .bool false]] w fun e w' => e = .returned (.bool (anyEm l)) ∧ Below w.heap.size w w' := by
  have HC := hid (fun (w : World) (hw : Only b w0 w) => emptyParts_any w0 b g c l 2 false false hg hC hl w hw)
  have HA := hid (cnt_any l)
  clear hC hg
  go_enter Tryd.func23, Tryd.ntmps23
  go_wp2_with fail
  refine (HC.out _ (hw.alloc _)).mono ?_
  rintro e w2 ⟨rfl, hB2⟩
  go_wp2_with fail
  go_ret
  exact ⟨ret_bool (by rw [← HA.out, decide_eq_decide]), ((Below.refl _ _).alloc (Nat.le_refl _) _).trans (hB2.mono (by simp))⟩

set_option maxHeartbeats 4000000 in
theorem empty_rep (w0 : World) (b g c : Nat) (d : Nd) (t : P.T) (no ag : Bool) (hg : Parts w0 (· = b) g [(d, t)]) (hC : PartsE w0 b [(d, t)]) (w : World) (hw : Only b w0 w) :
    Calls Tryd.prog 23 #[.agg #[.int .i64 3, .int .u64 0, .int .u64 0, .int .u64 0, .int .u64 0, .slice (some ⟨g, 0, none⟩) 1 c, .bool no, .bool ag]] w fun e w' => e = .returned (.bool (no || t.em)) ∧ Below w.heap.size w w' := by
  have HC := hid (fun (w : World) (hw : Only b w0 w) => emptyParts_any w0 b g c [(d, t)] 3 no ag hg hC (by simp) w hw)
  have HA := hid (cnt_any [(d, t)])
  clear hC hg
  cases no with
  | true =>
    go_enter Tryd.func23, Tryd.ntmps23
    go_wp2_with fail
    go_ret
    exact ⟨rfl, (Below.refl _ _).alloc (Nat.le_refl _) _⟩
  | false =>
    go_enter Tryd.func23, Tryd.ntmps23
    go_wp2_with fail
    refine (HC.out _ (hw.alloc _)).mono ?_
    rintro e w2 ⟨rfl, hB2⟩
    go_wp2_with fail
    go_ret
    have e1 : anyEm [(d, t)] = t.em := by simp [anyEm]
    exact ⟨ret_bool (by rw [Bool.false_or, ← e1, ← HA.out, decide_eq_decide]), ((Below.refl _ _).alloc (Nat.le_refl _) _).trans (hB2.mono (by simp))⟩

/-- Empty of a node in memory: whether it matches the empty text. -/
theorem pempty_any (w0 : World) (b : Nat) {d : Nd} {t : P.T} (h : PN w0 (· = b) d t) : ∀ w, Only b w0 w → Calls Tryd.prog 23 #[d.val] w fun e w' => e = .returned (.bool t.em) ∧ Below w.heap.size w w' := by
  induction h with
  | one x0 x1 x2 x3 p hp => intro w _; exact empty_one x0 x1 x2 x3 w
  | @rep g c d t no ag hg h ih =>
    intro w hw
    refine empty_rep w0 b g c d t no ag hg ?_ w hw
    intro x hx w hw
    rw [List.mem_singleton] at hx; subst hx
    exact ih w hw
  | @row g c l hg hn h ih => intro w hw; exact empty_row w0 b g c l hg (fun x hx w hw => ih x hx w hw) hn w hw
  | @alt g c l hg hl hn h ih => intro w hw; exact empty_alt w0 b g c l hg (fun x hx w hw => ih x hx w hw) hn w hw

end Go.Proofs.YtjhmlcilabnlbaaDoor
/- The program: atoms of one set of bytes. -/
namespace Go.Proofs.YtjhmlcilabnlbaaDoor
open Go.RowKit

/-- What a call that hands back a node comes to: all of its parts are new. -/
def NodeF (r : P.PR P.T) (w' : World) (n : Nat) (d : Nd) (i : Nat) (k : Bool) : Prop :=
  match r with
  | .ok t j => k = true ∧ i = j ∧ PN w' (· < n) d t
  | .bad p => k = false ∧ i = p
  | .out => False
def OutD (s : ByteArray) (b o : Nat) (r : P.PR P.T) (w : World) (e : Ending) (w' : World) : Prop :=
  ∃ (d : Nd) (i' o' : Nat) (k : Bool), e = .returned (.tuple #[d.val, .bool k]) ∧ QB w' b s i' o' ∧ (k = true → o' = o) ∧ Only b w w' ∧ i' ≤ s.size ∧ NodeF r w' w.heap.size d i' k

/-- A node's block. -/
def DB (w : World) (g : Nat) (d : Nd) : Prop := w.heap[g]? = some (.cells #[.int .i64 d.k, .int .u64 d.x0, .int .u64 d.x1, .int .u64 d.x2, .int .u64 d.x3, .slice d.pa d.pn d.pc, .bool d.no, .bool d.ag] 49 (0, 0))
theorem DB.c0 {w : World} {g : Nat} {d : Nd} (h : DB w g d) : w.cell? ⟨g, 0, none⟩ = some (.int .i64 d.k) := by simp [World.cell?, show w.heap[g]? = _ from h]
theorem DB.c1 {w : World} {g : Nat} {d : Nd} (h : DB w g d) : w.cell? ⟨g, 1, none⟩ = some (.int .u64 d.x0) := by simp [World.cell?, show w.heap[g]? = _ from h]
theorem DB.c2 {w : World} {g : Nat} {d : Nd} (h : DB w g d) : w.cell? ⟨g, 2, none⟩ = some (.int .u64 d.x1) := by simp [World.cell?, show w.heap[g]? = _ from h]
theorem DB.c3 {w : World} {g : Nat} {d : Nd} (h : DB w g d) : w.cell? ⟨g, 3, none⟩ = some (.int .u64 d.x2) := by simp [World.cell?, show w.heap[g]? = _ from h]
theorem DB.c4 {w : World} {g : Nat} {d : Nd} (h : DB w g d) : w.cell? ⟨g, 4, none⟩ = some (.int .u64 d.x3) := by simp [World.cell?, show w.heap[g]? = _ from h]
theorem DB.c5 {w : World} {g : Nat} {d : Nd} (h : DB w g d) : w.cell? ⟨g, 5, none⟩ = some (.slice d.pa d.pn d.pc) := by simp [World.cell?, show w.heap[g]? = _ from h]
theorem DB.c6 {w : World} {g : Nat} {d : Nd} (h : DB w g d) : w.cell? ⟨g, 6, none⟩ = some (.bool d.no) := by simp [World.cell?, show w.heap[g]? = _ from h]
theorem DB.c7 {w : World} {g : Nat} {d : Nd} (h : DB w g d) : w.cell? ⟨g, 7, none⟩ = some (.bool d.ag) := by simp [World.cell?, show w.heap[g]? = _ from h]
theorem DB.fz {w : World} {g : Nat} {d : Nd} (h : DB w g d) (k : Nat) : w.frozen? ⟨g, k, none⟩ = false := by simp [World.frozen?, show w.heap[g]? = _ from h]
theorem DB.put4 {w : World} {g g' : Nat} {d : Nd} (h : DB w g d) (hg : g ≠ g') (x0 x1 x2 x3 : Value) : DB ((((w.setCell ⟨g', 0, none⟩ x0).setCell ⟨g', 1, none⟩ x1).setCell ⟨g', 2, none⟩ x2).setCell ⟨g', 3, none⟩ x3) g d :=
  (Below.heap_setCell _ _ _ _ hg).trans ((Below.heap_setCell _ _ _ _ hg).trans ((Below.heap_setCell _ _ _ _ hg).trans ((Below.heap_setCell _ _ _ _ hg).trans h)))
def nd0 : Nd := ⟨0, 0, 0, 0, 0, none, 0, 0, false, false⟩

/-- A node stored over a node's block. -/
abbrev put8 (w : World) (g : Nat) (d : Nd) : World := ((((((((w.setCell ⟨g, 0, none⟩ (.int .i64 d.k)).setCell ⟨g, 1, none⟩ (.int .u64 d.x0)).setCell ⟨g, 2, none⟩ (.int .u64 d.x1)).setCell ⟨g, 3, none⟩ (.int .u64 d.x2)).setCell ⟨g, 4, none⟩ (.int .u64 d.x3)).setCell ⟨g, 5, none⟩ (.slice d.pa d.pn d.pc)).setCell ⟨g, 6, none⟩ (.bool d.no)).setCell ⟨g, 7, none⟩ (.bool d.ag))
theorem c8set0 {w : World} {g : Nat} {v0 v1 v2 v3 v4 v5 v6 v7 : Value} (h : w.heap[g]? = some (.cells #[v0, v1, v2, v3, v4, v5, v6, v7] 49 (0, 0))) (u : Value) : (w.setCell ⟨g, 0, none⟩ u).heap[g]? = some (.cells #[u, v1, v2, v3, v4, v5, v6, v7] 49 (0, 0)) := heap_setCell_same (a := ⟨g, 0, none⟩) h rfl u
theorem c8set1 {w : World} {g : Nat} {v0 v1 v2 v3 v4 v5 v6 v7 : Value} (h : w.heap[g]? = some (.cells #[v0, v1, v2, v3, v4, v5, v6, v7] 49 (0, 0))) (u : Value) : (w.setCell ⟨g, 1, none⟩ u).heap[g]? = some (.cells #[v0, u, v2, v3, v4, v5, v6, v7] 49 (0, 0)) := heap_setCell_same (a := ⟨g, 1, none⟩) h rfl u
theorem c8set2 {w : World} {g : Nat} {v0 v1 v2 v3 v4 v5 v6 v7 : Value} (h : w.heap[g]? = some (.cells #[v0, v1, v2, v3, v4, v5, v6, v7] 49 (0, 0))) (u : Value) : (w.setCell ⟨g, 2, none⟩ u).heap[g]? = some (.cells #[v0, v1, u, v3, v4, v5, v6, v7] 49 (0, 0)) := heap_setCell_same (a := ⟨g, 2, none⟩) h rfl u
theorem c8set3 {w : World} {g : Nat} {v0 v1 v2 v3 v4 v5 v6 v7 : Value} (h : w.heap[g]? = some (.cells #[v0, v1, v2, v3, v4, v5, v6, v7] 49 (0, 0))) (u : Value) : (w.setCell ⟨g, 3, none⟩ u).heap[g]? = some (.cells #[v0, v1, v2, u, v4, v5, v6, v7] 49 (0, 0)) := heap_setCell_same (a := ⟨g, 3, none⟩) h rfl u
theorem c8set4 {w : World} {g : Nat} {v0 v1 v2 v3 v4 v5 v6 v7 : Value} (h : w.heap[g]? = some (.cells #[v0, v1, v2, v3, v4, v5, v6, v7] 49 (0, 0))) (u : Value) : (w.setCell ⟨g, 4, none⟩ u).heap[g]? = some (.cells #[v0, v1, v2, v3, u, v5, v6, v7] 49 (0, 0)) := heap_setCell_same (a := ⟨g, 4, none⟩) h rfl u
theorem c8set5 {w : World} {g : Nat} {v0 v1 v2 v3 v4 v5 v6 v7 : Value} (h : w.heap[g]? = some (.cells #[v0, v1, v2, v3, v4, v5, v6, v7] 49 (0, 0))) (u : Value) : (w.setCell ⟨g, 5, none⟩ u).heap[g]? = some (.cells #[v0, v1, v2, v3, v4, u, v6, v7] 49 (0, 0)) := heap_setCell_same (a := ⟨g, 5, none⟩) h rfl u
theorem c8set6 {w : World} {g : Nat} {v0 v1 v2 v3 v4 v5 v6 v7 : Value} (h : w.heap[g]? = some (.cells #[v0, v1, v2, v3, v4, v5, v6, v7] 49 (0, 0))) (u : Value) : (w.setCell ⟨g, 6, none⟩ u).heap[g]? = some (.cells #[v0, v1, v2, v3, v4, v5, u, v7] 49 (0, 0)) := heap_setCell_same (a := ⟨g, 6, none⟩) h rfl u
theorem c8set7 {w : World} {g : Nat} {v0 v1 v2 v3 v4 v5 v6 v7 : Value} (h : w.heap[g]? = some (.cells #[v0, v1, v2, v3, v4, v5, v6, v7] 49 (0, 0))) (u : Value) : (w.setCell ⟨g, 7, none⟩ u).heap[g]? = some (.cells #[v0, v1, v2, v3, v4, v5, v6, u] 49 (0, 0)) := heap_setCell_same (a := ⟨g, 7, none⟩) h rfl u
theorem DB.put8 {w : World} {g : Nat} {c : Nd} (h : DB w g c) (d : Nd) : DB (put8 w g d) g d :=
  (c8set7 (c8set6 (c8set5 (c8set4 (c8set3 (c8set2 (c8set1 (c8set0 h _) _) _) _) _) _) _) _)
theorem heap_put8 {w : World} {g k : Nat} (d : Nd) (hk : k ≠ g) : (put8 w g d).heap[k]? = w.heap[k]? :=
  ((Below.heap_setCell _ _ _ _ hk).trans ((Below.heap_setCell _ _ _ _ hk).trans ((Below.heap_setCell _ _ _ _ hk).trans ((Below.heap_setCell _ _ _ _ hk).trans ((Below.heap_setCell _ _ _ _ hk).trans ((Below.heap_setCell _ _ _ _ hk).trans ((Below.heap_setCell _ _ _ _ hk).trans (Below.heap_setCell _ _ _ _ hk))))))))
theorem Only.put8 {x w : World} {b g : Nat} (h : Only b x w) (hg : x.heap.size ≤ g) (d : Nd) : Only b x (put8 w g d) :=
  ((((((((h.new (p := ⟨g, 0, none⟩) hg _).new (p := ⟨g, 1, none⟩) hg _).new (p := ⟨g, 2, none⟩) hg _).new (p := ⟨g, 3, none⟩) hg _).new (p := ⟨g, 4, none⟩) hg _).new (p := ⟨g, 5, none⟩) hg _).new (p := ⟨g, 6, none⟩) hg _).new (p := ⟨g, 7, none⟩) hg _)

set_option maxHeartbeats 4000000 in
theorem patom_cls (F b : Nat) (s : ByteArray) (i o : Nat) (w : World) (hs : s.size ≤ 400) (hR : QB w b s i o) (hc : P.bt s i = 91) (hP : P.cls s F (i + 1) ≠ .out) :
    Calls Tryd.prog 66 #[.pointer (some ⟨b, 0, none⟩)] w fun e w' => OutD s b o (P.atom s (F + 1) o i) w e w' := by
  have hlt := hR.lt
  have hl := lt_of_bt (s := s) (i := i) (by omega)
  have HA : Hid (P.atom s (F + 1) o i = (P.cls s F (i + 1)).bind fun p j => .ok ⟨1, false, .set p⟩ j) := by
    unfold Hid P.atom P.leafAt; simp only [hc]; rfl
  have b1 : (pk s i == 40) = false := by rw [pk_eq (by omega), hc]; rfl
  have b2 : (pk s i == 91) = true := by rw [pk_eq (by omega), hc]; rfl
  have HP := hid hP
  clear hc hP
  have hQ0 : QB ((w.alloc (.cells #[.int .i64 0, .int .u64 0, .int .u64 0, .int .u64 0, .int .u64 0, .slice none 0 0, .bool false, .bool false] 49)).alloc (.cells #[.int .u64 0, .int .u64 0, .int .u64 0, .int .u64 0] 46)) b s i o := heap_alloc_old (heap_alloc_old hR hlt) (by simp; omega)
  go_enter Tryd.func66, Tryd.ntmps66
  go_wp2_with fail
  refine (peek_any _ _ _ _ _ hQ0).mono ?_
  rintro e w1 ⟨rfl, n1, rfl⟩
  go_wp2_with fail
  refine (brackets_any F _ _ _ _ _ hs (hQ0.drewN _) hl HP.out).mono ?_
  rintro e w2 ⟨a0, a1, a2, a3, i2, k2, rfl, hR2, hO2, hi2, hf2⟩
  have hw2 := hO2.size
  have hS2 : SB w2 (w.heap.size + 1) 0 0 0 0 := by
    refine (hO2.block _ (by simp) (by omega)).trans ?_
    have := heap_alloc_at (w.alloc (.cells #[.int .i64 0, .int .u64 0, .int .u64 0, .int .u64 0, .int .u64 0, .slice none 0 0, .bool false, .bool false] 49)) (.cells #[.int .u64 0, .int .u64 0, .int .u64 0, .int .u64 0] 46)
    rw [show (w.alloc (.cells #[.int .i64 0, .int .u64 0, .int .u64 0, .int .u64 0, .int .u64 0, .slice none 0 0, .bool false, .bool false] 49)).heap.size = w.heap.size + 1 from by simp] at this
    exact this
  have hD2 : DB w2 w.heap.size nd0 := (hO2.block _ (by simp; omega) (by omega)).trans (heap_alloc_old (heap_alloc_at _ _) (by simp))
  have s0 := hS2.c0
  have s1 := hS2.c1
  have s2 := hS2.c2
  have s3 := hS2.c3
  have sf := hS2.fz
  have hD3 := hD2.put4 (g' := w.heap.size + 1) (by omega) (.int .u64 a0) (.int .u64 a1) (.int .u64 a2) (.int .u64 a3)
  have d0 := hD3.c0
  have d1 := hD3.c1
  have d2 := hD3.c2
  have d3 := hD3.c3
  have d4 := hD3.c4
  have d5 := hD3.c5
  have d6 := hD3.c6
  have d7 := hD3.c7
  have df := hD3.fz
  have HF := hid hf2
  clear hf2
  have hD4 := hD3.put8 ⟨0, a0, a1, a2, a3, none, 0, 0, false, false⟩
  have r0 := hD4.c0
  have r1 := hD4.c1
  have r2 := hD4.c2
  have r3 := hD4.c3
  have r4 := hD4.c4
  have r5 := hD4.c5
  have r6 := hD4.c6
  have r7 := hD4.c7
  have hR4 := (heap_put8 ⟨0, a0, a1, a2, a3, none, 0, 0, false, false⟩ (show b ≠ w.heap.size by omega)).trans (hR2.put4 (g := w.heap.size + 1) (by omega) (.int .u64 a0) (.int .u64 a1) (.int .u64 a2) (.int .u64 a3))
  have hO3 : Only b w w2 := ((((Only.refl _ _).alloc _).alloc _).drewN _).trans hO2
  have hO4 := (hO3.put4 (g := w.heap.size + 1) (by omega) (.int .u64 a0) (.int .u64 a1) (.int .u64 a2) (.int .u64 a3)).put8 (g := w.heap.size) (Nat.le_refl _) ⟨0, a0, a1, a2, a3, none, 0, 0, false, false⟩
  clear hD4
  have HR4 := hid hR4
  have HO4 := hid hO4
  clear hR4 hO4
  go_wp2_with fail
  refine bodyPost_ret (v := .tuple #[.agg #[.int .i64 0, .int .u64 a0, .int .u64 a1, .int .u64 a2, .int .u64 a3, .slice none 0 0, .bool false, .bool false], .bool k2]) (by simp [results, Tryd.results66, go_sem, r0, r1, r2, r3, r4, r5, r6, r7]) rfl ⟨⟨0, a0, a1, a2, a3, none, 0, 0, false, false⟩, i2, o, k2, rfl, HR4.out, fun _ => rfl, HO4.out, hi2, ?_⟩
  rw [HA.out]
  have h := HF.out
  cases hx : P.cls s F (i + 1) with
  | out => rw [hx] at h; exact h.elim
  | bad p => rw [hx] at h; exact h
  | ok u j => rw [hx] at h; exact ⟨h.1, h.2.1, .one _ _ _ _ _ h.2.2⟩

set_option maxHeartbeats 4000000 in
theorem patom_single (F b : Nat) (s : ByteArray) (i o : Nat) (w : World) (hs : s.size ≤ 400) (hR : QB w b s i o) (hi : i ≤ s.size) (h40 : P.bt s i ≠ 40) (h91 : P.bt s i ≠ 91) (h46 : P.bt s i ≠ 46) :
    Calls Tryd.prog 66 #[.pointer (some ⟨b, 0, none⟩)] w fun e w' => OutD s b o (P.atom s (F + 1) o i) w e w' := by
  have hlt := hR.lt
  have HA : Hid (P.atom s (F + 1) o i = (singleP ⟨#[92, 46, 91, 93, 40, 41, 42, 43, 63, 124]⟩ s i).bind fun v j => .ok ⟨1, false, .set (P.eqB v)⟩ j) := by
    have hp := pk_range s i
    unfold Hid P.atom P.leafAt singleP
    simp only [if_neg h40, if_neg h91, if_neg h46]
    by_cases h92 : P.bt s i = 92
    · simp only [if_pos h92]; cases P.esc s (i + 1) <;> rfl
    · simp only [if_neg h92, plain_row hp.1 hp.2]
      by_cases hn : P.bt s i < 0
      · have e : pk s i = 0 := by unfold pk; rw [if_pos hn]
        have e2 : P.bt s i = -1 := by have := bt_range s i; omega
        rw [e, e2]; rfl
      · have e : pk s i = P.bt s i := by unfold pk; rw [if_neg hn]
        rw [e]; cases P.plain (P.bt s i) <;> rfl
  have b1 : (pk s i == 40) = false := by rw [pk_eq (by omega)]; exact beq_false_of_ne h40
  have b2 : (pk s i == 91) = false := by rw [pk_eq (by omega)]; exact beq_false_of_ne h91
  have b3 : (pk s i == 46) = false := by rw [pk_eq (by omega)]; exact beq_false_of_ne h46
  clear h40 h91 h46
  have hQ0 : QB ((w.alloc (.cells #[.int .i64 0, .int .u64 0, .int .u64 0, .int .u64 0, .int .u64 0, .slice none 0 0, .bool false, .bool false] 49)).alloc (.cells #[.int .u64 0, .int .u64 0, .int .u64 0, .int .u64 0] 46)) b s i o := heap_alloc_old (heap_alloc_old hR hlt) (by simp; omega)
  go_enter Tryd.func66, Tryd.ntmps66
  go_wp2_with fail
  refine (peek_any _ _ _ _ _ hQ0).mono ?_
  rintro e w1 ⟨rfl, n1, rfl⟩
  go_wp2_with fail
  refine (single_any _ _ _ _ _ _ hs (hQ0.drewN _) hi).mono ?_
  rintro e w1 ⟨v, i2, k2, rfl, hR1, hO1, hv0, hv1, hi2, hf2⟩
  go_wp2_with fail
  refine (span_any v v _ hv0 (by omega) hv1).mono ?_
  rintro e w2 ⟨a0, a1, a2, a3, rfl, hW2, hB2⟩
  have hO2 : Only b (((w.alloc (.cells #[.int .i64 0, .int .u64 0, .int .u64 0, .int .u64 0, .int .u64 0, .slice none 0 0, .bool false, .bool false] 49)).alloc (.cells #[.int .u64 0, .int .u64 0, .int .u64 0, .int .u64 0] 46)).drewN n1) w2 := hO1.trans (Only.ofBelow hB2)
  have hR2 : QB w2 b s i2 o := (hB2.block b hR1.lt).trans hR1
  have hw2 := hO2.size
  have HW2 := hid hW2
  clear hW2
  have hS2 : SB w2 (w.heap.size + 1) 0 0 0 0 := by
    refine (hO2.block _ (by simp) (by omega)).trans ?_
    have := heap_alloc_at (w.alloc (.cells #[.int .i64 0, .int .u64 0, .int .u64 0, .int .u64 0, .int .u64 0, .slice none 0 0, .bool false, .bool false] 49)) (.cells #[.int .u64 0, .int .u64 0, .int .u64 0, .int .u64 0] 46)
    rw [show (w.alloc (.cells #[.int .i64 0, .int .u64 0, .int .u64 0, .int .u64 0, .int .u64 0, .slice none 0 0, .bool false, .bool false] 49)).heap.size = w.heap.size + 1 from by simp] at this
    exact this
  have hD2 : DB w2 w.heap.size nd0 := (hO2.block _ (by simp; omega) (by omega)).trans (heap_alloc_old (heap_alloc_at _ _) (by simp))
  have s0 := hS2.c0
  have s1 := hS2.c1
  have s2 := hS2.c2
  have s3 := hS2.c3
  have sf := hS2.fz
  have hD3 := hD2.put4 (g' := w.heap.size + 1) (by omega) (.int .u64 a0) (.int .u64 a1) (.int .u64 a2) (.int .u64 a3)
  have d0 := hD3.c0
  have d1 := hD3.c1
  have d2 := hD3.c2
  have d3 := hD3.c3
  have d4 := hD3.c4
  have d5 := hD3.c5
  have d6 := hD3.c6
  have d7 := hD3.c7
  have df := hD3.fz
  have HF := hid hf2
  clear hf2
  have hD4 := hD3.put8 ⟨0, a0, a1, a2, a3, none, 0, 0, false, false⟩
  have r0 := hD4.c0
  have r1 := hD4.c1
  have r2 := hD4.c2
  have r3 := hD4.c3
  have r4 := hD4.c4
  have r5 := hD4.c5
  have r6 := hD4.c6
  have r7 := hD4.c7
  have hR4 := (heap_put8 ⟨0, a0, a1, a2, a3, none, 0, 0, false, false⟩ (show b ≠ w.heap.size by omega)).trans (hR2.put4 (g := w.heap.size + 1) (by omega) (.int .u64 a0) (.int .u64 a1) (.int .u64 a2) (.int .u64 a3))
  have hO3 : Only b w w2 := ((((Only.refl _ _).alloc _).alloc _).drewN _).trans hO2
  have hO4 := (hO3.put4 (g := w.heap.size + 1) (by omega) (.int .u64 a0) (.int .u64 a1) (.int .u64 a2) (.int .u64 a3)).put8 (g := w.heap.size) (Nat.le_refl _) ⟨0, a0, a1, a2, a3, none, 0, 0, false, false⟩
  clear hD4
  have HR4 := hid hR4
  have HO4 := hid hO4
  clear hR4 hO4
  go_wp2_with fail
  refine bodyPost_ret (v := .tuple #[.agg #[.int .i64 0, .int .u64 a0, .int .u64 a1, .int .u64 a2, .int .u64 a3, .slice none 0 0, .bool false, .bool false], .bool k2]) (by simp [results, Tryd.results66, go_sem, r0, r1, r2, r3, r4, r5, r6, r7]) rfl ⟨⟨0, a0, a1, a2, a3, none, 0, 0, false, false⟩, i2, o, k2, rfl, HR4.out, fun _ => rfl, HO4.out, hi2, ?_⟩
  rw [HA.out]
  have h := HF.out
  cases hx : singleP ⟨#[92, 46, 91, 93, 40, 41, 42, 43, 63, 124]⟩ s i with
  | out => rw [hx] at h; exact h.elim
  | bad p => rw [hx] at h; exact h
  | ok u j => rw [hx] at h; exact ⟨h.1, h.2.2, .one _ _ _ _ _ (by have e : v = u := h.2.1; rw [← e]; exact HW2.out)⟩
end Go.Proofs.YtjhmlcilabnlbaaDoor
/- The program: the atom of any byte but one. -/
namespace Go.Proofs.YtjhmlcilabnlbaaDoor
open Go.RowKit
set_option maxHeartbeats 4000000 in
theorem patom_dot (F b : Nat) (s : ByteArray) (i o : Nat) (w : World) (hs : s.size ≤ 400) (hR : QB w b s i o) (hc : P.bt s i = 46) :
    Calls Tryd.prog 66 #[.pointer (some ⟨b, 0, none⟩)] w fun e w' => OutD s b o (P.atom s (F + 1) o i) w e w' := by
  have hlt := hR.lt
  have hl := lt_of_bt (s := s) (i := i) (by omega)
  have HA : Hid (P.atom s (F + 1) o i = .ok ⟨1, false, .set (fun x => !P.eqB 10 x)⟩ (i + 1)) := by
    unfold Hid P.atom P.leafAt; simp only [hc]; rfl
  have b1 : (pk s i == 40) = false := by rw [pk_eq (by omega), hc]; rfl
  have b2 : (pk s i == 91) = false := by rw [pk_eq (by omega), hc]; rfl
  have b3 : (pk s i == 46) = true := by rw [pk_eq (by omega), hc]; rfl
  clear hc
  have hQ0 : QB ((w.alloc (.cells #[.int .i64 0, .int .u64 0, .int .u64 0, .int .u64 0, .int .u64 0, .slice none 0 0, .bool false, .bool false] 49)).alloc (.cells #[.int .u64 0, .int .u64 0, .int .u64 0, .int .u64 0] 46)) b s i o := heap_alloc_old (heap_alloc_old hR hlt) (by simp; omega)
  have c1 := hQ0.c1
  have f1 := hQ0.fz 1
  go_enter Tryd.func66, Tryd.ntmps66
  go_wp2_with fail
  refine (peek_any _ _ _ _ _ hQ0).mono ?_
  rintro e w1 ⟨rfl, n1, rfl⟩
  go_wp2_with fail
  refine (span_any 10 10 _ (by omega) (by omega) (by omega)).mono ?_
  rintro e w1 ⟨c0, c1', c2, c3, rfl, hW1, hB1⟩
  have HW1 := hid hW1.flip
  clear hW1
  go_wp2_with fail
  refine (rest_any _ _ _ _ _).mono ?_
  rintro e w2 ⟨rfl, hB2⟩
  have hO2 : Only b (((w.alloc (.cells #[.int .i64 0, .int .u64 0, .int .u64 0, .int .u64 0, .int .u64 0, .slice none 0 0, .bool false, .bool false] 49)).alloc (.cells #[.int .u64 0, .int .u64 0, .int .u64 0, .int .u64 0] 46)).drewN n1) w2 := (Only.setCell (p := ⟨b, 1, none⟩) (Only.refl _ _) rfl _).trans ((Only.ofBelow hB1).trans (Only.ofBelow hB2))
  have hq : QB ((((w.alloc (.cells #[.int .i64 0, .int .u64 0, .int .u64 0, .int .u64 0, .int .u64 0, .slice none 0 0, .bool false, .bool false] 49)).alloc (.cells #[.int .u64 0, .int .u64 0, .int .u64 0, .int .u64 0] 46)).drewN n1).setCell ⟨b, 1, none⟩ (.int .i64 ((i : Int) + 1))) b s (i + 1) o := (hQ0.drewN n1).set1 (by omega)
  have hq1 : QB w1 b s (i + 1) o := (hB1.block b hq.lt).trans hq
  have hR2 : QB w2 b s (i + 1) o := (hB2.block b hq1.lt).trans hq1
  have hw2 := hO2.size
  clear hq hq1
  generalize flipW c0 = a0 at *
  generalize flipW c1' = a1 at *
  generalize flipW c2 = a2 at *
  generalize flipW c3 = a3 at *
  have hS2 : SB w2 (w.heap.size + 1) 0 0 0 0 := by
    refine (hO2.block _ (by simp) (by omega)).trans ?_
    have := heap_alloc_at (w.alloc (.cells #[.int .i64 0, .int .u64 0, .int .u64 0, .int .u64 0, .int .u64 0, .slice none 0 0, .bool false, .bool false] 49)) (.cells #[.int .u64 0, .int .u64 0, .int .u64 0, .int .u64 0] 46)
    rw [show (w.alloc (.cells #[.int .i64 0, .int .u64 0, .int .u64 0, .int .u64 0, .int .u64 0, .slice none 0 0, .bool false, .bool false] 49)).heap.size = w.heap.size + 1 from by simp] at this
    exact this
  have hD2 : DB w2 w.heap.size nd0 := (hO2.block _ (by simp; omega) (by omega)).trans (heap_alloc_old (heap_alloc_at _ _) (by simp))
  have s0 := hS2.c0
  have s1 := hS2.c1
  have s2 := hS2.c2
  have s3 := hS2.c3
  have sf := hS2.fz
  have hD3 := hD2.put4 (g' := w.heap.size + 1) (by omega) (.int .u64 a0) (.int .u64 a1) (.int .u64 a2) (.int .u64 a3)
  have d0 := hD3.c0
  have d1 := hD3.c1
  have d2 := hD3.c2
  have d3 := hD3.c3
  have d4 := hD3.c4
  have d5 := hD3.c5
  have d6 := hD3.c6
  have d7 := hD3.c7
  have df := hD3.fz
  have hD4 := hD3.put8 ⟨0, a0, a1, a2, a3, none, 0, 0, false, false⟩
  have r0 := hD4.c0
  have r1 := hD4.c1
  have r2 := hD4.c2
  have r3 := hD4.c3
  have r4 := hD4.c4
  have r5 := hD4.c5
  have r6 := hD4.c6
  have r7 := hD4.c7
  have hR4 := (heap_put8 ⟨0, a0, a1, a2, a3, none, 0, 0, false, false⟩ (show b ≠ w.heap.size by omega)).trans (hR2.put4 (g := w.heap.size + 1) (by omega) (.int .u64 a0) (.int .u64 a1) (.int .u64 a2) (.int .u64 a3))
  have hO3 : Only b w w2 := ((((Only.refl _ _).alloc _).alloc _).drewN _).trans hO2
  have hO4 := (hO3.put4 (g := w.heap.size + 1) (by omega) (.int .u64 a0) (.int .u64 a1) (.int .u64 a2) (.int .u64 a3)).put8 (g := w.heap.size) (Nat.le_refl _) ⟨0, a0, a1, a2, a3, none, 0, 0, false, false⟩
  clear hD4
  have HR4 := hid hR4
  have HO4 := hid hO4
  clear hR4 hO4
  go_wp2_with fail
  refine bodyPost_ret (v := .tuple #[.agg #[.int .i64 0, .int .u64 a0, .int .u64 a1, .int .u64 a2, .int .u64 a3, .slice none 0 0, .bool false, .bool false], .bool true]) (by simp [results, Tryd.results66, go_sem, r0, r1, r2, r3, r4, r5, r6, r7]) rfl ⟨⟨0, a0, a1, a2, a3, none, 0, 0, false, false⟩, i + 1, o, true, rfl, HR4.out, fun _ => rfl, HO4.out, by omega, ?_⟩
  rw [HA.out]; exact ⟨rfl, rfl, .one _ _ _ _ _ HW1.out⟩
end Go.Proofs.YtjhmlcilabnlbaaDoor
/- The program: marks. -/
namespace Go.Proofs.YtjhmlcilabnlbaaDoor
open Go.RowKit

theorem pmarks_succ (s : ByteArray) (f i : Nat) (t : P.T) : P.marks s (f + 1) i t = if P.bt s i = 42 ∨ P.bt s i = 63 then P.marks s f (i + 1) ⟨t.sz + 1, true, .rep true (P.bt s i == 42) t.x⟩ else if P.bt s i = 43 then P.marks s f (i + 1) ⟨t.sz + 1, t.em, .rep false true t.x⟩ else .ok t i := rfl

def OutM (S : Nat → Prop) (s : ByteArray) (b o : Nat) (r : P.PR P.T) (w : World) (e : Ending) (w' : World) : Prop :=
  ∃ (d : Nd) (t : P.T) (i' : Nat), e = .returned d.val ∧ QB w' b s i' o ∧ Only b w w' ∧ i' ≤ s.size ∧ r = .ok t i' ∧ PN w' S d t

/-- What is barred, and the call's two boxes. -/
def bars3 (S : Nat → Prop) (n : Nat) : Nat → Prop := fun k => S k ∨ (k = n ∨ k = n + 1)
theorem OnlyS.wide {S S' : Nat → Prop} {w w' : World} (h : OnlyS S w w') (k : ∀ j, S j → S' j) : OnlyS S' w w' := fun j hj hs => h j hj (fun e => hs (k j e))
theorem OnlyS.put8 {S : Nat → Prop} {x w : World} {g : Nat} (h : OnlyS S x w) (hg : S g) (d : Nd) : OnlyS S x (put8 w g d) := fun j hj hs => (heap_put8 d (fun e => hs (by rw [e]; exact hg))).trans (h j hj hs)
theorem size_put8 (w : World) (g : Nat) (d : Nd) : (put8 w g d).heap.size = w.heap.size := by simp only [put8, World.size_setCell]
/-- A node's cells, as they are allocated. -/
abbrev Nd.obj (d : Nd) : Obj := .cells #[.int .i64 d.k, .int .u64 d.x0, .int .u64 d.x1, .int .u64 d.x2, .int .u64 d.x3, .slice d.pa d.pn d.pc, .bool d.no, .bool d.ag] 49

/-- Where the rounds over the marks stand. -/
def MRel (S : Nat → Prop) (s : ByteArray) (b o : Nat) (R : P.PR P.T) (w : World) (g : Nat) (wr : World) : Prop :=
  ∃ (d : Nd) (t : P.T) (ir fr : Nat), fr ≤ g ∧ ir ≤ s.size ∧ QB wr b s ir o ∧ DB wr w.heap.size d ∧ DB wr (w.heap.size + 1) nd0 ∧ PN wr (bars3 S w.heap.size) d t ∧ Only b w wr ∧ w.heap.size + 1 < wr.heap.size ∧ Hid (R = P.marks s fr ir t)

/-- A mark's node over the box, in any world. -/
theorem MRel.over {S : Nat → Prop} {s : ByteArray} {b o : Nat} {R : P.PR P.T} {w X : World} {g ir fr : Nat} {d : Nd} {t : P.T} {no ag : Bool}
    (hSn : ∀ k, S k → k < w.heap.size) (hb : b < w.heap.size) (hg : w.heap.size + 1 < g) (hir : ir ≤ s.size) (hQ : QB X b s ir o) (hD : DB X w.heap.size d) (hZ : DB X (w.heap.size + 1) nd0)
    (hA : DB X g d) (hN : PN X (bars3 S w.heap.size) d t) (hO : Only b w X) (hz : w.heap.size + 1 < X.heap.size) (hI : Hid (R = P.marks s fr ir ⟨t.sz + 1, no || t.em, .rep no ag t.x⟩)) :
    MRel S s b o R w fr (put8 X w.heap.size ⟨3, 0, 0, 0, 0, some ⟨g, 0, none⟩, 1, 1, no, ag⟩) := by
  have hS : OnlyS (bars3 S w.heap.size) X (put8 X w.heap.size ⟨3, 0, 0, 0, 0, some ⟨g, 0, none⟩, 1, 1, no, ag⟩) := OnlyS.put8 (fun _ _ _ => rfl) (Or.inr (Or.inl rfl)) _
  have hP : Parts X (bars3 S w.heap.size) g [(d, t)] := ⟨fun h => by rcases h with h | h | h; (have := hSn _ h; omega); omega; omega, _, hA, rfl⟩
  refine ⟨_, _, ir, fr, Nat.le_refl _, hir, ?_, hD.put8 _, ?_, .rep (hP.only hS) (hN.only hS), hO.put8 (Nat.le_refl _) _, ?_, hI⟩
  · exact (heap_put8 _ (by omega)).trans hQ
  · exact (heap_put8 _ (by omega)).trans hZ
  · rw [size_put8]; exact hz

theorem MRel.step {S : Nat → Prop} {s : ByteArray} {b o : Nat} {R : P.PR P.T} {w wr : World} {ir fr : Nat} {d : Nd} {t : P.T} (no ag : Bool) (n : Nat) {x : Int}
    (hSb : S b) (hSn : ∀ k, S k → k < w.heap.size) (hb : b < w.heap.size) (hir : ir + 1 ≤ s.size) (hQ : QB wr b s ir o) (hD : DB wr w.heap.size d) (hZ : DB wr (w.heap.size + 1) nd0)
    (hN : PN wr (bars3 S w.heap.size) d t) (hO : Only b w wr) (hz : w.heap.size + 1 < wr.heap.size) (hx : x = ((ir + 1 : Nat) : Int)) (hI : Hid (R = P.marks s fr (ir + 1) ⟨t.sz + 1, no || t.em, .rep no ag t.x⟩)) :
    MRel S s b o R w fr (put8 (((wr.drewN n).setCell ⟨b, 1, none⟩ (.int .i64 x)).alloc d.obj) w.heap.size ⟨3, 0, 0, 0, 0, some ⟨wr.heap.size, 0, none⟩, 1, 1, no, ag⟩) := by
  have hX : ((wr.drewN n).setCell ⟨b, 1, none⟩ (.int .i64 x)).heap.size = wr.heap.size := World.size_setCell _ _ _
  have hO3 : Only b wr (((wr.drewN n).setCell ⟨b, 1, none⟩ (.int .i64 x)).alloc d.obj) := (Only.setCell (p := ⟨b, 1, none⟩) ((Only.refl _ _).drewN n) rfl _).alloc _
  have hS3 : OnlyS (bars3 S w.heap.size) wr (((wr.drewN n).setCell ⟨b, 1, none⟩ (.int .i64 x)).alloc d.obj) := hO3.toS.wide (fun k h => Or.inl (by rw [h]; exact hSb))
  refine MRel.over hSn hb hz hir ?_ ?_ ?_ ?_ (hN.only hS3) (hO.trans hO3) ?_ hI
  · exact heap_alloc_old ((hQ.drewN n).set1 hx) (by rw [hX]; omega)
  · exact heap_alloc_old ((Below.heap_setCell _ _ _ _ (by show w.heap.size ≠ b; omega)).trans hD) (by rw [hX]; omega)
  · exact heap_alloc_old ((Below.heap_setCell _ _ _ _ (by show w.heap.size + 1 ≠ b; omega)).trans hZ) (by rw [hX]; omega)
  · have h := heap_alloc_at ((wr.drewN n).setCell ⟨b, 1, none⟩ (.int .i64 x)) d.obj
    rw [hX] at h
    exact h
  · exact Nat.lt_of_lt_of_le hz hO3.size

theorem MRel.start {S : Nat → Prop} {s : ByteArray} {b o i f : Nat} {R : P.PR P.T} {w : World} {d : Nd} {t : P.T} (hSb : S b) (hi : i ≤ s.size) (hQ : QB w b s i o) (hN : PN w S d t) (hI : Hid (R = P.marks s f i t)) :
    MRel S s b o R w f ((w.alloc d.obj).alloc nd0.obj) := by
  have hlt := hQ.lt
  refine ⟨d, t, i, f, Nat.le_refl _, hi, heap_alloc_old (heap_alloc_old hQ hlt) (by simp; omega), heap_alloc_old (heap_alloc_at _ _) (by simp), ?_, (hN.bars (S' := bars3 S w.heap.size) (fun j hj h => h.elim id (fun h => by omega))).only ((((Only.refl b _).alloc _).alloc _).toS.wide (fun k h => Or.inl (by rw [h]; exact hSb))), ((Only.refl _ _).alloc _).alloc _, by simp, hI⟩
  have h := heap_alloc_at (w.alloc d.obj) nd0.obj
  rw [show (w.alloc d.obj).heap.size = w.heap.size + 1 from by simp] at h
  exact h

theorem MRel.done {S : Nat → Prop} {s : ByteArray} {b o ir n : Nat} {R : P.PR P.T} {w wr : World} {d : Nd} {t : P.T} (hb : b < w.heap.size) (hir : ir ≤ s.size) (hQ : QB wr b s ir o) (hN : PN wr (bars3 S w.heap.size) d t) (hO : Only b w wr) (hI : Hid (R = .ok t ir)) :
    OutM S s b o R w (.returned d.val) (put8 (wr.drewN n) (w.heap.size + 1) d) := by
  have hS5 : OnlyS (bars3 S w.heap.size) wr (put8 (wr.drewN n) (w.heap.size + 1) d) := OnlyS.put8 (fun _ _ _ => rfl) (Or.inr (Or.inr rfl)) d
  exact ⟨d, t, ir, rfl, (heap_put8 d (by omega)).trans hQ, (hO.drewN _).put8 (by omega) d, hir, hI.out, (hN.only hS5).bars (fun j _ h => Or.inl h)⟩

set_option maxHeartbeats 8000000 in
theorem pmarks_any (S : Nat → Prop) (f b : Nat) (s : ByteArray) (i o : Nat) (d0 : Nd) (t0 : P.T) (w : World) (hs : s.size ≤ 400) (hR : QB w b s i o) (hi : i ≤ s.size) (hSb : S b) (hSn : ∀ k, S k → k < w.heap.size) (hN : PN w S d0 t0) (hP : P.marks s f i t0 ≠ .out) :
    Calls Tryd.prog 67 #[.pointer (some ⟨b, 0, none⟩), .agg #[.int .i64 d0.k, .int .u64 d0.x0, .int .u64 d0.x1, .int .u64 d0.x2, .int .u64 d0.x3, .slice d0.pa d0.pn d0.pc, .bool d0.no, .bool d0.ag]] w fun e w' => OutM S s b o (P.marks s f i t0) w e w' := by
  have hlt := hR.lt
  obtain ⟨R, hRd⟩ : ∃ R, R = P.marks s f i t0 := ⟨_, rfl⟩
  have HRn : Hid (R ≠ .out) := by unfold Hid; rw [hRd]; exact hP
  rw [← hRd]
  have HRd := hid hRd
  clear hP hRd
  go_enter Tryd.func67, Tryd.ntmps67
  go_wp2_with fail
  go_loopg [5, 6] f (fun g _ _ wr => MRel S s b o R w g wr)
  case atStart => exact MRel.start hSb hi hR hN HRd
  case round =>
    obtain ⟨d, t, ir, fr, hfr, hir, hR2, hD2, hZ2, hN2, hO2, hz2, hI⟩ := hrel
    cases fr with
    | zero => exact absurd hI.out HRn.out
    | succ fr =>
      have e1 := hid (pk_eq (s := s) (i := ir) (c := 43) (by omega))
      have e2 := hid (pk_eq (s := s) (i := ir) (c := 42) (by omega))
      have e3 := hid (pk_eq (s := s) (i := ir) (c := 63) (by omega))
      have HS := hid (hI.out.trans (pmarks_succ s fr ir t))
      have k1 := hR2.c1
      have kf := hR2.fz 1
      have p0 := hD2.c0
      have p1 := hD2.c1
      have p2 := hD2.c2
      have p3 := hD2.c3
      have p4 := hD2.c4
      have p5 := hD2.c5
      have p6 := hD2.c6
      have p7 := hD2.c7
      have pf := hD2.fz
      have q0 := hZ2.c0
      have q1 := hZ2.c1
      have q2 := hZ2.c2
      have q3 := hZ2.c3
      have q4 := hZ2.c4
      have q5 := hZ2.c5
      have q6 := hZ2.c6
      have q7 := hZ2.c7
      have qf := hZ2.fz
      go_wp2_with fail
      refine (peek_any _ _ _ _ _ hR2).mono ?_
      rintro e w3 ⟨rfl, n3, rfl⟩
      have hDa : ∀ (x : Value) (X : Obj), DB (((wr.drewN n3).setCell ⟨b, 1, none⟩ x).alloc X) w.heap.size d := fun x X => heap_alloc_old ((Below.heap_setCell _ _ _ _ (by show w.heap.size ≠ b; omega)).trans hD2) (by simp; omega)
      have g0 := fun x X => (hDa x X).c0
      have g1 := fun x X => (hDa x X).c1
      have g2 := fun x X => (hDa x X).c2
      have g3 := fun x X => (hDa x X).c3
      have g4 := fun x X => (hDa x X).c4
      have g5 := fun x X => (hDa x X).c5
      have g6 := fun x X => (hDa x X).c6
      have g7 := fun x X => (hDa x X).c7
      have gf := fun x X => (hDa x X).fz
      cases h43 : (pk s ir == 43) with
      | true =>
        have hbt : P.bt s ir = 43 := eq_of_beq (by rw [← e1.out]; exact h43)
        have hl := lt_of_bt (s := s) (i := ir) (by omega)
        have HI2 : Hid (R = P.marks s fr (ir + 1) ⟨t.sz + 1, false || t.em, .rep false true t.x⟩) := by
          unfold Hid; rw [HS.out]; rw [if_neg (by omega), if_pos hbt, Bool.false_or]
        clear hbt
        go_wp2_with fail
        go_roundg fr
        case measure => omega
        case rel => exact MRel.step false true n3 hSb hSn hlt hl hR2 hD2 hZ2 hN2 hO2 hz2 (by omega) HI2
      | false =>
        cases h42 : (pk s ir == 42) with
        | true =>
          have hbt : P.bt s ir = 42 := eq_of_beq (by rw [← e2.out]; exact h42)
          have hl := lt_of_bt (s := s) (i := ir) (by omega)
          have HI2 : Hid (R = P.marks s fr (ir + 1) ⟨t.sz + 1, true || t.em, .rep true true t.x⟩) := by
            unfold Hid; rw [HS.out]; rw [if_pos (Or.inl hbt), Bool.true_or, show (P.bt s ir == 42) = true from by rw [hbt]; rfl]
          clear hbt
          go_wp2_with fail
          go_roundg fr
          case measure => omega
          case rel => exact MRel.step true true n3 hSb hSn hlt hl hR2 hD2 hZ2 hN2 hO2 hz2 (by omega) HI2
        | false =>
          cases h63 : (pk s ir == 63) with
          | true =>
            have hbt : P.bt s ir = 63 := eq_of_beq (by rw [← e3.out]; exact h63)
            have hl := lt_of_bt (s := s) (i := ir) (by omega)
            have HI2 : Hid (R = P.marks s fr (ir + 1) ⟨t.sz + 1, true || t.em, .rep true false t.x⟩) := by
              unfold Hid; rw [HS.out]; rw [if_pos (Or.inr hbt), Bool.true_or, show (P.bt s ir == 42) = false from by rw [hbt]; rfl]
            clear hbt
            go_wp2_with fail
            go_roundg fr
            case measure => omega
            case rel => exact MRel.step true false n3 hSb hSn hlt hl hR2 hD2 hZ2 hN2 hO2 hz2 (by omega) HI2
          | false =>
            have HI2 : Hid (R = .ok t ir) := by
              have n1 : P.bt s ir ≠ 43 := ne_of_beq_false (by rw [← e1.out]; exact h43)
              have n2 : P.bt s ir ≠ 42 := ne_of_beq_false (by rw [← e2.out]; exact h42)
              have n3 : P.bt s ir ≠ 63 := ne_of_beq_false (by rw [← e3.out]; exact h63)
              unfold Hid; rw [HS.out, if_neg (by omega), if_neg n1]
            have hZd : DB (wr.drewN n3) (w.heap.size + 1) nd0 := hZ2
            have hF := hZd.put8 d
            have r0 := hF.c0
            have r1 := hF.c1
            have r2 := hF.c2
            have r3 := hF.c3
            have r4 := hF.c4
            have r5 := hF.c5
            have r6 := hF.c6
            have r7 := hF.c7
            go_wp2_with fail
            refine bodyPost_ret (v := .agg #[.int .i64 d.k, .int .u64 d.x0, .int .u64 d.x1, .int .u64 d.x2, .int .u64 d.x3, .slice d.pa d.pn d.pc, .bool d.no, .bool d.ag]) (by simp [results, Tryd.results67, go_sem, r0, r1, r2, r3, r4, r5, r6, r7]) rfl ?_
            exact MRel.done hlt hir hR2 hN2 hO2 HI2
end Go.Proofs.YtjhmlcilabnlbaaDoor
/- Each reading goes forward by at least as many bytes as it has nodes. -/
namespace Go.Proofs.YtjhmlcilabnlbaaDoor.P

theorem items_fwd (s : ByteArray) : ∀ (f i : Nat) (acc a : Nat → Bool) (j : Nat), items s f i acc = .ok a j → i < j := by
  intro f
  induction f with
  | zero => intro i acc a j h; cases h
  | succ f ih =>
    intro i acc a j h
    unfold items at h
    cases hi : item s i with
    | out => rw [hi] at h; cases h
    | bad p => rw [hi] at h; cases h
    | ok lh q =>
      rw [hi] at h
      have hq := (item_good s i).2 _ _ hi
      replace h : (if bt s q = 93 then (.ok (add acc lh.1 lh.2) q : PR (Nat → Bool)) else items s f q (add acc lh.1 lh.2)) = .ok a j := h
      by_cases h93 : bt s q = 93
      · rw [if_pos h93] at h; cases h; omega
      · rw [if_neg h93] at h; have := ih _ _ _ _ h; omega
theorem cls_fwd (s : ByteArray) (f i : Nat) (u : Nat → Bool) (j : Nat) (h : cls s f i = .ok u j) : i < j := by
  unfold cls at h
  have key : ∀ i0, i ≤ i0 → (items s f i0 (fun _ => false)).bind (fun acc j => if some256 acc (bt s i == 94) then (.ok (fun x => acc x != (bt s i == 94)) (j + 1) : PR (Nat → Bool)) else .bad j) = .ok u j → i < j := by
    intro i0 h0 h
    cases hi : items s f i0 (fun _ => false) with
    | out => rw [hi] at h; cases h
    | bad p => rw [hi] at h; cases h
    | ok a q =>
      rw [hi] at h
      have := items_fwd s f i0 _ _ _ hi
      replace h : (if some256 a (bt s i == 94) then (.ok (fun x => a x != (bt s i == 94)) (q + 1) : PR (Nat → Bool)) else .bad q) = .ok u j := h
      split at h
      · cases h; omega
      · cases h
  exact key _ (by split <;> omega) h
theorem leaf_fwd (s : ByteArray) (f i : Nat) (u : Nat → Bool) (j : Nat) (h : leafAt s f i = .ok u j) : i < j := by
  unfold leafAt at h
  split at h
  · have := cls_fwd s f _ _ _ h; omega
  · split at h
    · cases h; omega
    · split at h
      · cases he : esc s (i + 1) with
        | out => rw [he] at h; cases h
        | bad p => rw [he] at h; cases h
        | ok a q =>
          rw [he] at h
          have := (esc_good s (i + 1)).2 _ _ he
          cases h; omega
      · split at h
        · cases h; omega
        · cases h
theorem marks_sized (s : ByteArray) : ∀ (f i : Nat) (t u : T) (j : Nat), marks s f i t = .ok u j → t.sz ≤ u.sz ∧ i + u.sz ≤ j + t.sz := by
  intro f
  induction f with
  | zero => intro i t u j h; cases h
  | succ f ih =>
    intro i t u j h
    unfold marks at h
    split at h
    · obtain ⟨h1, h2⟩ := ih _ _ _ _ h
      have h1' : t.sz + 1 ≤ u.sz := h1
      have h2' : i + 1 + u.sz ≤ j + (t.sz + 1) := h2
      omega
    · split at h
      · obtain ⟨h1, h2⟩ := ih _ _ _ _ h
        have h1' : t.sz + 1 ≤ u.sz := h1
        have h2' : i + 1 + u.sz ≤ j + (t.sz + 1) := h2
        omega
      · cases h; omega

/-- A reading of so many bytes at least as nodes, from the start. -/
def Szd (i : Nat) (r : PR T) : Prop := ∀ t j, r = .ok t j → 1 ≤ t.sz ∧ i + t.sz ≤ j
/-- The same behind what was read. -/
def Szo (i : Nat) (t0 : T) (r : PR T) : Prop := ∀ t j, r = .ok t j → t0.sz ≤ t.sz ∧ i + t.sz ≤ j + t0.sz

theorem Szd.bad (i p : Nat) : Szd i (.bad p) := by intro t j h; cases h
theorem Szd.out (i : Nat) : Szd i .out := by intro t j h; cases h
theorem bind_ok {α β : Type} {r : PR α} {g : α → Nat → PR β} {b : β} {k : Nat} (h : r.bind g = .ok b k) : ∃ a j, r = .ok a j ∧ g a j = .ok b k := by
  cases r with
  | out => cases h
  | bad p => cases h
  | ok a j => exact ⟨a, j, rfl, h⟩

theorem all_sized (s : ByteArray) : ∀ f : Nat,
    (∀ o i, Szd i (atom s f o i)) ∧ (∀ o i, Szd i (marked s f o i)) ∧ (∀ o i t, Szo i t (rowOn s f o i t)) ∧
    (∀ o i, Szd i (row s f o i)) ∧ (∀ o i t, Szo i t (altOn s f o i t)) ∧ (∀ o i, Szd i (alt s f o i)) := by
  intro f
  induction f with
  | zero =>
    refine ⟨?_, ?_, ?_, ?_, ?_, ?_⟩
    · intro o i t j h; unfold atom at h; cases h
    · intro o i t j h; unfold marked at h; cases h
    · intro o i t u j h; unfold rowOn at h; cases h
    · intro o i t j h; unfold row at h; cases h
    · intro o i t u j h; unfold altOn at h; cases h
    · intro o i t j h; unfold alt at h; cases h
  | succ f ih =>
    obtain ⟨hA, hM, hRo, hR, hAo, hL⟩ := ih
    refine ⟨?_, ?_, ?_, ?_, ?_, ?_⟩
    · intro o i t j h
      unfold atom at h
      split at h
      · split at h
        · cases h
        · obtain ⟨u, q, h1, h2⟩ := bind_ok h
          have := hL _ _ _ _ h1
          split at h2
          · cases h2; omega
          · cases h2
      · obtain ⟨u, q, h1, h2⟩ := bind_ok h
        have := leaf_fwd s f i _ _ h1
        cases h2
        exact ⟨Nat.le_refl 1, this⟩
    · intro o i t j h
      unfold marked at h
      obtain ⟨u, q, h1, h2⟩ := bind_ok h
      have := hA _ _ _ _ h1
      have := marks_sized s f q u t j h2
      omega
    · intro o i t u j h
      unfold rowOn at h
      split at h
      · obtain ⟨v, q, h1, h2⟩ := bind_ok h
        have h3 := hM _ _ _ _ h1
        have h4 := hRo _ _ _ _ _ h2
        have h5 : t.sz + v.sz ≤ u.sz ∧ q + u.sz ≤ j + (t.sz + v.sz) := h4
        omega
      · cases h; omega
    · intro o i t j h
      unfold row at h
      obtain ⟨v, q, h1, h2⟩ := bind_ok h
      have h3 := hM _ _ _ _ h1
      have h4 : v.sz ≤ t.sz ∧ q + t.sz ≤ j + v.sz := hRo _ _ ⟨v.sz, v.em, .row [v.x]⟩ _ _ h2
      omega
    · intro o i t u j h
      unfold altOn at h
      split at h
      · obtain ⟨v, q, h1, h2⟩ := bind_ok h
        have h3 := hR _ _ _ _ h1
        have h4 := hAo _ _ _ _ _ h2
        have h5 : t.sz + 1 + v.sz ≤ u.sz ∧ q + u.sz ≤ j + (t.sz + 1 + v.sz) := h4
        omega
      · cases h; omega
    · intro o i t j h
      unfold alt at h
      obtain ⟨v, q, h1, h2⟩ := bind_ok h
      have h3 := hR _ _ _ _ h1
      have h4 : v.sz ≤ t.sz ∧ q + t.sz ≤ j + v.sz := hAo _ _ ⟨v.sz, v.em, .alt [v.x]⟩ _ _ h2
      omega

end Go.Proofs.YtjhmlcilabnlbaaDoor.P
/- The program: a list of nodes that grows; what the rounds of a row and of a choice come to. -/
namespace Go.Proofs.YtjhmlcilabnlbaaDoor
open Go.RowKit

theorem Tryd.info38 : (Tryd.prog.info? 49).map (fun i => (i.zero, i.size, i.bytes)) = some (some (.agg #[.int .i64 0, .int .u64 0, .int .u64 0, .int .u64 0, .int .u64 0, .slice none 0 0, .bool false, .bool false]), 8, 72) := by kernel_rfl

/-- What is barred: all that was there, the result's box, and the list's own block. -/
def barsV (n : Nat) (v : Value) : Nat → Prop := fun k => k ≤ n ∨ v.ownBlock = some k

/-- A list of nodes that the call has built so far. -/
def Lm (s : ByteArray) (b o : Nat) (w wr : World) (ir : Nat) (v : Value) (xs : List (Nd × P.T)) : Prop :=
  QB wr b s ir o ∧ DB wr w.heap.size nd0 ∧ wr.ownsRow (w.heap.size + 1) 49 8 v xs.length (ndCells xs) ∧ (∀ x, x ∈ xs → PN wr (barsV w.heap.size v) x.1 x.2) ∧ Only b w wr ∧ ir ≤ s.size ∧ xs.length ≤ ir

theorem ndCells_snoc (xs : List (Nd × P.T)) (d : Nd) (t : P.T) : ndCells (xs ++ [(d, t)]) = ndCells xs ++ d.cells := by simp [ndCells]
theorem sumSz_snoc (xs : List (Nd × P.T)) (d : Nd) (t : P.T) : sumSz (xs ++ [(d, t)]) = sumSz xs + t.sz := by simp [sumSz]
theorem allEm_snoc (xs : List (Nd × P.T)) (d : Nd) (t : P.T) : allEm (xs ++ [(d, t)]) = (allEm xs && t.em) := by simp [allEm]
theorem xsOf_snoc (xs : List (Nd × P.T)) (d : Nd) (t : P.T) : xsOf (xs ++ [(d, t)]) = xsOf xs ++ [t.x] := by simp [xsOf]
theorem anyEm_snoc (xs : List (Nd × P.T)) (d : Nd) (t : P.T) : anyEm (xs ++ [(d, t)]) = (anyEm xs || t.em) := by simp [anyEm]
theorem powns_only {w w' : World} {b base : Nat} {e : TypeId} {size : Nat} {v : Value} {n : Nat} {xs : List Value} (h : w.ownsRow base e size v n xs) (k : Only b w w') (hb : b < base) : w'.ownsRow base e size v n xs := by
  refine ⟨h.1, ?_⟩
  rcases h.2 with hn | ⟨g, cap, cur, hv, hge, hg, rest⟩
  · exact .inl hn
  · refine .inr ⟨g, cap, cur, hv, hge, ?_, rest⟩
    rw [k.block g (Array.getElem?_eq_some_iff.1 hg).1 (by omega)]
    exact hg
theorem powns_shape {w : World} {base : Nat} {e : TypeId} {size : Nat} {v : Value} {n : Nat} {xs : List Value} (h : w.ownsRow base e size v n xs) : ∃ ad cap, v = .slice ad n cap := by
  rcases h.2 with ⟨h, h0⟩ | ⟨g, cap, cur, hv, -⟩
  · exact ⟨none, 0, by rw [h, h0]⟩
  · exact ⟨_, _, hv⟩

theorem Lm.start {s : ByteArray} {b o i : Nat} {w : World} (hQ : QB w b s i o) (hi : i ≤ s.size) : Lm s b o w (w.alloc nd0.obj) i (.slice none 0 0) [] :=
  ⟨heap_alloc_old hQ hQ.lt, heap_alloc_at _ _, World.ownsRow_nil _ _ _ _, (by simp), (Only.refl _ _).alloc _, hi, by simp⟩
theorem Lm.drewN {s : ByteArray} {b o ir : Nat} {w wr : World} {v : Value} {xs : List (Nd × P.T)} (h : Lm s b o w wr ir v xs) (n : Nat) : Lm s b o w (wr.drewN n) ir v xs := by
  obtain ⟨h1, h2, h3, h4, h5, h6, h7⟩ := h
  exact ⟨h1, h2, h3, fun x hx => (h4 x hx).only (fun _ _ _ => rfl), h5.drewN n, h6, h7⟩

theorem Lm.lt {s : ByteArray} {b o ir : Nat} {w wr : World} {v : Value} {xs : List (Nd × P.T)} (h : Lm s b o w wr ir v xs) : w.heap.size < wr.heap.size := by
  by_cases hx : w.heap.size < wr.heap.size
  · exact hx
  · have h2 := h.2.1
    unfold DB at h2; rw [Array.getElem?_eq_none (by omega)] at h2; cases h2

theorem Lm.append {s : ByteArray} {b o o' ir i4 : Nat} {w wr w4 w6 : World} {v v' : Value} {xs : List (Nd × P.T)} {d : Nd} {t : P.T} {X : Obj} (hb : b < w.heap.size) (h : Lm s b o w wr ir v xs) (hX : Only b wr w4) (hQ : QB w4 b s i4 o') (hN : PN w4 (· < wr.heap.size) d t) (hi : i4 ≤ s.size) (hl : ir < i4)
    (hown : w6.ownsRow (w.heap.size + 1) 49 8 v' (xs.length + 1) (ndCells xs ++ d.cells)) (hg : (w4.alloc X).grownBy w6 v.ownBlock) (hat : v'.ownBlock = v.ownBlock ∨ v'.ownBlock = some (w4.heap.size + 1)) : Lm s b o' w w6 i4 v' (xs ++ [(d, t)]) := by
  obtain ⟨h1, h2, h3, h4, h5, h6, h7⟩ := h
  have hsz : w.heap.size < wr.heap.size := by
    by_cases hx : w.heap.size < wr.heap.size
    · exact hx
    · unfold DB at h2; rw [Array.getElem?_eq_none (by omega)] at h2; cases h2
  have hsz4 := hX.size
  have hal : (w4.alloc X).heap.size = w4.heap.size + 1 := by simp
  have hvb : ∀ k, v.ownBlock = some k → w.heap.size + 1 ≤ k ∧ k < wr.heap.size := h3.lt
  have keep : ∀ k, k < w4.heap.size → v.ownBlock ≠ some k → w6.heap[k]? = w4.heap[k]? := fun k hk hv => (hg.block k (by omega) (fun e => hv e.symm)).trans (Below.heap_alloc _ _ _ (by omega))
  -- the set of both
  have hS : OnlyS (fun k => barsV w.heap.size v k ∨ barsV w.heap.size v' k) w4 w6 := fun k hk hs => keep k hk (fun e => hs (Or.inl (Or.inr e)))
  have turn : ∀ x : Nd × P.T, PN w4 (barsV w.heap.size v) x.1 x.2 → PN w6 (barsV w.heap.size v') x.1 x.2 := by
    intro x hx
    refine ((hx.bars (S' := fun k => barsV w.heap.size v k ∨ barsV w.heap.size v' k) ?_).only hS).bars (fun j _ hj => Or.inr hj)
    intro j hj hh
    rcases hh with hh | hh | hh
    · exact hh
    · exact Or.inl hh
    · rcases hat with e | e
      · exact Or.inr (e ▸ hh)
      · rw [e] at hh; have := Option.some.inj hh; omega
  refine ⟨?_, ?_, ?_, ?_, ?_, hi, ?_⟩
  · exact (keep b hQ.lt (fun e => by have := hvb _ e; omega)).trans hQ
  · exact (keep _ (by omega) (fun e => by have := hvb _ e; omega)).trans ((hX.block _ hsz (by omega)).trans h2)
  · rw [ndCells_snoc, List.length_append]; exact hown
  · intro x hx
    rw [List.mem_append, List.mem_singleton] at hx
    rcases hx with hx | hx
    · exact turn x ((h4 x hx).only (hX.toS.wide (fun k hk => Or.inl (by omega))))
    · subst hx
      refine turn _ (hN.bars ?_)
      intro j hj hh
      show j < wr.heap.size
      rcases hh with hh | hh
      · omega
      · exact (hvb _ hh).2
  · have hO4 : Only b w w4 := h5.trans hX
    exact ⟨hg.os.trans hO4.os, hg.tape.trans hO4.tape, hg.output.trans hO4.output, Nat.le_trans hO4.size (Nat.le_trans (by omega) hg.size), fun k hk hkb => (keep k (by omega) (fun e => by have := hvb _ e; omega)).trans (hO4.block k hk hkb)⟩
  · simp; omega

/-- The cells of a node that was just laid. -/
theorem nd_cells {w : World} {d : Nd} (j : Nat) (u : Value) (h : d.cells[j]? = some u) : (w.alloc d.obj).cell? ((⟨w.heap.size, 0, none⟩ : Addr).add j) = some u := by
  have e : (⟨w.heap.size, 0, none⟩ : Addr).add j = ⟨w.heap.size, j, none⟩ := by
    unfold Addr.add
    by_cases hj : j = 0
    · simp [hj]
    · simp [hj]
  rw [e]
  unfold World.cell?
  rw [heap_alloc_at]
  simpa [Nd.cells] using h
theorem nd_one {d : Nd} (u : Value) (h : u ∈ d.cells) : u.oneCell' = true := by
  simp only [Nd.cells, List.mem_cons, List.not_mem_nil, or_false] at h
  rcases h with rfl | rfl | rfl | rfl | rfl | rfl | rfl | rfl <;> rfl

/-- What a list's node is, once it is handed back. -/
theorem Lm.parts {s : ByteArray} {b o ir : Nat} {w wr w' : World} {v : Value} {xs : List (Nd × P.T)} (h : Lm s b o w wr ir v xs) (hx : xs ≠ []) (k : OnlyS (· ≤ w.heap.size) wr w') :
    ∃ g c, v = .slice (some ⟨g, 0, none⟩) xs.length c ∧ Parts w' (· < w.heap.size) g xs ∧ ∀ x, x ∈ xs → PN w' (· < w.heap.size) x.1 x.2 := by
  obtain ⟨h1, h2, h3, h4, h5, h6, h7⟩ := h
  rcases h3.2 with ⟨-, e⟩ | ⟨g, cap, cur, hv, hge, hh, -, -, -, ht⟩
  · exact absurd (List.length_eq_zero_iff.1 e) hx
  · have hlt : g < wr.heap.size := (Array.getElem?_eq_some_iff.1 hh).1
    refine ⟨g, cap, hv, ⟨fun e => by omega, cur, (k g hlt (by omega)).trans hh, ht⟩, fun x hx => ?_⟩
    exact (((h4 x hx).bars (S' := (· ≤ w.heap.size)) (fun j _ hj => Or.inl hj)).only k).bars (fun j _ hj => Nat.le_of_lt hj)

/-- The rounds over the atoms of a row. -/
def JR (s : ByteArray) (o : Nat) (R : P.PR P.T) (g ir : Nat) (xs : List (Nd × P.T)) : Prop :=
  (xs = [] ∧ ∃ f, f ≤ g ∧ R = P.row s f o ir) ∨ (xs ≠ [] ∧ ∃ f, f ≤ g ∧ R = P.rowOn s f o ir ⟨sumSz xs, allEm xs, .row (xsOf xs)⟩)
def goes (s : ByteArray) (ir : Nat) (xs : List (Nd × P.T)) : Bool := xs.length == 0 || P.begins (pk s ir)
theorem begins_pk (s : ByteArray) (i : Nat) : P.begins (pk s i) = P.begins (P.bt s i) := by
  unfold pk
  split
  · have := bt_range s i
    rw [show P.bt s i = -1 from by omega]; rfl
  · rfl

theorem JR.next {s : ByteArray} {o : Nat} {R : P.PR P.T} {g ir : Nat} {xs : List (Nd × P.T)} (h : JR s o R g ir xs) (hn : R ≠ .out) (hg : goes s ir xs = true) :
    ∃ f, f + 2 ≤ g ∧ R = ((P.atom s f o ir).bind fun t j => P.marks s f j t).bind fun u j => P.rowOn s (f + 1) o j ⟨sumSz xs + u.sz, allEm xs && u.em, .row (xsOf xs ++ [u.x])⟩ := by
  have key : ∀ (f : Nat) (k : P.T → P.T), f < g → R = (P.marked s f o ir).bind (fun u j => P.rowOn s f o j (k u)) → (∀ u, k u = ⟨sumSz xs + u.sz, allEm xs && u.em, .row (xsOf xs ++ [u.x])⟩) →
      ∃ f, f + 2 ≤ g ∧ R = ((P.atom s f o ir).bind fun t j => P.marks s f j t).bind fun u j => P.rowOn s (f + 1) o j ⟨sumSz xs + u.sz, allEm xs && u.em, .row (xsOf xs ++ [u.x])⟩ := by
    intro f k hf hR hk
    cases f with
    | zero => exact absurd (by rw [hR]; unfold P.marked; rfl) hn
    | succ f =>
      refine ⟨f, by omega, ?_⟩
      rw [hR, show P.marked s (f + 1) o ir = (P.atom s f o ir).bind fun t j => P.marks s f j t from by conv => lhs; unfold P.marked]
      congr 1
      funext u j
      rw [hk]
  rcases h with ⟨hx, f, hf, hR⟩ | ⟨hx, f, hf, hR⟩
  · cases f with
    | zero => exact absurd (by rw [hR]; unfold P.row; rfl) hn
    | succ f =>
      refine key f (fun u => ⟨u.sz, u.em, .row [u.x]⟩) (by omega) (by rw [hR]; conv => lhs; unfold P.row) (fun u => ?_)
      subst hx; simp [sumSz, allEm, xsOf]
  · cases f with
    | zero => exact absurd (by rw [hR]; unfold P.rowOn; rfl) hn
    | succ f =>
      have hb : P.begins (P.bt s ir) = true := by
        rw [← begins_pk]
        simpa [goes, hx] using hg
      refine key f (fun u => ⟨sumSz xs + u.sz, allEm xs && u.em, .row (xsOf xs ++ [u.x])⟩) (by omega) ?_ (fun _ => rfl)
      rw [hR]
      conv => lhs; unfold P.rowOn
      rw [if_pos hb]
      rfl

theorem JR.done {s : ByteArray} {o : Nat} {R : P.PR P.T} {g ir : Nat} {xs : List (Nd × P.T)} (h : JR s o R g ir xs) (hn : R ≠ .out) (hg : goes s ir xs = false) : xs ≠ [] ∧ R = .ok ⟨sumSz xs, allEm xs, .row (xsOf xs)⟩ ir := by
  simp only [goes, Bool.or_eq_false_iff, beq_eq_false_iff_ne] at hg
  obtain ⟨h0, hb⟩ := hg
  rw [begins_pk] at hb
  rcases h with ⟨hx, -⟩ | ⟨hx, f, hf, hR⟩
  · subst hx; exact absurd rfl h0
  · refine ⟨hx, ?_⟩
    cases f with
    | zero => exact absurd (by rw [hR]; unfold P.rowOn; rfl) hn
    | succ f => rw [hR]; conv => lhs; unfold P.rowOn
                rw [if_neg (by rw [hb]; exact Bool.false_ne_true)]

/-- The rounds over the rows of a choice. -/
def JA (s : ByteArray) (o : Nat) (R : P.PR P.T) (g ir : Nat) (xs : List (Nd × P.T)) : Prop :=
  (xs = [] ∧ ∃ f, f ≤ g ∧ R = P.alt s f o ir) ∨ (xs ≠ [] ∧ ∃ f, f ≤ g ∧ ∃ i0, i0 + 1 = ir ∧ P.bt s i0 = 124 ∧ R = P.altOn s f o i0 ⟨sumSz xs + (xs.length - 1), anyEm xs, .alt (xsOf xs)⟩)
theorem JA.next {s : ByteArray} {o : Nat} {R : P.PR P.T} {g ir : Nat} {xs : List (Nd × P.T)} (h : JA s o R g ir xs) (hn : R ≠ .out) :
    ∃ f, f < g ∧ R = (P.row s f o ir).bind fun u j => P.altOn s f o j ⟨sumSz xs + u.sz + xs.length, anyEm xs || u.em, .alt (xsOf xs ++ [u.x])⟩ := by
  rcases h with ⟨hx, f, hf, hR⟩ | ⟨hx, f, hf, i0, rfl, hb, hR⟩
  · cases f with
    | zero => exact absurd (by rw [hR]; unfold P.alt; rfl) hn
    | succ f =>
      refine ⟨f, by omega, ?_⟩
      rw [hR, show P.alt s (f + 1) o ir = (P.row s f o ir).bind fun u j => P.altOn s f o j ⟨u.sz, u.em, .alt [u.x]⟩ from by conv => lhs; unfold P.alt]
      congr 1
      funext u j
      subst hx; simp [sumSz, anyEm, xsOf]
  · cases f with
    | zero => exact absurd (by rw [hR]; unfold P.altOn; rfl) hn
    | succ f =>
      refine ⟨f, by omega, ?_⟩
      have hl : 0 < xs.length := List.length_pos_iff.2 hx
      rw [hR]
      conv => lhs; unfold P.altOn
      rw [if_pos hb]
      congr 1
      funext u j
      have e : sumSz xs + (xs.length - 1) + 1 + u.sz = sumSz xs + u.sz + xs.length := by omega
      rw [← e]
      rfl
end Go.Proofs.YtjhmlcilabnlbaaDoor
