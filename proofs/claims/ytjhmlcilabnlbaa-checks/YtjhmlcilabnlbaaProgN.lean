/- The program: a list of nodes that grows; what the rounds of a row and of a choice come to. -/
import Derived.Test.YtjhmlcilabnlbaaProgM
import Derived.Test.YtjhmlcilabnlbaaSized
import Derived.Maps.AppendAt
namespace Go.Proofs.Ytjhmlcilabnlbaa
open Go.RowKit

theorem Try.info38 : (Try.prog.info? 38).map (fun i => (i.zero, i.size, i.bytes)) = some (some (.agg #[.int .i64 0, .int .u64 0, .int .u64 0, .int .u64 0, .int .u64 0, .slice none 0 0, .bool false, .bool false]), 8, 72) := by kernel_rfl

/-- What is barred: all that was there, the result's box, and the list's own block. -/
def barsV (n : Nat) (v : Value) : Nat → Prop := fun k => k ≤ n ∨ v.ownBlock = some k

/-- A list of nodes that the call has built so far. -/
def Lm (s : ByteArray) (b o : Nat) (w wr : World) (ir : Nat) (v : Value) (xs : List (Nd × P.T)) : Prop :=
  QB wr b s ir o ∧ DB wr w.heap.size nd0 ∧ wr.ownsRow (w.heap.size + 1) 38 8 v xs.length (ndCells xs) ∧ (∀ x, x ∈ xs → PN wr (barsV w.heap.size v) x.1 x.2) ∧ Only b w wr ∧ ir ≤ s.size ∧ xs.length ≤ ir

theorem ndCells_snoc (xs : List (Nd × P.T)) (d : Nd) (t : P.T) : ndCells (xs ++ [(d, t)]) = ndCells xs ++ d.cells := by simp [ndCells]
theorem sumSz_snoc (xs : List (Nd × P.T)) (d : Nd) (t : P.T) : sumSz (xs ++ [(d, t)]) = sumSz xs + t.sz := by simp [sumSz]
theorem allEm_snoc (xs : List (Nd × P.T)) (d : Nd) (t : P.T) : allEm (xs ++ [(d, t)]) = (allEm xs && t.em) := by simp [allEm]
theorem anyEm_snoc (xs : List (Nd × P.T)) (d : Nd) (t : P.T) : anyEm (xs ++ [(d, t)]) = (anyEm xs || t.em) := by simp [anyEm]
theorem powns_only {w w' : World} {b base : Nat} {e : TypeId} {size : Nat} {v : Value} {n : Nat} {xs : List Value} (h : w.ownsRow base e size v n xs) (k : Only b w w') (hb : b < base) : w'.ownsRow base e size v n xs := by
  refine ⟨h.1, ?_⟩
  rcases h.2 with hn | ⟨g, cap, cur, hv, hge, hg, rest⟩
  · exact .inl hn
  · refine .inr ⟨g, cap, cur, hv, hge, ?_, rest⟩
    rw [k.block g (Array.getElem?_eq_some_iff.1 hg).1 (by omega)]
    exact hg
theorem powns_shape {w : World} {base : Nat} {e : TypeId} {size : Nat} {v : Value} {n : Nat} {xs : List Value} (h : w.ownsRow base e size v n xs) : ∃ ad cap, v = .slice ad n cap := by
  rcases h.2 with ⟨h, h0⟩ | ⟨g, cap, cur, hv, -⟩
  · exact ⟨none, 0, by rw [h, h0]⟩
  · exact ⟨_, _, hv⟩

theorem Lm.start {s : ByteArray} {b o i : Nat} {w : World} (hQ : QB w b s i o) (hi : i ≤ s.size) : Lm s b o w (w.alloc nd0.obj) i (.slice none 0 0) [] :=
  ⟨heap_alloc_old hQ hQ.lt, heap_alloc_at _ _, World.ownsRow_nil _ _ _ _, (by simp), (Only.refl _ _).alloc _, hi, by simp⟩
theorem Lm.drewN {s : ByteArray} {b o ir : Nat} {w wr : World} {v : Value} {xs : List (Nd × P.T)} (h : Lm s b o w wr ir v xs) (n : Nat) : Lm s b o w (wr.drewN n) ir v xs := by
  obtain ⟨h1, h2, h3, h4, h5, h6, h7⟩ := h
  exact ⟨h1, h2, h3, fun x hx => (h4 x hx).only (fun _ _ _ => rfl), h5.drewN n, h6, h7⟩

theorem Lm.lt {s : ByteArray} {b o ir : Nat} {w wr : World} {v : Value} {xs : List (Nd × P.T)} (h : Lm s b o w wr ir v xs) : w.heap.size < wr.heap.size := by
  by_cases hx : w.heap.size < wr.heap.size
  · exact hx
  · have h2 := h.2.1
    unfold DB at h2; rw [Array.getElem?_eq_none (by omega)] at h2; cases h2

theorem Lm.append {s : ByteArray} {b o o' ir i4 : Nat} {w wr w4 w6 : World} {v v' : Value} {xs : List (Nd × P.T)} {d : Nd} {t : P.T} {X : Obj} (hb : b < w.heap.size) (h : Lm s b o w wr ir v xs) (hX : Only b wr w4) (hQ : QB w4 b s i4 o') (hN : PN w4 (· < wr.heap.size) d t) (hi : i4 ≤ s.size) (hl : ir < i4)
    (hown : w6.ownsRow (w.heap.size + 1) 38 8 v' (xs.length + 1) (ndCells xs ++ d.cells)) (hg : (w4.alloc X).grownBy w6 v.ownBlock) (hat : v'.ownBlock = v.ownBlock ∨ v'.ownBlock = some (w4.heap.size + 1)) : Lm s b o' w w6 i4 v' (xs ++ [(d, t)]) := by
  obtain ⟨h1, h2, h3, h4, h5, h6, h7⟩ := h
  have hsz : w.heap.size < wr.heap.size := by
    by_cases hx : w.heap.size < wr.heap.size
    · exact hx
    · unfold DB at h2; rw [Array.getElem?_eq_none (by omega)] at h2; cases h2
  have hsz4 := hX.size
  have hal : (w4.alloc X).heap.size = w4.heap.size + 1 := by simp
  have hvb : ∀ k, v.ownBlock = some k → w.heap.size + 1 ≤ k ∧ k < wr.heap.size := h3.lt
  have keep : ∀ k, k < w4.heap.size → v.ownBlock ≠ some k → w6.heap[k]? = w4.heap[k]? := fun k hk hv => (hg.block k (by omega) (fun e => hv e.symm)).trans (Below.heap_alloc _ _ _ (by omega))
  -- the set of both
  have hS : OnlyS (fun k => barsV w.heap.size v k ∨ barsV w.heap.size v' k) w4 w6 := fun k hk hs => keep k hk (fun e => hs (Or.inl (Or.inr e)))
  have turn : ∀ x : Nd × P.T, PN w4 (barsV w.heap.size v) x.1 x.2 → PN w6 (barsV w.heap.size v') x.1 x.2 := by
    intro x hx
    refine ((hx.bars (S' := fun k => barsV w.heap.size v k ∨ barsV w.heap.size v' k) ?_).only hS).bars (fun j _ hj => Or.inr hj)
    intro j hj hh
    rcases hh with hh | hh | hh
    · exact hh
    · exact Or.inl hh
    · rcases hat with e | e
      · exact Or.inr (e ▸ hh)
      · rw [e] at hh; have := Option.some.inj hh; omega
  refine ⟨?_, ?_, ?_, ?_, ?_, hi, ?_⟩
  · exact (keep b hQ.lt (fun e => by have := hvb _ e; omega)).trans hQ
  · exact (keep _ (by omega) (fun e => by have := hvb _ e; omega)).trans ((hX.block _ hsz (by omega)).trans h2)
  · rw [ndCells_snoc, List.length_append]; exact hown
  · intro x hx
    rw [List.mem_append, List.mem_singleton] at hx
    rcases hx with hx | hx
    · exact turn x ((h4 x hx).only (hX.toS.wide (fun k hk => Or.inl (by omega))))
    · subst hx
      refine turn _ (hN.bars ?_)
      intro j hj hh
      show j < wr.heap.size
      rcases hh with hh | hh
      · omega
      · exact (hvb _ hh).2
  · have hO4 : Only b w w4 := h5.trans hX
    exact ⟨hg.os.trans hO4.os, hg.tape.trans hO4.tape, hg.output.trans hO4.output, Nat.le_trans hO4.size (Nat.le_trans (by omega) hg.size), fun k hk hkb => (keep k (by omega) (fun e => by have := hvb _ e; omega)).trans (hO4.block k hk hkb)⟩
  · simp; omega

/-- The cells of a node that was just laid. -/
theorem nd_cells {w : World} {d : Nd} (j : Nat) (u : Value) (h : d.cells[j]? = some u) : (w.alloc d.obj).cell? ((⟨w.heap.size, 0, none⟩ : Addr).add j) = some u := by
  have e : (⟨w.heap.size, 0, none⟩ : Addr).add j = ⟨w.heap.size, j, none⟩ := by
    unfold Addr.add
    by_cases hj : j = 0
    · simp [hj]
    · simp [hj]
  rw [e]
  unfold World.cell?
  rw [heap_alloc_at]
  simpa [Nd.cells] using h
theorem nd_one {d : Nd} (u : Value) (h : u ∈ d.cells) : u.oneCell' = true := by
  simp only [Nd.cells, List.mem_cons, List.not_mem_nil, or_false] at h
  rcases h with rfl | rfl | rfl | rfl | rfl | rfl | rfl | rfl <;> rfl

/-- What a list's node is, once it is handed back. -/
theorem Lm.parts {s : ByteArray} {b o ir : Nat} {w wr w' : World} {v : Value} {xs : List (Nd × P.T)} (h : Lm s b o w wr ir v xs) (hx : xs ≠ []) (k : OnlyS (· ≤ w.heap.size) wr w') :
    ∃ g c, v = .slice (some ⟨g, 0, none⟩) xs.length c ∧ Parts w' (· < w.heap.size) g xs ∧ ∀ x, x ∈ xs → PN w' (· < w.heap.size) x.1 x.2 := by
  obtain ⟨h1, h2, h3, h4, h5, h6, h7⟩ := h
  rcases h3.2 with ⟨-, e⟩ | ⟨g, cap, cur, hv, hge, hh, -, -, -, ht⟩
  · exact absurd (List.length_eq_zero_iff.1 e) hx
  · have hlt : g < wr.heap.size := (Array.getElem?_eq_some_iff.1 hh).1
    refine ⟨g, cap, hv, ⟨fun e => by omega, cur, (k g hlt (by omega)).trans hh, ht⟩, fun x hx => ?_⟩
    exact (((h4 x hx).bars (S' := (· ≤ w.heap.size)) (fun j _ hj => Or.inl hj)).only k).bars (fun j _ hj => Nat.le_of_lt hj)

/-- The rounds over the atoms of a row. -/
def JR (s : ByteArray) (o : Nat) (R : P.PR P.T) (g ir : Nat) (xs : List (Nd × P.T)) : Prop :=
  (xs = [] ∧ ∃ f, f ≤ g ∧ R = P.row s f o ir) ∨ (xs ≠ [] ∧ ∃ f, f ≤ g ∧ R = P.rowOn s f o ir ⟨sumSz xs, allEm xs⟩)
def goes (s : ByteArray) (ir : Nat) (xs : List (Nd × P.T)) : Bool := xs.length == 0 || P.begins (pk s ir)
theorem begins_pk (s : ByteArray) (i : Nat) : P.begins (pk s i) = P.begins (P.bt s i) := by
  unfold pk
  split
  · have := bt_range s i
    rw [show P.bt s i = -1 from by omega]; rfl
  · rfl

theorem JR.next {s : ByteArray} {o : Nat} {R : P.PR P.T} {g ir : Nat} {xs : List (Nd × P.T)} (h : JR s o R g ir xs) (hn : R ≠ .out) (hg : goes s ir xs = true) :
    ∃ f, f + 2 ≤ g ∧ R = ((P.atom s f o ir).bind fun t j => P.marks s f j t).bind fun u j => P.rowOn s (f + 1) o j ⟨sumSz xs + u.sz, allEm xs && u.em⟩ := by
  have key : ∀ (f : Nat) (k : P.T → P.T), f < g → R = (P.marked s f o ir).bind (fun u j => P.rowOn s f o j (k u)) → (∀ u, k u = ⟨sumSz xs + u.sz, allEm xs && u.em⟩) →
      ∃ f, f + 2 ≤ g ∧ R = ((P.atom s f o ir).bind fun t j => P.marks s f j t).bind fun u j => P.rowOn s (f + 1) o j ⟨sumSz xs + u.sz, allEm xs && u.em⟩ := by
    intro f k hf hR hk
    cases f with
    | zero => exact absurd (by rw [hR]; unfold P.marked; rfl) hn
    | succ f =>
      refine ⟨f, by omega, ?_⟩
      rw [hR, show P.marked s (f + 1) o ir = (P.atom s f o ir).bind fun t j => P.marks s f j t from by conv => lhs; unfold P.marked]
      congr 1
      funext u j
      rw [hk]
  rcases h with ⟨hx, f, hf, hR⟩ | ⟨hx, f, hf, hR⟩
  · cases f with
    | zero => exact absurd (by rw [hR]; unfold P.row; rfl) hn
    | succ f =>
      refine key f id (by omega) (by rw [hR, show P.row s (f + 1) o ir = (P.marked s f o ir).bind (fun u j => P.rowOn s f o j u) from by conv => lhs; unfold P.row]; rfl) (fun u => ?_)
      subst hx; simp [sumSz, allEm]
  · cases f with
    | zero => exact absurd (by rw [hR]; unfold P.rowOn; rfl) hn
    | succ f =>
      have hb : P.begins (P.bt s ir) = true := by
        rw [← begins_pk]
        simpa [goes, hx] using hg
      refine key f (fun u => ⟨sumSz xs + u.sz, allEm xs && u.em⟩) (by omega) ?_ (fun _ => rfl)
      rw [hR]
      conv => lhs; unfold P.rowOn
      rw [if_pos hb]

theorem JR.done {s : ByteArray} {o : Nat} {R : P.PR P.T} {g ir : Nat} {xs : List (Nd × P.T)} (h : JR s o R g ir xs) (hn : R ≠ .out) (hg : goes s ir xs = false) : xs ≠ [] ∧ R = .ok ⟨sumSz xs, allEm xs⟩ ir := by
  simp only [goes, Bool.or_eq_false_iff, beq_eq_false_iff_ne] at hg
  obtain ⟨h0, hb⟩ := hg
  rw [begins_pk] at hb
  rcases h with ⟨hx, -⟩ | ⟨hx, f, hf, hR⟩
  · subst hx; exact absurd rfl h0
  · refine ⟨hx, ?_⟩
    cases f with
    | zero => exact absurd (by rw [hR]; unfold P.rowOn; rfl) hn
    | succ f => rw [hR]; conv => lhs; unfold P.rowOn
                rw [if_neg (by rw [hb]; exact Bool.false_ne_true)]

/-- The rounds over the rows of a choice. -/
def JA (s : ByteArray) (o : Nat) (R : P.PR P.T) (g ir : Nat) (xs : List (Nd × P.T)) : Prop :=
  (xs = [] ∧ ∃ f, f ≤ g ∧ R = P.alt s f o ir) ∨ (xs ≠ [] ∧ ∃ f, f ≤ g ∧ ∃ i0, i0 + 1 = ir ∧ P.bt s i0 = 124 ∧ R = P.altOn s f o i0 ⟨sumSz xs + (xs.length - 1), anyEm xs⟩)
theorem JA.next {s : ByteArray} {o : Nat} {R : P.PR P.T} {g ir : Nat} {xs : List (Nd × P.T)} (h : JA s o R g ir xs) (hn : R ≠ .out) :
    ∃ f, f < g ∧ R = (P.row s f o ir).bind fun u j => P.altOn s f o j ⟨sumSz xs + u.sz + xs.length, anyEm xs || u.em⟩ := by
  rcases h with ⟨hx, f, hf, hR⟩ | ⟨hx, f, hf, i0, rfl, hb, hR⟩
  · cases f with
    | zero => exact absurd (by rw [hR]; unfold P.alt; rfl) hn
    | succ f =>
      refine ⟨f, by omega, ?_⟩
      rw [hR, show P.alt s (f + 1) o ir = (P.row s f o ir).bind fun u j => P.altOn s f o j u from by conv => lhs; unfold P.alt]
      congr 1
      funext u j
      subst hx; simp [sumSz, anyEm]
  · cases f with
    | zero => exact absurd (by rw [hR]; unfold P.altOn; rfl) hn
    | succ f =>
      refine ⟨f, by omega, ?_⟩
      have hl : 0 < xs.length := List.length_pos_iff.2 hx
      rw [hR]
      conv => lhs; unfold P.altOn
      rw [if_pos hb]
      congr 1
      funext u j
      congr 2
      show sumSz xs + (xs.length - 1) + 1 + u.sz = sumSz xs + u.sz + xs.length
      omega
end Go.Proofs.Ytjhmlcilabnlbaa
