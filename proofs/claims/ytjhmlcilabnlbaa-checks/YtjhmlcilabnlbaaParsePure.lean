/- The rules: what the rounds of the document's answer come to, in plain words. -/
import Derived.Test.YtjhmlcilabnlbaaTextSpec
import Derived.Test.YtjhmlcilabnlbaaRefJ
import Derived.Test.YtjhmlcilabnlbaaRefK
namespace Go.Proofs.Ytjhmlcilabnlbaa
open Go.RowKit

/-- A rule of the document's answer, and its node's block. -/
abbrev RX := P.Rl × Nat
def cellsOf (x : RX) : List Value := [.string x.1.name, .int .i64 (x.1.pos : Int), .pointer (some ⟨x.2, 0, none⟩), .int .i64 (x.1.t.sz : Int)]
def rowCells (xs : List RX) : List Value := xs.flatMap cellsOf
theorem rowCells_snoc (xs : List RX) (x : RX) : rowCells (xs ++ [x]) = rowCells xs ++ cellsOf x := by simp [rowCells]

theorem any_both (F b : Nat) (s : ByteArray) (hs : s.size ≤ 400) (hA : AnyC s b F) (i o z : Nat) (B : Int) (w : World) (hR : RB w b s i o z B) (hi : i ≤ s.size) (ho : o ≤ 20) (hB : Mark B) (hz : Sz B i z) (hP : B = -1 → P.alt s F o i ≠ .out) :
    Calls Try.prog 18 #[.pointer (some ⟨b, 0, none⟩)] w fun e w' => OutN s b o z (gate B (fin s o (P.alt s F o i))) w e w' := by
  rcases hB with h | h
  · subst h; exact hA o i z w hR hi ho hz (hP rfl)
  · exact any_past b s i o z B w hs hR hi h hz _

theorem owns_only {w w' : World} {b base : Nat} {e : TypeId} {size : Nat} {v : Value} {n : Nat} {xs : List Value} (h : w.ownsRow base e size v n xs) (k : Only b w w') (hb : b < base) : w'.ownsRow base e size v n xs := by
  obtain ⟨h1, h2⟩ := h
  refine ⟨h1, ?_⟩
  rcases h2 with h2 | ⟨g, cap, cur, hv, hg, hh, r⟩
  · exact Or.inl h2
  · have hlt : g < w.heap.size := by
      by_cases hx : g < w.heap.size
      · exact hx
      · simp [hx] at hh
    exact Or.inr ⟨g, cap, cur, hv, hg, (k.block g hlt (by omega)).trans hh, r⟩
theorem RN.grown {w w' : World} {b n : Nat} {em : Bool} {row : Option Nat} (h : RN w b n em) (k : w.grownBy w' row) (hr : ∀ g, row = some g → ∃ cur e, w.heap[g]? = some (.cells cur e (0, 0)) ∧ e ≠ 64) : RN w' b n em := by
  have key : ∀ {n : Nat} {op : Int} {has A B : Value}, NB w n op has A B → NB w' n op has A B := by
    intro n op has A B hN
    refine (k.block n hN.lt ?_).trans hN
    intro e
    obtain ⟨cur, t, hh, ht⟩ := hr n e.symm
    unfold NB at hN
    rw [hh] at hN
    injection hN with hN
    injection hN with _ h2 _
    exact ht h2
  induction h with
  | leaf hb h => exact .leaf hb (key h)
  | opt ho hb h => exact .opt ho hb (key h)
  | plus hb h _ ih => exact .plus hb (key h) ih
  | row hb h _ _ i1 i2 => exact .row hb (key h) i1 i2
  | alt hb h _ _ i1 i2 => exact .alt hb (key h) i1 i2
theorem below_only {B b : Nat} {w x y : World} (h : Below B w x) (k : Only b x y) (hb : B ≤ b) (hs : B ≤ x.heap.size) : Below B w y :=
  ⟨k.os.trans h.os, k.tape.trans h.tape, k.output.trans h.output, Nat.le_trans h.size k.size, fun j hj => (k.block j (by omega) (by omega)).trans (h.block j hj)⟩

theorem nameTo_succ (s : ByteArray) (n i : Nat) : P.nameTo s (n + 1) i = if 97 ≤ P.bt s i ∧ P.bt s i ≤ 122 then P.nameTo s n (i + 1) else i := rfl
theorem nameTo_ge (s : ByteArray) (n i : Nat) : i ≤ P.nameTo s n i := by
  induction n generalizing i with
  | zero => exact Nat.le_refl _
  | succ n ih => rw [nameTo_succ]; split; have := ih (i + 1); omega; exact Nat.le_refl _
theorem nameTo_le (s : ByteArray) (n i : Nat) (hi : i ≤ s.size) : P.nameTo s n i ≤ s.size := by
  induction n generalizing i with
  | zero => exact hi
  | succ n ih =>
    rw [nameTo_succ]; split
    · rename_i h; exact ih (i + 1) (lt_of_bt (by omega))
    · exact hi

/-- The marks of the name and its sign. -/
def nameB (at0 j : Nat) : Int := if j = at0 then (at0 : Int) else -1

def Jp (s : ByteArray) (F : Nat) (R : P.PR (List P.Rl)) (G g i : Nat) (B : Int) (xs : List RX) : Prop :=
  (0 ≤ B ∧ R = .bad B.toNat) ∨ (B = -1 ∧ xs ≠ [] ∧ s.size ≤ i ∧ ∃ k, R = .ok (xs.map (·.1)) k) ∨ (B = -1 ∧ (xs = [] ∨ i < s.size) ∧ ∃ f, f ≤ g ∧ f + xs.length ≤ G ∧ R = P.text s F f i (xs.map (·.1)))

theorem text_succ (s : ByteArray) (F g i : Nat) (acc : List P.Rl) : P.text s F (g + 1) i acc = (P.rule s F i).bind fun r k =>
      if s.size ≤ k then .ok (acc ++ [r]) k
      else if P.bt s k = 10 then (if s.size ≤ k + 1 then .ok (acc ++ [r]) (k + 1) else P.text s F g (k + 1) (acc ++ [r]))
      else .bad k := rfl

/-- One round: the name ends at j; its sign; what follows. -/
theorem Jp_round {s : ByteArray} {F : Nat} {R : P.PR (List P.Rl)} {G f g i i3 n : Nat} {B3 : Int} {t : P.T} {xs : List RX} (hR : R = P.text s F f i (xs.map (·.1))) (hn : R ≠ .out) (hg : f ≤ g) (hG : f + xs.length ≤ G)
    (hf : Fits (gate (need (nameB i (P.nameTo s 8 i)) s (P.nameTo s 8 i) 61) (fin s 0 (P.alt s F 0 (stp (seen (nameB i (P.nameTo s 8 i)) s (P.nameTo s 8 i) 61) (P.nameTo s 8 i))))) t i3 B3) :
    ∃ g', g' < g ∧ xs.length + 1 ≤ G ∧ Jp s F R G g' (if B3 = -1 ∧ i3 < s.size then stp (seen B3 s i3 10) i3 else i3) (if B3 = -1 ∧ i3 < s.size then need B3 s i3 10 else B3) (xs ++ [(⟨s.extract i (P.nameTo s 8 i), i, t⟩, n)]) := by
  cases f with
  | zero => exact absurd hR hn
  | succ f =>
    refine ⟨f, by omega, by omega, ?_⟩
    rw [text_succ] at hR
    generalize hj : P.nameTo s 8 i = j at *
    by_cases h1 : j = i
    · -- no name
      have hb : nameB i j = (i : Int) := by unfold nameB; rw [if_pos h1]
      have hne : need (nameB i j) s j 61 = (i : Int) := by unfold need; rw [hb, seen_pos (by omega)]; simp only [Bool.false_eq_true, if_false]; rw [mrk_pos (by omega)]
      rw [hne, gate_pos (by omega)] at hf
      have hB3 : B3 = (i : Int) := by have h : B3 = (((i : Int).toNat : Nat) : Int) := hf; omega
      have hr : P.rule s F i = .bad i := by unfold P.rule; rw [hj, if_pos h1]
      rw [hr] at hR
      left
      rw [if_neg (by omega)]
      exact ⟨by omega, by rw [hR, hB3]; rfl⟩
    · have hb : nameB i j = -1 := by unfold nameB; rw [if_neg h1]
      rw [hb] at hf
      by_cases h61 : P.bt s j = 61
      · have hse : seen (-1) s j 61 = true := seen_mk (by omega) h61
        have hne : need (-1) s j 61 = -1 := by unfold need; rw [hse]; rfl
        rw [hne, hse, stp_true, gate_neg] at hf
        have hr : P.rule s F i = (P.alt s F 0 (j + 1)).bind fun t k => .ok ⟨s.extract i j, i, t⟩ k := by unfold P.rule; rw [hj, if_neg h1, if_pos h61]
        rw [hr] at hR
        cases ha : P.alt s F 0 (j + 1) with
        | out => rw [ha] at hR; exact absurd hR hn
        | bad p =>
          rw [ha] at hf hR
          have hB3 : B3 = (p : Int) := hf
          left
          rw [if_neg (by omega)]
          exact ⟨by omega, by rw [hR, hB3]; rfl⟩
        | ok u k =>
          rw [ha] at hf hR
          have hf' : Fits (if stops s 0 k then (.ok u k : P.PR P.T) else .bad k) t i3 B3 := hf
          have hR' : R = if s.size ≤ k then .ok (xs.map (·.1) ++ [⟨s.extract i j, i, u⟩]) k
            else if P.bt s k = 10 then (if s.size ≤ k + 1 then .ok (xs.map (·.1) ++ [⟨s.extract i j, i, u⟩]) (k + 1) else P.text s F f (k + 1) (xs.map (·.1) ++ [⟨s.extract i j, i, u⟩]))
            else .bad k := hR
          have hmap : ∀ v : P.T, (xs ++ [((⟨s.extract i j, i, v⟩ : P.Rl), n)]).map (·.1) = xs.map (·.1) ++ [⟨s.extract i j, i, v⟩] := by intro v; simp
          cases hst : stops s 0 k with
          | true =>
            rw [hst] at hf'
            obtain ⟨e1, e2, e3⟩ := hf'
            subst e1; subst e2; subst e3
            by_cases hl : i3 < s.size
            · rw [if_pos ⟨rfl, hl⟩, if_pos ⟨rfl, hl⟩]
              rw [if_neg (by omega)] at hR'
              by_cases h10 : P.bt s i3 = 10
              · have hs10 : seen (-1) s i3 10 = true := seen_mk (by omega) h10
                have hn10 : need (-1) s i3 10 = -1 := by unfold need; rw [hs10]; rfl
                rw [hs10, hn10, stp_true]
                rw [if_pos h10] at hR'
                by_cases hl2 : s.size ≤ i3 + 1
                · rw [if_pos hl2] at hR'
                  exact Or.inr (Or.inl ⟨rfl, by simp, hl2, _, by rw [hR', hmap]⟩)
                · rw [if_neg hl2] at hR'
                  exact Or.inr (Or.inr ⟨rfl, Or.inr (by omega), f, Nat.le_refl _, by simp; omega, by rw [hR', hmap]⟩)
              · have hs10 : seen (-1) s i3 10 = false := seen_ne h10
                have hn10 : need (-1) s i3 10 = (i3 : Int) := by unfold need; rw [hs10]; simp only [Bool.false_eq_true, if_false]; rw [mrk_neg (by omega)]
                rw [if_neg h10] at hR'
                rw [hn10]
                exact Or.inl ⟨by omega, by rw [hR']; rfl⟩
            · rw [if_neg (by omega), if_neg (by omega)]
              rw [if_pos (by omega)] at hR'
              exact Or.inr (Or.inl ⟨rfl, by simp, by omega, _, by rw [hR', hmap]⟩)
          | false =>
            rw [hst] at hf'
            have hB3 : B3 = (k : Int) := hf'
            simp only [stops, Bool.or_eq_false_iff, Bool.and_eq_false_iff, decide_eq_false_iff_not, beq_eq_false_iff_ne] at hst
            rw [if_neg (by omega), if_neg (by have := hst.1.2; simp at this; exact this)] at hR'
            left
            rw [if_neg (by omega)]
            exact ⟨by omega, by rw [hR', hB3]; rfl⟩
      · have hne : need (-1) s j 61 = (j : Int) := by unfold need; rw [seen_ne h61]; simp only [Bool.false_eq_true, if_false]; rw [mrk_neg (by omega)]
        rw [hne, gate_pos (by omega)] at hf
        have hB3 : B3 = (j : Int) := by have h : B3 = (((j : Int).toNat : Nat) : Int) := hf; omega
        have hr : P.rule s F i = .bad j := by unfold P.rule; rw [hj, if_neg h1, if_neg h61]
        rw [hr] at hR
        left
        rw [if_neg (by omega)]
        exact ⟨by omega, by rw [hR, hB3]; rfl⟩

end Go.Proofs.Ytjhmlcilabnlbaa
