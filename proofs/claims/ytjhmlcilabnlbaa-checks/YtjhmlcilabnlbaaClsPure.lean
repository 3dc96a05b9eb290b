/- Square brackets: what the rounds of the document's answer come to, in plain words. -/
import Derived.Test.YtjhmlcilabnlbaaRefD
namespace Go.Proofs.Ytjhmlcilabnlbaa
open Go.RowKit

theorem item_nodash {s : ByteArray} {i i1 : Nat} {lo B1 : Int} (h1 : Fits (gate (-1) (P.small s i)) lo i1 B1) (h2 : seen B1 s i1 45 = false) : Fits (gate (-1) (P.item s i)) (lo, lo) i1 B1 := by
  unfold P.item
  refine h1.bind ?_
  rcases h1.mark with h | h
  · have : P.bt s i1 ≠ 45 := fun e => by rw [seen_mk (by omega) e] at h2; cases h2
    rw [if_neg this, h]; exact Fits.ok _ _
  · exact Fits.past h _ _ _
theorem item_dash {s : ByteArray} {i i1 i2 : Nat} {lo hi B1 B2 : Int} (h1 : Fits (gate (-1) (P.small s i)) lo i1 B1) (h2 : seen B1 s i1 45 = true) (h3 : Fits (gate B1 (P.small s (i1 + 1))) hi i2 B2) : Fits (gate (-1) (P.item s i)) (lo, hi) i2 (if hi < lo then mrk B2 ((i1 + 1 : Nat) : Int) else B2) := by
  unfold P.item
  refine h1.bind ?_
  obtain ⟨hb, he⟩ := seen_true h2
  rw [if_pos he]
  refine h3.bind ?_
  rcases h3.mark with h | h
  · rw [h, gate_neg]
    by_cases hl : hi < lo
    · rw [if_pos hl, if_pos hl, mrk_neg (by omega)]; rfl
    · rw [if_neg hl, if_neg hl]; exact ⟨rfl, rfl, rfl⟩
  · have e : (if hi < lo then mrk B2 ((i1 + 1 : Nat) : Int) else B2) = B2 := by split; exact mrk_pos h _; rfl
    rw [e]; exact Fits.past h _ _ _

/-- Where the rounds over the items stand: R is what they will come to. -/
def Jt (s : ByteArray) (R : P.PR (Nat → Bool)) (F g k i : Nat) (B : Int) (acc : Nat → Bool) : Prop :=
  (0 ≤ B ∧ R = .bad B.toNat) ∨ (B = -1 ∧ k ≠ 0 ∧ P.bt s i = 93 ∧ R = .ok acc i) ∨ (B = -1 ∧ (k = 0 ∨ P.bt s i ≠ 93) ∧ ∃ fr, fr + k ≤ F ∧ fr ≤ g ∧ R = P.items s fr i acc)

theorem Jt_start (s : ByteArray) (F i : Nat) (acc : Nat → Bool) : Jt s (P.items s F i acc) F F 0 i (-1) acc := Or.inr (Or.inr ⟨rfl, Or.inl rfl, F, by omega, Nat.le_refl _, rfl⟩)

theorem items_succ (s : ByteArray) (f i : Nat) (acc : Nat → Bool) : P.items s (f + 1) i acc = (P.item s i).bind fun lh j => if P.bt s j = 93 then .ok (P.add acc lh.1 lh.2) j else P.items s f j (P.add acc lh.1 lh.2) := rfl

/-- One round. -/
theorem Jt_round {s : ByteArray} {R : P.PR (Nat → Bool)} {F fr g k i j : Nat} {lo hi B : Int} {acc acc' : Nat → Bool} (hR : R = P.items s fr i acc) (hn : R ≠ .out) (hF : fr + k ≤ F) (hg : fr ≤ g) (hf : Fits (gate (-1) (P.item s i)) (lo, hi) j B) (ha : B = -1 → acc' = P.add acc lo hi) : ∃ g', g' < g ∧ Jt s R F g' (k + 1) j B acc' ∧ k + 1 ≤ F := by
  cases fr with
  | zero => exact absurd hR hn
  | succ f =>
    refine ⟨f, by omega, ?_, by omega⟩
    rw [items_succ] at hR
    rw [gate_neg] at hf
    cases hi : P.item s i with
    | out => rw [hi] at hf; exact hf.elim
    | bad p =>
      rw [hi] at hf hR
      have : B = (p : Int) := hf
      exact Or.inl ⟨by omega, by rw [hR, this]; rfl⟩
    | ok lh q =>
      rw [hi] at hf hR
      obtain ⟨e1, e2, e3⟩ := hf
      subst e1; subst e2; subst e3
      have ha' := ha rfl
      by_cases h93 : P.bt s j = 93
      · refine Or.inr (Or.inl ⟨rfl, by omega, h93, ?_⟩)
        rw [hR, ha']
        show (if P.bt s j = 93 then _ else _) = _
        rw [if_pos h93]
      · refine Or.inr (Or.inr ⟨rfl, Or.inr h93, f, by omega, Nat.le_refl _, ?_⟩)
        rw [hR, ha']
        show (if P.bt s j = 93 then _ else _) = _
        rw [if_neg h93]

/-- The sets, one after the other. -/
theorem add_none (lo hi : Int) (h : hi < lo) (acc : Nat → Bool) : P.add acc lo hi = acc := by
  funext x; unfold P.add
  have : (decide (lo ≤ (x : Int)) && decide ((x : Int) ≤ hi)) = false := by
    by_cases h1 : lo ≤ (x : Int)
    · have : ¬ (x : Int) ≤ hi := by omega
      simp [this]
    · simp [h1]
  rw [this, Bool.or_false]
theorem add_step {lo k : Int} (h0 : 0 ≤ lo) (h : lo ≤ k) (acc : Nat → Bool) : (fun x => if x = k.toNat then true else P.add acc lo (k - 1) x) = P.add acc lo (k + 1 - 1) := by
  funext x; unfold P.add
  by_cases hx : x = k.toNat
  · subst hx; rw [if_pos rfl]; symm; simp only [Bool.or_eq_true, Bool.and_eq_true, decide_eq_true_eq]; right; omega
  · rw [if_neg hx]
    congr 2
    rw [decide_eq_decide]; omega

def addB (B : Int) (acc : Nat → Bool) (lo hi : Int) : Nat → Bool := if B < 0 then P.add acc lo hi else acc
theorem addB_start (B : Int) (acc : Nat → Bool) (lo : Int) : addB B acc lo (lo - 1) = acc := by
  unfold addB; split
  · exact add_none _ _ (by omega) _
  · rfl
theorem addB_step {B : Int} (hB : B < 0) {lo k : Int} (h0 : 0 ≤ lo) (h : lo ≤ k) (acc : Nat → Bool) : (fun x => if x = k.toNat then true else addB B acc lo (k - 1) x) = addB B acc lo (k + 1 - 1) := by
  unfold addB; rw [if_pos hB, if_pos hB]; exact add_step h0 h acc
theorem addB_past {lo hi k B : Int} (h : B = -1 → ¬ k ≤ hi) (hk : k = lo ∨ k ≤ hi + 1) (acc : Nat → Bool) (hB : B = -1) : addB B acc lo (k - 1) = P.add acc lo hi := by
  have h := h hB
  unfold addB; rw [if_pos (by omega)]
  funext x; unfold P.add
  congr 1
  rw [Bool.eq_iff_iff]; simp; omega

def flip (acc : Nat → Bool) (neg : Bool) (q : Nat) : Nat → Bool := fun x => if x < q then acc x != neg else acc x
def anyUp (acc : Nat → Bool) (neg : Bool) (q : Nat) : Bool := (List.range q).any fun x => acc x != neg
theorem anyUp_succ (acc : Nat → Bool) (neg : Bool) (q : Nat) : anyUp acc neg (q + 1) = (anyUp acc neg q || (acc q != neg)) := by
  unfold anyUp; rw [List.range_succ, List.any_append]; simp
theorem anyUp_all (acc : Nat → Bool) (neg : Bool) : anyUp acc neg 256 = P.some256 acc neg := rfl
theorem flip_zero (acc : Nat → Bool) (neg : Bool) : flip acc neg 0 = acc := by funext x; simp [flip]
theorem flip_at (acc : Nat → Bool) (neg : Bool) (q : Nat) : flip acc neg q q = acc q := by simp [flip]
theorem flip_succ (acc : Nat → Bool) (neg : Bool) (q : Nat) : (fun x => if x = q then (acc q != neg) else flip acc neg q x) = flip acc neg (q + 1) := by
  funext x; unfold flip
  by_cases hx : x = q
  · subst hx; simp
  · rw [if_neg hx]
    by_cases hl : x < q
    · rw [if_pos hl, if_pos (by omega)]
    · rw [if_neg hl, if_neg (by omega)]

/-- The brackets' end. -/
def clsB (B : Int) (i : Nat) (any : Bool) : Int := if any then B else mrk B (i : Int)
theorem cls_end {s : ByteArray} {F i i0 g k j : Nat} {B : Int} {acc : Nat → Bool} (hi : i0 = if P.bt s i = 94 then i + 1 else i) (hJ : Jt s (P.items s F i0 (fun _ => false)) F g k j B acc)
    (hx : 0 ≤ B ∨ (k ≠ 0 ∧ P.bt s j = 93)) :
    Fits (P.cls s F i) () (stp (seen (clsB B j (P.some256 acc (P.bt s i == 94))) s j 93) j) (need (clsB B j (P.some256 acc (P.bt s i == 94))) s j 93) := by
  unfold P.cls
  rw [← hi]
  rcases hJ with ⟨hb, hr⟩ | ⟨hb, hk, h93, hr⟩ | ⟨hb, hk, -⟩
  · rw [hr]
    show need _ s j 93 = (B.toNat : Int)
    have hc : clsB B j (P.some256 acc (P.bt s i == 94)) = B := by unfold clsB; split; rfl; exact mrk_pos hb _
    rw [hc]; unfold need
    rw [seen_pos hb]
    simp only [Bool.false_eq_true, if_false]
    rw [mrk_pos hb]; omega
  · rw [hr]
    show Fits (if P.some256 acc (P.bt s i == 94) then _ else _) _ _ _
    cases hs : P.some256 acc (P.bt s i == 94) with
    | true =>
      rw [if_pos rfl]
      have hc : clsB B j true = -1 := by unfold clsB; rw [if_pos rfl, hb]
      have hse : seen (-1) s j 93 = true := seen_mk (by omega) h93
      refine ⟨rfl, ?_, ?_⟩
      · rw [hc, hse]; rfl
      · unfold need; rw [hc, hse]; rfl
    | false =>
      rw [if_neg (by decide)]
      have hc : clsB B j false = (j : Int) := by unfold clsB; rw [if_neg (by decide), mrk_neg (by omega)]
      show need _ s j 93 = (j : Int)
      rw [hc]; unfold need
      rw [seen_pos (by omega)]
      simp only [Bool.false_eq_true, if_false]
      rw [mrk_pos (by omega)]
  · exfalso
    rcases hx with hx | ⟨h1, h2⟩
    · omega
    · rcases hk with hk | hk
      · exact h1 hk
      · exact hk h2

end Go.Proofs.Ytjhmlcilabnlbaa
