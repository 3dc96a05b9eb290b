/- Choices: what the rounds of the document's answer come to, in plain words. -/
import Derived.Test.YtjhmlcilabnlbaaRowPure
namespace Go.Proofs.Ytjhmlcilabnlbaa
open Go.RowKit

theorem altOn_succ (s : ByteArray) (f o i : Nat) (t : P.T) : P.altOn s (f + 1) o i t = if P.bt s i = 124 then (P.row s f o (i + 1)).bind fun u j => P.altOn s f o j ⟨t.sz + 1 + u.sz, t.em || u.em⟩ else .ok t i := by
  conv => lhs; unfold P.altOn
theorem altOn_zero (s : ByteArray) (o i : Nat) (t : P.T) : P.altOn s 0 o i t = .out := by unfold P.altOn; rfl
theorem alt_succ (s : ByteArray) (f o i : Nat) : P.alt s (f + 1) o i = (P.row s f o i).bind fun u j => P.altOn s f o j u := by
  conv => lhs; unfold P.alt
theorem stops_no {s : ByteArray} {o j : Nat} (h : stops s o j = false) : P.bt s j ≠ 124 := fun e => by simp [stops, e] at h

/-- Where the rounds over the rows stand, behind a row. -/
def Ja (s : ByteArray) (o : Nat) (R : P.PR P.T) (g i : Nat) (B : Int) (t : P.T) : Prop :=
  (0 ≤ B ∧ R = .bad B.toNat) ∨ (B = -1 ∧ stops s o i = true ∧ ∃ f, f ≤ g ∧ R = fin s o (P.altOn s f o i t))

/-- Behind a row. -/
theorem Ja_row {s : ByteArray} {o : Nat} {R : P.PR P.T} {f g i j : Nat} {B : Int} {u : P.T} (k : P.T → P.T) (hR : R = fin s o ((P.row s f o i).bind fun u j => P.altOn s f o j (k u))) (_hn : R ≠ .out) (hg : f ≤ g) (hf : Fits (gate (-1) (fin s o (P.row s f o i))) u j B) : Ja s o R g j B (k u) := by
  rw [gate_neg] at hf
  cases hr : P.row s f o i with
  | out => rw [hr] at hf; exact hf.elim
  | bad p =>
    rw [hr] at hf hR
    have hp : B = (p : Int) := hf
    exact Or.inl ⟨by omega, by rw [hR, hp]; rfl⟩
  | ok v q =>
    rw [hr] at hf hR
    have hf' : Fits (if stops s o q then (.ok v q : P.PR P.T) else .bad q) u j B := hf
    have hR' : R = fin s o (P.altOn s f o q (k v)) := hR
    cases hst : stops s o q with
    | true =>
      rw [hst] at hf'
      obtain ⟨e1, e2, e3⟩ := hf'
      subst e1; subst e2; subst e3
      exact Or.inr ⟨rfl, hst, f, hg, hR'⟩
    | false =>
      rw [hst] at hf'
      have hp : B = (q : Int) := hf'
      refine Or.inl ⟨by omega, ?_⟩
      cases f with
      | zero => rw [row_zero] at hr; cases hr
      | succ f =>
        rw [altOn_succ, if_neg (stops_no hst)] at hR'
        rw [hR', hp]
        show (if stops s o q then (.ok (k v) q : P.PR P.T) else .bad q) = _
        rw [hst]; rfl

/-- The next row, if a bar stands there. -/
theorem Ja_next {s : ByteArray} {o : Nat} {R : P.PR P.T} {g i : Nat} {t : P.T} (h : Ja s o R g i (-1) t) (hn : R ≠ .out) (hb : P.bt s i = 124) :
    ∃ f, f < g ∧ P.row s f o (i + 1) ≠ .out ∧ ∀ (u : P.T) (j : Nat) (B : Int), Fits (gate (-1) (fin s o (P.row s f o (i + 1)))) u j B → Ja s o R f j B ⟨t.sz + 1 + u.sz, t.em || u.em⟩ := by
  rcases h with ⟨h, -⟩ | ⟨-, hst, f, hf, hR⟩
  · omega
  · cases f with
    | zero => rw [altOn_zero] at hR; exact absurd hR hn
    | succ f =>
      rw [altOn_succ, if_pos hb] at hR
      refine ⟨f, by omega, ?_, fun u j B hu => Ja_row (fun u => ⟨t.sz + 1 + u.sz, t.em || u.em⟩) hR hn (Nat.le_refl _) hu⟩
      intro e; rw [e] at hR; exact hn hR

theorem Ja_end {s : ByteArray} {o : Nat} {R : P.PR P.T} {g i : Nat} {B : Int} {t : P.T} (h : Ja s o R g i B t) (hn : R ≠ .out) (hb : seen B s i 124 = false) : Fits (gate (-1) R) t i B := by
  rw [gate_neg]
  rcases h with ⟨h, hR⟩ | ⟨h, hst, f, hf, hR⟩
  · rw [hR]; show B = _; omega
  · have hb' : P.bt s i ≠ 124 := fun e => by rw [seen_mk (by omega) e] at hb; cases hb
    cases f with
    | zero => rw [altOn_zero] at hR; exact absurd hR hn
    | succ f =>
      rw [altOn_succ, if_neg hb'] at hR
      have : R = .ok t i := by
        rw [hR]; show (if stops s o i then (.ok t i : P.PR P.T) else .bad i) = _
        rw [hst]; rfl
      rw [this, h]; exact ⟨rfl, rfl, rfl⟩

end Go.Proofs.Ytjhmlcilabnlbaa
