/- Rows and choices: what the rounds of the document's answer come to, in plain words. -/
import Derived.Test.YtjhmlcilabnlbaaRefH
namespace Go.Proofs.Ytjhmlcilabnlbaa
open Go.RowKit

def AtomC (s : ByteArray) (b f : Nat) : Prop :=
  ∀ (o i z : Nat) (w : World), RB w b s i o z (-1) → i ≤ s.size → o ≤ 20 → Sz (-1) i z → P.atom s f o i ≠ .out →
    Calls Try.prog 30 #[.pointer (some ⟨b, 0, none⟩)] w fun e w' => OutN s b o z (gate (-1) (P.atom s f o i)) w e w'
def RowC (s : ByteArray) (b f : Nat) : Prop :=
  ∀ (o i z : Nat) (w : World), RB w b s i o z (-1) → i ≤ s.size → o ≤ 20 → Sz (-1) i z → P.row s f o i ≠ .out →
    Calls Try.prog 25 #[.pointer (some ⟨b, 0, none⟩)] w fun e w' => OutN s b o z (gate (-1) (fin s o (P.row s f o i))) w e w'

theorem atom_zero (s : ByteArray) (o i : Nat) : P.atom s 0 o i = .out := by unfold P.atom; rfl
theorem alt_zero (s : ByteArray) (o i : Nat) : P.alt s 0 o i = .out := by unfold P.alt; rfl

theorem atomC (s : ByteArray) (b f : Nat) (hs : s.size ≤ 400) (hF : f ≤ 100000) (hA : AnyC s b f) : AtomC s b (f + 1) := by
  intro o i z w hR hi ho hz hP
  by_cases hl : i < s.size
  · by_cases h40 : P.bt s i = 40
    · exact atom_group f b s hA i o z w hs hR hl ho hz h40 hP
    · by_cases h91 : P.bt s i = 91
      · refine atom_cls f b s i o z w hs hR hl hz hF h91 ?_
        intro e; apply hP; rw [atom_leaf h40, leaf_cls h91, e]; rfl
      · by_cases h46 : P.bt s i = 46
        · exact atom_dot f b s i o z w hs hR hl hz h46
        · by_cases h92 : P.bt s i = 92
          · exact atom_esc f b s i o z w hs hR hl hz h92
          · exact atom_plain f b s i o z w hs hR hl hz h40 h91 h46 h92
  · exact atom_end f b s i o z w hR hi hl hz
theorem atomC_zero (s : ByteArray) (b : Nat) : AtomC s b 0 := by
  intro o i z w hR hi ho hz hP
  rw [atom_zero] at hP; exact absurd rfl hP
theorem anyC_zero (s : ByteArray) (b : Nat) : AnyC s b 0 := by
  intro o i z w hR hi ho hz hP
  rw [alt_zero] at hP; exact absurd rfl hP

/-- The marks' rounds. -/
theorem marks_succ (s : ByteArray) (f i : Nat) (t : P.T) : P.marks s (f + 1) i t = if P.bt s i = 42 ∨ P.bt s i = 63 then P.marks s f (i + 1) ⟨t.sz + 1, true⟩ else if P.bt s i = 43 then P.marks s f (i + 1) ⟨t.sz + 1, t.em⟩ else .ok t i := rfl
def isMark (c : Int) : Bool := c == 42 || c == 43 || c == 63
def markT (c : Int) (t : P.T) : P.T := ⟨t.sz + 1, if c = 43 then t.em else true⟩
theorem marks_on {s : ByteArray} {f i : Nat} {t : P.T} (h : isMark (P.bt s i) = true) : P.marks s (f + 1) i t = P.marks s f (i + 1) (markT (P.bt s i) t) := by
  rw [marks_succ]
  simp only [isMark, Bool.or_eq_true, beq_iff_eq] at h
  by_cases h1 : P.bt s i = 42 ∨ P.bt s i = 63
  · rw [if_pos h1]; unfold markT; rw [if_neg (by omega)]
  · rw [if_neg h1, if_pos (by omega)]; unfold markT; rw [if_pos (by omega)]
theorem marks_off {s : ByteArray} {f i : Nat} {t : P.T} (h : isMark (P.bt s i) = false) : P.marks s (f + 1) i t = .ok t i := by
  rw [marks_succ]
  simp [isMark] at h
  rw [if_neg (by omega), if_neg (by omega)]

def Jm (s : ByteArray) (M : P.PR P.T) (g i : Nat) (B : Int) (t : P.T) : Prop :=
  (0 ≤ B ∧ M = .bad B.toNat) ∨ (B = -1 ∧ ∃ f, f ≤ g ∧ M = P.marks s f i t)
theorem Jm_start {s : ByteArray} {f o i j : Nat} {t : P.T} {B : Int} (h : Fits (gate (-1) (P.atom s f o i)) t j B) : Jm s (P.marked s (f + 1) o i) f j B t := by
  have e : P.marked s (f + 1) o i = (P.atom s f o i).bind fun t j => P.marks s f j t := by conv => lhs; unfold P.marked
  rw [e]
  rw [gate_neg] at h
  cases ha : P.atom s f o i with
  | out => rw [ha] at h; exact h.elim
  | bad p => rw [ha] at h; have hp : B = (p : Int) := h; exact Or.inl ⟨by omega, by rw [hp]; rfl⟩
  | ok u k =>
    rw [ha] at h; obtain ⟨e1, e2, e3⟩ := h; subst e1; subst e2; subst e3
    exact Or.inr ⟨rfl, f, Nat.le_refl _, rfl⟩
theorem Jm_round {s : ByteArray} {M : P.PR P.T} {g i : Nat} {t : P.T} (h : Jm s M g i (-1) t) (hn : M ≠ .out) (hm : isMark (P.bt s i) = true) : ∃ g', g' < g ∧ Jm s M g' (i + 1) (-1) (markT (P.bt s i) t) := by
  rcases h with ⟨h, -⟩ | ⟨-, f, hf, hM⟩
  · omega
  · cases f with
    | zero => exact absurd hM hn
    | succ f => exact ⟨f, by omega, Or.inr ⟨rfl, f, Nat.le_refl _, by rw [hM, marks_on hm]⟩⟩
theorem Jm_end {s : ByteArray} {M : P.PR P.T} {g i : Nat} {B : Int} {t : P.T} (h : Jm s M g i B t) (hn : M ≠ .out) (hm : 0 ≤ B ∨ isMark (P.bt s i) = false) : Fits (gate (-1) M) t i B := by
  rw [gate_neg]
  rcases h with ⟨h, hM⟩ | ⟨h, f, hf, hM⟩
  · rw [hM]; show B = _; omega
  · cases f with
    | zero => exact absurd hM hn
    | succ f => rw [hM, marks_off (hm.resolve_left (by omega)), h]; exact ⟨rfl, rfl, rfl⟩

/-- The row's rounds. -/
theorem stops_begins {s : ByteArray} {o j : Nat} (h : stops s o j = true) : P.begins (P.bt s j) = false := by
  simp only [stops, Bool.or_eq_true, Bool.and_eq_true, decide_eq_true_eq, beq_iff_eq] at h
  have hx : P.bt s j = -1 ∨ P.bt s j = 124 ∨ P.bt s j = 10 ∨ P.bt s j = 41 := by
    rcases h with ((h | h) | h) | h
    · exact Or.inl (bt_ge (by omega))
    · exact Or.inr (Or.inl h)
    · exact Or.inr (Or.inr (Or.inl h.1))
    · exact Or.inr (Or.inr (Or.inr h.1))
  rcases hx with h | h | h | h <;> rw [h] <;> decide
theorem rowOn_succ (s : ByteArray) (f o i : Nat) (t : P.T) : P.rowOn s (f + 1) o i t = if P.begins (P.bt s i) then (P.marked s f o i).bind fun u j => P.rowOn s f o j ⟨t.sz + u.sz, t.em && u.em⟩ else .ok t i := by
  conv => lhs; unfold P.rowOn
theorem rowOn_zero (s : ByteArray) (o i : Nat) (t : P.T) : P.rowOn s 0 o i t = .out := by unfold P.rowOn; rfl
theorem row_succ (s : ByteArray) (f o i : Nat) : P.row s (f + 1) o i = (P.marked s f o i).bind fun u j => P.rowOn s f o j u := by
  conv => lhs; unfold P.row
theorem row_zero (s : ByteArray) (o i : Nat) : P.row s 0 o i = .out := by unfold P.row; rfl
theorem begins_atom {s : ByteArray} {f o i : Nat} (h : P.begins (P.bt s i) = false) : P.atom s (f + 1) o i = .bad i := by
  simp only [P.begins, Bool.or_eq_false_iff, beq_eq_false_iff_ne] at h
  obtain ⟨⟨⟨⟨h1, h2⟩, h3⟩, h4⟩, h5⟩ := h
  rw [atom_leaf h4, leaf_odd h3 h2 h1 h5]; rfl
theorem marked_succ (s : ByteArray) (f o i : Nat) : P.marked s (f + 1) o i = (P.atom s f o i).bind fun t j => P.marks s f j t := by conv => lhs; unfold P.marked
theorem marked_zero (s : ByteArray) (o i : Nat) : P.marked s 0 o i = .out := by unfold P.marked; rfl

def joinT (a : Option P.T) (u : P.T) : P.T := match a with | none => u | some t => ⟨t.sz + u.sz, t.em && u.em⟩

/-- Where the rounds over the atoms stand, ahead of an atom. -/
def Jr (s : ByteArray) (o : Nat) (R : P.PR P.T) (g i : Nat) (a : Option P.T) : Prop :=
  match a with
  | none => ∃ f, f ≤ g ∧ R = fin s o (P.row s f o i)
  | some t => stops s o i = false ∧ ∃ f, f ≤ g ∧ R = fin s o (P.rowOn s f o i t)

/-- What is asked of the atom that comes: with which fuel it is read. -/
theorem Jr_next {s : ByteArray} {o : Nat} {R : P.PR P.T} {g i : Nat} {a : Option P.T} (h : Jr s o R g i a) (hn : R ≠ .out) :
    ∃ f, (f < g ∨ f = 1) ∧ P.marked s (f + 1) o i ≠ .out ∧ ∀ (u : P.T) (j : Nat) (B : Int), Fits (gate (-1) (P.marked s (f + 1) o i)) u j B →
      (0 ≤ B → R = .bad B.toNat) ∧ (B = -1 → stops s o j = true → R = .ok (joinT a u) j) ∧ (B = -1 → stops s o j = false → ∃ g', g' < g ∧ Jr s o R g' j (some (joinT a u))) := by
  have key : ∀ (f : Nat) (k : P.T → P.T), R = fin s o ((P.marked s f o i).bind fun u j => P.rowOn s f o j (k u)) → f < g → (∀ u, joinT a u = k u) →
      ∃ f, (f < g ∨ f = 1) ∧ P.marked s (f + 1) o i ≠ .out ∧ ∀ (u : P.T) (j : Nat) (B : Int), Fits (gate (-1) (P.marked s (f + 1) o i)) u j B →
      (0 ≤ B → R = .bad B.toNat) ∧ (B = -1 → stops s o j = true → R = .ok (joinT a u) j) ∧ (B = -1 → stops s o j = false → ∃ g', g' < g ∧ Jr s o R g' j (some (joinT a u))) := by
    intro f k hR hf hk
    cases f with
    | zero => rw [marked_zero] at hR; exact absurd hR hn
    | succ f =>
      refine ⟨f, Or.inl (by omega), ?_, ?_⟩
      · intro e; rw [e] at hR; exact hn hR
      · intro u j B hf'
        rw [gate_neg] at hf'
        cases hm : P.marked s (f + 1) o i with
        | out => rw [hm] at hf'; exact hf'.elim
        | bad p =>
          rw [hm] at hf' hR
          have hp : B = (p : Int) := hf'
          refine ⟨fun _ => by rw [hR, hp]; rfl, fun e => by omega, fun e => by omega⟩
        | ok v q =>
          rw [hm] at hf' hR
          obtain ⟨e1, e2, e3⟩ := hf'
          subst e1; subst e2; subst e3
          have hR' : R = fin s o (P.rowOn s (f + 1) o j (k u)) := hR
          refine ⟨fun e => by omega, fun _ hst => ?_, fun _ hst => ?_⟩
          · rw [hR', rowOn_succ, stops_begins hst, hk]
            show (if stops s o j then (.ok (k u) j : P.PR P.T) else .bad j) = _
            rw [hst]; rfl
          · exact ⟨f + 1, by omega, hst, f + 1, Nat.le_refl _, by rw [hk]; exact hR'⟩
  cases a with
  | none =>
    obtain ⟨f, hf, hR⟩ := h
    cases f with
    | zero => rw [row_zero] at hR; exact absurd hR hn
    | succ f => rw [row_succ] at hR; exact key f id hR (by omega) (fun _ => rfl)
  | some t =>
    obtain ⟨hst, f, hf, hR⟩ := h
    cases f with
    | zero => rw [rowOn_zero] at hR; exact absurd hR hn
    | succ f =>
      rw [rowOn_succ] at hR
      cases hb : P.begins (P.bt s i) with
      | true => rw [hb] at hR; exact key f _ hR (by omega) (fun _ => rfl)
      | false =>
        rw [hb] at hR
        have hR' : R = .bad i := by
          rw [hR]
          show (if stops s o i then (.ok t i : P.PR P.T) else .bad i) = _
          rw [hst]; rfl
        refine ⟨1, Or.inr rfl, ?_, ?_⟩
        · rw [marked_succ, begins_atom hb]; intro e; cases e
        · intro u j B hf'
          rw [marked_succ, begins_atom hb, gate_neg] at hf'
          have hp : B = (i : Int) := hf'
          refine ⟨fun _ => by rw [hR', hp]; rfl, fun e => by omega, fun e => by omega⟩

end Go.Proofs.Ytjhmlcilabnlbaa
