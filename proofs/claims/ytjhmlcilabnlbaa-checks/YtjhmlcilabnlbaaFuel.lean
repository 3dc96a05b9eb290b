/- There is fuel enough: no reading of at most 400 bytes runs out; and each goes forward. -/
import Derived.Test.YtjhmlcilabnlbaaTextSpec
namespace Go.Proofs.Ytjhmlcilabnlbaa.P

/-- It did not run out, and went forward. -/
def Good {α : Type} (s : ByteArray) (i : Nat) (r : PR α) : Prop := r ≠ .out ∧ ∀ a j, r = .ok a j → i < j ∧ j ≤ s.size
def Fwd {α : Type} (s : ByteArray) (i : Nat) (r : PR α) : Prop := r ≠ .out ∧ ∀ a j, r = .ok a j → i ≤ j ∧ j ≤ s.size

theorem Good.bad {α : Type} (s : ByteArray) (i p : Nat) : Good s i (.bad p : PR α) := ⟨(by intro e; cases e), (by intro a j e; cases e)⟩
theorem Good.ok {α : Type} {s : ByteArray} {i j : Nat} (a : α) (h : i < j) (h' : j ≤ s.size) : Good s i (.ok a j) := ⟨(by intro e; cases e), (by intro b k e; cases e; exact ⟨h, h'⟩)⟩
theorem Fwd.bad {α : Type} (s : ByteArray) (i p : Nat) : Fwd s i (.bad p : PR α) := ⟨(by intro e; cases e), (by intro a j e; cases e)⟩
theorem Fwd.ok {α : Type} {s : ByteArray} {i j : Nat} (a : α) (h : i ≤ j) (h' : j ≤ s.size) : Fwd s i (.ok a j) := ⟨(by intro e; cases e), (by intro b k e; cases e; exact ⟨h, h'⟩)⟩
theorem Good.fwd {α : Type} {s : ByteArray} {i : Nat} {r : PR α} (h : Good s i r) : Fwd s i r := ⟨h.1, fun a j e => ⟨Nat.le_of_lt (h.2 a j e).1, (h.2 a j e).2⟩⟩
theorem Good.bind {α β : Type} {s : ByteArray} {i : Nat} {r : PR α} {g : α → Nat → PR β} (h : Good s i r) (k : ∀ a j, i < j → j ≤ s.size → Fwd s j (g a j)) : Good s i (r.bind g) := by
  cases r with
  | out => exact absurd rfl h.1
  | bad p => exact Good.bad _ _ _
  | ok a j =>
    obtain ⟨h1, h2⟩ := h.2 a j rfl
    obtain ⟨k1, k2⟩ := k a j h1 h2
    exact ⟨k1, fun b q e => by have := k2 b q e; omega⟩
theorem Fwd.bind {α β : Type} {s : ByteArray} {i : Nat} {r : PR α} {g : α → Nat → PR β} (h : Fwd s i r) (k : ∀ a j, i ≤ j → j ≤ s.size → Fwd s j (g a j)) : Fwd s i (r.bind g) := by
  cases r with
  | out => exact absurd rfl h.1
  | bad p => exact Fwd.bad _ _ _
  | ok a j =>
    obtain ⟨h1, h2⟩ := h.2 a j rfl
    obtain ⟨k1, k2⟩ := k a j h1 h2
    exact ⟨k1, fun b q e => by have := k2 b q e; omega⟩
theorem Good.at {α : Type} {s : ByteArray} {i j : Nat} {r : PR α} (h : Fwd s j r) (k : i < j) : Good s i r := ⟨h.1, fun a q e => by have := h.2 a q e; omega⟩
theorem Fwd.at {α : Type} {s : ByteArray} {i j : Nat} {r : PR α} (h : Fwd s j r) (k : i ≤ j) : Fwd s i r := ⟨h.1, fun a q e => by have := h.2 a q e; omega⟩

theorem lt_of {s : ByteArray} {i : Nat} (h : 0 ≤ bt s i) : i < s.size := by
  unfold bt at h
  by_cases hl : i < s.size
  · exact hl
  · rw [dif_neg hl] at h; omega

theorem hex_good (s : ByteArray) (i : Nat) : Good s i (hex s i) := by
  unfold hex; split
  · exact Good.bad _ _ _
  · rename_i h
    refine Good.ok _ (by omega) ?_
    have : 0 ≤ bt s i := by
      unfold hexV at h
      split at h
      · omega
      · split at h <;> omega
    exact lt_of this
theorem esc_good (s : ByteArray) (i : Nat) : Good s i (esc s i) := by
  unfold esc
  by_cases h : escSet (bt s i) = false
  · rw [if_pos h]; exact Good.bad _ _ _
  · have hp : 0 ≤ bt s i := by
      have h' : escSet (bt s i) = true := by simpa using h
      simp only [escSet, Bool.or_eq_true, beq_iff_eq] at h'
      omega
    have hl := lt_of hp
    rw [if_neg h]
    split
    · exact Good.ok _ (by omega) hl
    · split
      · exact Good.ok _ (by omega) hl
      · split
        · exact Good.ok _ (by omega) hl
        · split
          · exact Good.at (Good.bind (hex_good s (i + 1)) fun a j _ _ => (Good.bind (hex_good s j) fun b k _ h2 => Fwd.ok _ (Nat.le_refl _) h2).fwd).fwd (by omega)
          · exact Good.ok _ (by omega) hl
theorem small_good (s : ByteArray) (i : Nat) : Good s i (small s i) := by
  unfold small
  split
  · exact Good.at (esc_good s (i + 1)).fwd (by omega)
  · split
    · rename_i h; exact Good.ok _ (by omega) (lt_of (by omega))
    · exact Good.bad _ _ _
theorem item_good (s : ByteArray) (i : Nat) : Good s i (item s i) := by
  unfold item
  refine (small_good s i).bind fun lo j h1 h2 => ?_
  split
  · rename_i h
    refine Fwd.at (j := j + 1) ?_ (by omega)
    refine ((small_good s (j + 1)).fwd).bind fun hi k _ h4 => ?_
    split
    · exact Fwd.bad _ _ _
    · exact Fwd.ok _ (Nat.le_refl _) h4
  · exact Fwd.ok _ (Nat.le_refl _) h2
theorem items_good (s : ByteArray) : ∀ (f i : Nat) (acc : Nat → Bool), i ≤ s.size → s.size - i + 1 ≤ f → Good s i (items s f i acc) := by
  intro f
  induction f with
  | zero => intro i acc hi hf; omega
  | succ f ih =>
    intro i acc hi hf
    unfold items
    refine (item_good s i).bind fun lh j h1 h2 => ?_
    split
    · exact Fwd.ok _ (Nat.le_refl _) h2
    · exact (ih j _ h2 (by omega)).fwd
theorem cls_good (s : ByteArray) (f i : Nat) (hi : i ≤ s.size) (hf : s.size - i + 1 ≤ f) : Good s i (cls s f i) := by
  unfold cls
  have key : ∀ i0, i ≤ i0 → i0 ≤ s.size → Good s i ((items s f i0 (fun _ => false)).bind fun acc j => if some256 acc (bt s i == 94) then (.ok () (j + 1) : PR Unit) else .bad j) := by
    intro i0 h1 h2
    have hg := items_good s f i0 (fun _ => false) h2 (by omega)
    cases hr : items s f i0 (fun _ => false) with
    | out => exact absurd hr hg.1
    | bad p => exact Good.bad _ _ _
    | ok acc j =>
      obtain ⟨h3, h4⟩ := hg.2 _ _ hr
      show Good s i (if some256 acc (bt s i == 94) then (.ok () (j + 1) : PR Unit) else .bad j)
      split
      · refine Good.ok _ (by omega) ?_
        -- behind the items stands the bracket
        have : ∀ (f i : Nat) (a b : Nat → Bool) (j : Nat), items s f i a = .ok b j → bt s j = 93 := by
          intro f
          induction f with
          | zero => intro i a b j e; cases e
          | succ f ih =>
            intro i a b j e
            unfold items at e
            cases hi : item s i with
            | out => rw [hi] at e; cases e
            | bad p => rw [hi] at e; cases e
            | ok lh q =>
              rw [hi] at e
              replace e : (if bt s q = 93 then (.ok (add a lh.1 lh.2) q : PR (Nat → Bool)) else items s f q (add a lh.1 lh.2)) = .ok b j := e
              by_cases h93 : bt s q = 93
              · rw [if_pos h93] at e; cases e; exact h93
              · rw [if_neg h93] at e; exact ih _ _ _ _ e
        exact lt_of (by rw [this _ _ _ _ _ hr]; omega)
      · exact Good.bad _ _ _
  split
  · rename_i h; exact key (i + 1) (by omega) (lt_of (by omega))
  · exact key i (Nat.le_refl _) hi
theorem leafAt_good (s : ByteArray) (f i : Nat) (_hi : i ≤ s.size) (hf : s.size - i + 1 ≤ f) : Good s i (leafAt s f i) := by
  unfold leafAt
  split
  · rename_i h
    have := lt_of (s := s) (i := i) (by omega)
    exact Good.at (cls_good s f (i + 1) (by omega) (by omega)).fwd (by omega)
  · split
    · rename_i h; exact Good.ok _ (by omega) (lt_of (by omega))
    · split
      · exact Good.at (Good.bind (esc_good s (i + 1)) fun a j _ h2 => Fwd.ok _ (Nat.le_refl _) h2).fwd (by omega)
      · split
        · rename_i h
          refine Good.ok _ (by omega) (lt_of ?_)
          simp only [plain, Bool.and_eq_true, decide_eq_true_eq] at h
          omega
        · exact Good.bad _ _ _
theorem marks_good (s : ByteArray) : ∀ (f i : Nat) (t : T), i ≤ s.size → s.size - i + 1 ≤ f → Fwd s i (marks s f i t) := by
  intro f
  induction f with
  | zero => intro i t hi hf; omega
  | succ f ih =>
    intro i t hi hf
    unfold marks
    split
    · rename_i h
      have := lt_of (s := s) (i := i) (by omega)
      exact Fwd.at (ih (i + 1) _ (by omega) (by omega)) (by omega)
    · split
      · rename_i h
        have := lt_of (s := s) (i := i) (by omega)
        exact Fwd.at (ih (i + 1) _ (by omega) (by omega)) (by omega)
      · exact Fwd.ok _ (Nat.le_refl _) hi

theorem all_good (s : ByteArray) : ∀ f : Nat,
    (∀ o i, i ≤ s.size → 8 * (s.size - i) + 5 ≤ f → Good s i (atom s f o i)) ∧
    (∀ o i, i ≤ s.size → 8 * (s.size - i) + 6 ≤ f → Good s i (marked s f o i)) ∧
    (∀ o i t, i ≤ s.size → 8 * (s.size - i) + 7 ≤ f → Fwd s i (rowOn s f o i t)) ∧
    (∀ o i, i ≤ s.size → 8 * (s.size - i) + 7 ≤ f → Good s i (row s f o i)) ∧
    (∀ o i t, i ≤ s.size → 8 * (s.size - i) + 7 ≤ f → Fwd s i (altOn s f o i t)) ∧
    (∀ o i, i ≤ s.size → 8 * (s.size - i) + 8 ≤ f → Good s i (alt s f o i)) := by
  intro f
  induction f with
  | zero => refine ⟨?_, ?_, ?_, ?_, ?_, ?_⟩ <;> (intros; omega)
  | succ f ih =>
    obtain ⟨hA, hM, hRo, hR, hAo, hL⟩ := ih
    refine ⟨?_, ?_, ?_, ?_, ?_, ?_⟩
    · intro o i hi hf
      unfold atom
      split
      · rename_i h
        have hlt := lt_of (s := s) (i := i) (by omega)
        split
        · exact Good.bad _ _ _
        · refine Good.at (j := i + 1) ?_ (by omega)
          refine (hL (o + 1) (i + 1) (by omega) (by omega)).fwd.bind fun t j h1 h2 => ?_
          split
          · rename_i h41; exact Fwd.ok _ (by omega) (lt_of (by omega))
          · exact Fwd.bad _ _ _
      · exact (leafAt_good s f i hi (by omega)).bind fun a j _ h2 => Fwd.ok _ (Nat.le_refl _) h2
    · intro o i hi hf
      unfold marked
      exact (hA o i hi (by omega)).bind fun t j h1 h2 => marks_good s f j t h2 (by omega)
    · intro o i t hi hf
      unfold rowOn
      split
      · exact ((hM o i hi (by omega)).bind fun u j h1 h2 => hRo o j _ h2 (by omega)).fwd
      · exact Fwd.ok _ (Nat.le_refl _) hi
    · intro o i hi hf
      unfold row
      exact (hM o i hi (by omega)).bind fun u j h1 h2 => hRo o j _ h2 (by omega)
    · intro o i t hi hf
      unfold altOn
      split
      · rename_i h
        have hlt := lt_of (s := s) (i := i) (by omega)
        exact Fwd.at (((hR o (i + 1) (by omega) (by omega)).bind fun u j h1 h2 => hAo o j _ h2 (by omega)).fwd) (by omega)
      · exact Fwd.ok _ (Nat.le_refl _) hi
    · intro o i hi hf
      unfold alt
      exact (hR o i hi (by omega)).bind fun u j h1 h2 => hAo o j _ h2 (by omega)

/-- Behind the end nothing is read. -/
theorem alt_past (s : ByteArray) (f o i : Nat) (hi : s.size < i) : alt s (f + 5) o i ≠ .out := by
  have hb : bt s i = -1 := by unfold bt; rw [dif_neg (by omega)]
  have ha : atom s (f + 2) o i = .bad i := by
    unfold atom; simp only [hb]
    unfold leafAt; simp only [hb]
    rfl
  have hm : marked s (f + 3) o i = .bad i := by unfold marked; rw [ha]; rfl
  have hr : row s (f + 4) o i = .bad i := by unfold row; rw [hm]; rfl
  unfold alt; rw [hr]; intro e; cases e

theorem alt_enough (s : ByteArray) (hs : s.size ≤ 400) (o i : Nat) : alt s 3210 o i ≠ .out := by
  by_cases h : i ≤ s.size
  · exact ((all_good s 3210).2.2.2.2.2 o i h (by omega)).1
  · exact alt_past s 3205 o i (by omega)

theorem rule_good (s : ByteArray) (hs : s.size ≤ 400) (i : Nat) : Good s i (rule s 3210 i) := by
  have hge : ∀ n i, i ≤ nameTo s n i := by
    intro n
    induction n with
    | zero => intro i; exact Nat.le_refl _
    | succ n ih => intro i; unfold nameTo; split; have := ih (i + 1); omega; exact Nat.le_refl _
  unfold rule
  split
  · exact Good.bad _ _ _
  · split
    · rename_i h61
      have h1 := hge 8 i
      have h2 := lt_of (s := s) (i := nameTo s 8 i) (by omega)
      refine Good.at (j := nameTo s 8 i + 1) ?_ (by omega)
      exact ((all_good s 3210).2.2.2.2.2 0 (nameTo s 8 i + 1) (by omega) (by omega)).fwd.bind fun t k _ h4 => Fwd.ok _ (Nat.le_refl _) h4
    · exact Good.bad _ _ _

theorem text_enough (s : ByteArray) (hs : s.size ≤ 400) : ∀ (g i : Nat) (acc : List Rl), s.size - i + 1 ≤ g → text s 3210 g i acc ≠ .out := by
  intro g
  induction g with
  | zero => intro i acc h; omega
  | succ g ih =>
    intro i acc h
    unfold text
    have hr := rule_good s hs i
    cases he : rule s 3210 i with
    | out => exact absurd he hr.1
    | bad p => intro e; cases e
    | ok r k =>
      obtain ⟨h1, h2⟩ := hr.2 _ _ he
      show (if s.size ≤ k then (.ok (acc ++ [r]) k : PR (List Rl)) else if bt s k = 10 then (if s.size ≤ k + 1 then .ok (acc ++ [r]) (k + 1) else text s 3210 g (k + 1) (acc ++ [r])) else .bad k) ≠ .out
      split
      · intro e; cases e
      · split
        · split
          · intro e; cases e
          · exact ih (k + 1) _ (by omega)
        · intro e; cases e

end Go.Proofs.Ytjhmlcilabnlbaa.P
