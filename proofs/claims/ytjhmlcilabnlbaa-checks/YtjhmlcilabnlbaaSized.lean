/- Each reading goes forward by at least as many bytes as it has nodes. -/
import Derived.Test.YtjhmlcilabnlbaaFuel
namespace Go.Proofs.Ytjhmlcilabnlbaa.P

theorem items_fwd (s : ByteArray) : ∀ (f i : Nat) (acc a : Nat → Bool) (j : Nat), items s f i acc = .ok a j → i < j := by
  intro f
  induction f with
  | zero => intro i acc a j h; cases h
  | succ f ih =>
    intro i acc a j h
    unfold items at h
    cases hi : item s i with
    | out => rw [hi] at h; cases h
    | bad p => rw [hi] at h; cases h
    | ok lh q =>
      rw [hi] at h
      have hq := (item_good s i).2 _ _ hi
      replace h : (if bt s q = 93 then (.ok (add acc lh.1 lh.2) q : PR (Nat → Bool)) else items s f q (add acc lh.1 lh.2)) = .ok a j := h
      by_cases h93 : bt s q = 93
      · rw [if_pos h93] at h; cases h; omega
      · rw [if_neg h93] at h; have := ih _ _ _ _ h; omega
theorem cls_fwd (s : ByteArray) (f i : Nat) (u : Unit) (j : Nat) (h : cls s f i = .ok u j) : i < j := by
  unfold cls at h
  have key : ∀ i0, i ≤ i0 → (items s f i0 (fun _ => false)).bind (fun acc j => if some256 acc (bt s i == 94) then (.ok () (j + 1) : PR Unit) else .bad j) = .ok u j → i < j := by
    intro i0 h0 h
    cases hi : items s f i0 (fun _ => false) with
    | out => rw [hi] at h; cases h
    | bad p => rw [hi] at h; cases h
    | ok a q =>
      rw [hi] at h
      have := items_fwd s f i0 _ _ _ hi
      replace h : (if some256 a (bt s i == 94) then (.ok () (q + 1) : PR Unit) else .bad q) = .ok u j := h
      split at h
      · cases h; omega
      · cases h
  exact key _ (by split <;> omega) h
theorem leaf_fwd (s : ByteArray) (f i : Nat) (u : Unit) (j : Nat) (h : leafAt s f i = .ok u j) : i < j := by
  unfold leafAt at h
  split at h
  · have := cls_fwd s f _ _ _ h; omega
  · split at h
    · cases h; omega
    · split at h
      · cases he : esc s (i + 1) with
        | out => rw [he] at h; cases h
        | bad p => rw [he] at h; cases h
        | ok a q =>
          rw [he] at h
          have := (esc_good s (i + 1)).2 _ _ he
          cases h; omega
      · split at h
        · cases h; omega
        · cases h
theorem marks_sized (s : ByteArray) : ∀ (f i : Nat) (t u : T) (j : Nat), marks s f i t = .ok u j → t.sz ≤ u.sz ∧ i + u.sz ≤ j + t.sz := by
  intro f
  induction f with
  | zero => intro i t u j h; cases h
  | succ f ih =>
    intro i t u j h
    unfold marks at h
    split at h
    · obtain ⟨h1, h2⟩ := ih _ _ _ _ h
      have h1' : t.sz + 1 ≤ u.sz := h1
      have h2' : i + 1 + u.sz ≤ j + (t.sz + 1) := h2
      omega
    · split at h
      · obtain ⟨h1, h2⟩ := ih _ _ _ _ h
        have h1' : t.sz + 1 ≤ u.sz := h1
        have h2' : i + 1 + u.sz ≤ j + (t.sz + 1) := h2
        omega
      · cases h; omega

/-- A reading of so many bytes at least as nodes, from the start. -/
def Szd (i : Nat) (r : PR T) : Prop := ∀ t j, r = .ok t j → 1 ≤ t.sz ∧ i + t.sz ≤ j
/-- The same behind what was read. -/
def Szo (i : Nat) (t0 : T) (r : PR T) : Prop := ∀ t j, r = .ok t j → t0.sz ≤ t.sz ∧ i + t.sz ≤ j + t0.sz

theorem Szd.bad (i p : Nat) : Szd i (.bad p) := by intro t j h; cases h
theorem Szd.out (i : Nat) : Szd i .out := by intro t j h; cases h
theorem bind_ok {α β : Type} {r : PR α} {g : α → Nat → PR β} {b : β} {k : Nat} (h : r.bind g = .ok b k) : ∃ a j, r = .ok a j ∧ g a j = .ok b k := by
  cases r with
  | out => cases h
  | bad p => cases h
  | ok a j => exact ⟨a, j, rfl, h⟩

theorem all_sized (s : ByteArray) : ∀ f : Nat,
    (∀ o i, Szd i (atom s f o i)) ∧ (∀ o i, Szd i (marked s f o i)) ∧ (∀ o i t, Szo i t (rowOn s f o i t)) ∧
    (∀ o i, Szd i (row s f o i)) ∧ (∀ o i t, Szo i t (altOn s f o i t)) ∧ (∀ o i, Szd i (alt s f o i)) := by
  intro f
  induction f with
  | zero =>
    refine ⟨?_, ?_, ?_, ?_, ?_, ?_⟩
    · intro o i t j h; unfold atom at h; cases h
    · intro o i t j h; unfold marked at h; cases h
    · intro o i t u j h; unfold rowOn at h; cases h
    · intro o i t j h; unfold row at h; cases h
    · intro o i t u j h; unfold altOn at h; cases h
    · intro o i t j h; unfold alt at h; cases h
  | succ f ih =>
    obtain ⟨hA, hM, hRo, hR, hAo, hL⟩ := ih
    refine ⟨?_, ?_, ?_, ?_, ?_, ?_⟩
    · intro o i t j h
      unfold atom at h
      split at h
      · split at h
        · cases h
        · obtain ⟨u, q, h1, h2⟩ := bind_ok h
          have := hL _ _ _ _ h1
          split at h2
          · cases h2; omega
          · cases h2
      · obtain ⟨u, q, h1, h2⟩ := bind_ok h
        have := leaf_fwd s f i _ _ h1
        cases h2
        exact ⟨Nat.le_refl 1, this⟩
    · intro o i t j h
      unfold marked at h
      obtain ⟨u, q, h1, h2⟩ := bind_ok h
      have := hA _ _ _ _ h1
      have := marks_sized s f q u t j h2
      omega
    · intro o i t u j h
      unfold rowOn at h
      split at h
      · obtain ⟨v, q, h1, h2⟩ := bind_ok h
        have h3 := hM _ _ _ _ h1
        have h4 := hRo _ _ _ _ _ h2
        have h5 : t.sz + v.sz ≤ u.sz ∧ q + u.sz ≤ j + (t.sz + v.sz) := h4
        omega
      · cases h; omega
    · intro o i t j h
      unfold row at h
      obtain ⟨v, q, h1, h2⟩ := bind_ok h
      have h3 := hM _ _ _ _ h1
      have h4 := hRo _ _ _ _ _ h2
      omega
    · intro o i t u j h
      unfold altOn at h
      split at h
      · obtain ⟨v, q, h1, h2⟩ := bind_ok h
        have h3 := hR _ _ _ _ h1
        have h4 := hAo _ _ _ _ _ h2
        have h5 : t.sz + 1 + v.sz ≤ u.sz ∧ q + u.sz ≤ j + (t.sz + 1 + v.sz) := h4
        omega
      · cases h; omega
    · intro o i t j h
      unfold alt at h
      obtain ⟨v, q, h1, h2⟩ := bind_ok h
      have h3 := hR _ _ _ _ h1
      have h4 := hAo _ _ _ _ _ h2
      omega

end Go.Proofs.Ytjhmlcilabnlbaa.P
