/- Contracts of the document's answer: Read. -/
import Derived.Test.YtjhmlcilabnlbaaRefM
import Derived.Test.YtjhmlcilabnlbaaRefI
import Derived.Test.YtjhmlcilabnlbaaRefL
import Derived.Test.YtjhmlcilabnlbaaFuel
import Derived.Test.YtjhmlcilabnlbaaCheckSpec
import Derived.Lib.SliceRun
namespace Go.Proofs.Ytjhmlcilabnlbaa
open Go.RowKit

/-- Every function of the document's answer that reads, with whatever fuel. -/
theorem allC (s : ByteArray) (b : Nat) (hs : s.size ≤ 400) : ∀ F, F ≤ 100000 → AnyC s b F ∧ RowC s b F := by
  intro F
  induction F using Nat.strongRecOn with
  | _ F ih =>
    intro hF
    have hA1 : AtomC s b 1 := atomC s b 0 hs (by omega) (anyC_zero s b)
    refine ⟨any_any F b s hs (fun f hf => (ih f hf (by omega)).2), row_any F b s hs (fun f hf => ?_) hA1⟩
    cases f with
    | zero => exact atomC_zero s b
    | succ f => exact atomC s b f hs (by omega) (ih f (by omega) (by omega)).1

set_option maxHeartbeats 400000 in
theorem parse_long (s : ByteArray) (w : World) (hs : 400 < s.size) :
    Calls Try.prog 9 #[.string s] w fun e w' => e = .returned (.tuple #[.slice none 0 0, .int .i64 0]) ∧ w' = w := by
  have hs' : (400 : Int) < (s.size : Int) := by omega
  go_enter Try.func9, Try.ntmps9
  go_wp2_with fail
  go_ret2
  exact ⟨rfl, rfl⟩

theorem rowCells_get (xs : List RX) (i : Nat) (x : RX) (h : xs[i]? = some x) (j : Nat) (hj : j < 4) : (rowCells xs)[i * 4 + j]? = (cellsOf x)[j]? := by
  induction xs generalizing i with
  | nil => simp at h
  | cons y ys ih =>
    have e : rowCells (y :: ys) = cellsOf y ++ rowCells ys := rfl
    rw [e]
    cases i with
    | zero =>
      simp at h; subst h
      rw [List.getElem?_append_left (by simp [cellsOf]; omega)]
      simp
    | succ i =>
      rw [List.getElem?_append_right (by simp [cellsOf]; omega)]
      rw [show (i + 1) * 4 + j - (cellsOf y).length = i * 4 + j from by simp [cellsOf]; omega]
      exact ih i (by simpa using h)

/-- What Read hands back. -/
def ReadOut (r : Nat × Int × Nat) (w : World) (e : Ending) (w' : World) : Prop :=
  ∃ ad cap, e = .returned (.tuple #[.slice ad r.1 cap, .int .i64 r.2.1, .int .i64 (r.2.2 : Int)]) ∧ Below w.heap.size w w'

/-- The cells of a rule. -/
theorem owns_cell {w : World} {base : Nat} {xs : List RX} {g cap : Nat} (h : w.ownsRow base 47 4 (.slice (some ⟨g, 0, none⟩) xs.length cap) xs.length (rowCells xs)) {i : Nat} {x : RX} (hx : xs[i]? = some x) {j : Nat} (hj : j < 4) : w.cell? ⟨g, i * 4 + j, none⟩ = (cellsOf x)[j]? := by
  have hi : i < xs.length := by
    by_cases hl : i < xs.length
    · exact hl
    · rw [List.getElem?_eq_none (by omega)] at hx; cases hx
  rw [h.cellAt (i * 4 + j) (by omega), rowCells_get xs i x hx j hj]
theorem owns_some {w : World} {base : Nat} {xs : List RX} {v : Value} (h : w.ownsRow base 47 4 v xs.length (rowCells xs)) (hne : xs ≠ []) : ∃ g cap, v = .slice (some ⟨g, 0, none⟩) xs.length cap := by
  rcases h.2 with ⟨_, h0⟩ | ⟨g, cap, cur, hv, -⟩
  · exact absurd (List.length_eq_zero_iff.1 h0) hne
  · exact ⟨g, cap, hv⟩

theorem owns_cap {w : World} {base : Nat} {xs : List RX} {g cap : Nat} (h : w.ownsRow base 47 4 (.slice (some ⟨g, 0, none⟩) xs.length cap) xs.length (rowCells xs)) : xs.length ≤ cap ∧ cap ≤ maxLen := by
  rcases h.2 with ⟨h, _⟩ | ⟨g', cap', cur, hv, -, -, h1, h2, -⟩
  · cases h
  · cases hv; exact ⟨h1, h2⟩

theorem any_snoc {l : List P.Rl} {xs : List RX} (hl : xs.map (·.1) = l) {m : Nat} {y : RX} (hy : xs[m]? = some y) (p : P.Rl → Bool) : (l.take (m + 1)).any p = ((l.take m).any p || p y.1) := by
  have hln : l[m]? = some y.1 := by rw [← hl, List.getElem?_map, hy]; rfl
  rw [List.take_add_one, hln, List.any_append]; simp

theorem judge_cons (done : List P.Rl) (z : Nat) (r : P.Rl) (rest : List P.Rl) : P.judge done z (r :: rest) = if 7 < done.length ∨ 60 < z + r.t.sz then some (2, r.pos)
    else if done.any (fun d => d.name.toList == r.name.toList) then some (3, r.pos) else if r.t.em then some (4, r.pos) else P.judge (done ++ [r]) (z + r.t.sz) rest := rfl
theorem judge_step {xs : List RX} {l : List P.Rl} (hl : xs.map (·.1) = l) {n z : Nat} {x : RX} (hx : xs[n]? = some x) :
    P.judge (l.take n) z (l.drop n) = if 7 < n ∨ 60 < z + x.1.t.sz then some (2, x.1.pos)
      else if (l.take n).any (fun d => d.name.toList == x.1.name.toList) then some (3, x.1.pos) else if x.1.t.em then some (4, x.1.pos) else P.judge (l.take (n + 1)) (z + x.1.t.sz) (l.drop (n + 1)) := by
  have hln : l[n]? = some x.1 := by rw [← hl, List.getElem?_map, hx]; rfl
  have hlt : n < l.length := by
    by_cases h : n < l.length
    · exact h
    · rw [List.getElem?_eq_none (by omega)] at hln; cases hln
  have hd : l.drop n = x.1 :: l.drop (n + 1) := by
    rw [List.drop_eq_getElem_cons hlt]
    congr 1
    rw [List.getElem?_eq_getElem hlt] at hln
    exact Option.some.inj hln
  have ht : l.take (n + 1) = l.take n ++ [x.1] := by
    rw [List.take_add_one, hln]; rfl
  rw [hd, judge_cons, ht, List.length_take, Nat.min_eq_left (by omega)]

set_option maxRecDepth 100000 in
set_option maxHeartbeats 4000000 in
theorem read_any (s : ByteArray) (w : World) :
    Calls Try.prog 5 #[.string s] w fun e w' => ReadOut (P.check s) w e w' := by
  by_cases hs : 400 < s.size
  · have HC : Hid (P.check s = (0, 1, 0)) := by unfold Hid P.check; rw [if_pos hs]
    have heq := fun (w : World) (a : Option Addr) (n c n' c' : Nat) => Go.Lib.run_eql_slice_nil (P := Try.prog) w 25 47 a n c n' c' Try.underlying25
    go_enter Try.func5, Try.ntmps5
    go_wp2_with fail
    refine (parse_long s _ hs).mono ?_
    rintro e w' ⟨rfl, rfl⟩
    go_wp2_with fail
    go_ret3
    rw [HC.out]
    exact ⟨none, 0, rfl, Below.refl _ _⟩
  · have hs' : s.size ≤ 400 := by omega
    obtain ⟨R, hR⟩ : ∃ R, R = P.text s 3210 401 0 [] := ⟨_, rfl⟩
    have hRn : R ≠ .out := by rw [hR]; exact P.text_enough s hs' 401 0 [] (by omega)
    have HC := hid (show P.check s = P.outcome R from by unfold P.check; rw [if_neg hs, hR])
    have hpar := parse_any 3210 401 s w hs' (by omega) (allC s w.heap.size hs' 3210 (by omega)).1 (by rw [← hR]; exact hRn) (P.alt_enough s hs' 0)
    rw [← hR] at hpar
    have HPAR := hid hpar
    clear hpar hR
    cases R with
    | out => exact absurd rfl hRn
    | bad p =>
      clear hRn
      go_enter Try.func5, Try.ntmps5
      go_wp2_with fail
      refine HPAR.out.mono ?_
      rintro e w1 ⟨hb1, he⟩
      have he' : e = .returned (.tuple #[.slice none 0 0, .int .i64 (p : Int)]) := he
      subst he'
      clear he
      have heq := fun (w : World) (a : Option Addr) (n c n' c' : Nat) => Go.Lib.run_eql_slice_nil (P := Try.prog) w 25 47 a n c n' c' Try.underlying25
      go_wp2_with fail
      go_ret3
      rw [HC.out]
      exact ⟨none, 0, rfl, hb1⟩
    | ok l k0 =>
      clear hRn
      go_enter Try.func5, Try.ntmps5
      go_wp2_with fail
      refine HPAR.out.mono ?_
      rintro e w1 ⟨hb1, v, xs, rfl, hl, hne, hown, hrn⟩
      obtain ⟨g, cap, hv⟩ := owns_some hown hne
      subst hv
      have heq := fun (w : World) (a : Option Addr) (n c n' c' : Nat) => Go.Lib.run_eql_slice_nil (P := Try.prog) w 25 47 a n c n' c' Try.underlying25
      have HL := hid hl
      clear hl hne
      go_wp2_with fail
      clear heq
      go_loopg [7, 8] xs.length (fun gk sz i wr => ∃ (n z : Nat), n ≤ xs.length ∧ i = .int .i64 (n : Int) ∧ sz = .int .i64 (z : Int) ∧ n + gk = xs.length ∧ z ≤ 60 ∧ n ≤ 8 ∧ (∃ k, wr = w1.drewN k) ∧ Hid (P.judge [] 0 l = P.judge (l.take n) z (l.drop n)))
      case atStart => exact ⟨0, 0, by omega, rfl, rfl, by omega, by omega, by omega, ⟨0, rfl⟩, by unfold Hid; simp⟩
      case round =>
        obtain ⟨n, z, hn, rfl, rfl, hng, hz, hn8, ⟨kw, rfl⟩, hJ⟩ := hrel
        by_cases hlt : n < xs.length
        · have hlt' : (n : Int) < (xs.length : Int) := by omega
          obtain ⟨x, hx⟩ : ∃ x, xs[n]? = some x := ⟨xs[n], List.getElem?_eq_getElem hlt⟩
          have hcap := owns_cap hown
          have hx4 := (hrn x (List.mem_of_getElem? hx)).2
          have e0 : w1.cell? ⟨g, n * 4, none⟩ = some (.string x.1.name) := owns_cell hown hx (j := 0) (by omega)
          have e1 : w1.cell? ⟨g, n * 4 + 1, none⟩ = some (.int .i64 (x.1.pos : Int)) := owns_cell hown hx (j := 1) (by omega)
          have e2 : w1.cell? ⟨g, n * 4 + 2, none⟩ = some (.pointer (some ⟨x.2, 0, none⟩)) := owns_cell hown hx (j := 2) (by omega)
          have e3 : w1.cell? ⟨g, n * 4 + 3, none⟩ = some (.int .i64 (x.1.t.sz : Int)) := owns_cell hown hx (j := 3) (by omega)
          have HST := hid (judge_step HL.out hx (z := z))
          have HX := hid hx
          clear hx
          by_cases h2 : 7 < n ∨ 60 < z + x.1.t.sz
          · have HV : Hid (P.outcome (.ok l k0) = (0, 2, x.1.pos)) := by
              unfold Hid
              show P.verdict l = _
              unfold P.verdict
              rw [hJ.out, HST.out, if_pos h2]
            have h3 : (7 < (n : Int)) ∨ ((n : Int) ≤ 7 ∧ 60 < (z : Int) + (x.1.t.sz : Int)) := by omega
            clear h2
            rcases h3 with h3 | ⟨h3, h4⟩
            all_goals
              go_wp2_with fail
              go_quiet (fail)
              go_wp2_with fail
              go_ret3
              rw [HC.out, HV.out]
              exact ⟨none, 0, rfl, hb1.trans ⟨rfl, rfl, rfl, Nat.le_refl _, fun _ _ => rfl⟩⟩
          · have h2a : (n : Int) ≤ 7 := by omega
            have h2b : (z : Int) + (x.1.t.sz : Int) ≤ 60 := by omega
            go_wp2_with fail
            go_loopg [9] n (fun gk k wr => ∃ m : Nat, k = .int .i64 (m : Int) ∧ m ≤ n ∧ m + gk = n ∧ (∃ kv, wr = w1.drewN kv) ∧ Hid ((l.take m).any (fun d => d.name.toList == x.1.name.toList) = false))
            case atStart => exact ⟨0, rfl, by omega, by omega, ⟨_, rfl⟩, rfl⟩
            case round =>
              obtain ⟨m, rfl, hmn, hmg, ⟨kv, rfl⟩, hN⟩ := hrel
              by_cases hm : m < n
              · obtain ⟨y, hy⟩ : ∃ y, xs[m]? = some y := ⟨xs[m], List.getElem?_eq_getElem (by omega)⟩
                have d0 : w1.cell? ⟨g, m * 4, none⟩ = some (.string y.1.name) := owns_cell hown hy (j := 0) (by omega)
                have HY := hid hy
                clear hy
                have hml : (m : Int) < (xs.length : Int) := by omega
                have hmn' : (m : Int) < (n : Int) := by omega
                have HS := hid (any_snoc HL.out HY.out (fun d => d.name.toList == x.1.name.toList))
                cases hE : (y.1.name.toList == x.1.name.toList) with
                | true =>
                  have HV : Hid (P.outcome (.ok l k0) = (0, 3, x.1.pos)) := by
                    unfold Hid
                    show P.verdict l = _
                    unfold P.verdict
                    rw [hJ.out, HST.out, if_neg h2, if_pos]
                    have h1 : (l.take (m + 1)).any (fun d => d.name.toList == x.1.name.toList) = true := by rw [HS.out, hE, Bool.or_true]
                    rw [List.any_eq_true] at h1 ⊢
                    obtain ⟨q, hq, hq2⟩ := h1
                    exact ⟨q, List.mem_of_mem_take (i := m + 1) (by rw [List.take_take, Nat.min_eq_left (by omega)]; exact hq), hq2⟩
                  go_wp2_with fail
                  go_quiet (fail)
                  go_wp2_with fail
                  go_quiet (fail)
                  go_wp2_with fail
                  go_ret3
                  rw [HC.out, HV.out]
                  exact ⟨none, 0, rfl, hb1.trans ⟨rfl, rfl, rfl, Nat.le_refl _, fun _ _ => rfl⟩⟩
                | false =>
                  have HV : Hid ((l.take (m + 1)).any (fun d => d.name.toList == x.1.name.toList) = false) := by
                    unfold Hid; rw [HS.out, hN.out, hE]; rfl
                  go_wp2_with fail
                  go_quiet (fail)
                  go_wp2_with fail
                  go_roundg (gk - 1)
                  case measure => omega
                  case rel => exact ⟨m + 1, by go_num, by omega, by omega, ⟨_, rfl⟩, HV⟩
              · have hme : m = n := by omega
                subst hme
                have hnm := hN.out
                have HR := hid (hrn x (List.mem_of_getElem? HX.out)).1
                cases hem : x.1.t.em with
                | true =>
                  rw [hem] at HR
                  have HV : Hid (P.outcome (.ok l k0) = (0, 4, x.1.pos)) := by
                    unfold Hid
                    show P.verdict l = _
                    unfold P.verdict
                    rw [hJ.out, HST.out, if_neg h2, hnm, hem]; rfl
                  clear hnm
                  go_wp2_with fail
                  refine (empty_any _ _ _ _ HR.out _).mono ?_
                  rintro e w2 ⟨rfl, kx, rfl⟩
                  go_wp2_with fail
                  go_quiet (fail)
                  go_wp2_with fail
                  go_ret3
                  rw [HC.out, HV.out]
                  exact ⟨none, 0, rfl, hb1.trans ⟨rfl, rfl, rfl, Nat.le_refl _, fun _ _ => rfl⟩⟩
                | false =>
                  rw [hem] at HR
                  have HV : Hid (P.judge [] 0 l = P.judge (l.take (m + 1)) (z + x.1.t.sz) (l.drop (m + 1))) := by
                    unfold Hid
                    rw [hJ.out, HST.out, if_neg h2, hnm, hem]; rfl
                  clear hnm
                  go_wp2_with fail
                  refine (empty_any _ _ _ _ HR.out _).mono ?_
                  rintro e w2 ⟨rfl, kx, rfl⟩
                  go_wp2_with fail
                  go_roundg (xs.length - (m + 1))
                  case measure => omega
                  case rel => exact ⟨m + 1, z + x.1.t.sz, by omega, by go_num, by go_num, by omega, by omega, by omega, ⟨_, rfl⟩, HV⟩
        · have HV : Hid (P.outcome (.ok l k0) = (xs.length, 0, 0)) := by
            have hln : l.length = xs.length := by rw [← HL.out, List.length_map]
            unfold Hid
            show P.verdict l = _
            unfold P.verdict
            rw [hJ.out, List.drop_of_length_le (by omega), hln]; rfl
          go_wp2_with fail
          go_ret3
          rw [HC.out, HV.out]
          exact ⟨_, _, rfl, hb1.trans ⟨rfl, rfl, rfl, Nat.le_refl _, fun _ _ => rfl⟩⟩
end Go.Proofs.Ytjhmlcilabnlbaa
