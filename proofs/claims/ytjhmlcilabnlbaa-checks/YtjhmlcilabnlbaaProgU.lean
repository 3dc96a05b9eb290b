/- The program: text. -/
import Derived.Test.YtjhmlcilabnlbaaProgT
namespace Go.Proofs.Ytjhmlcilabnlbaa
open Go.RowKit

theorem Try.info40 : (Try.prog.info? 40).map (fun i => (i.zero, i.size, i.bytes)) = some (some (.agg #[.string ⟨#[]⟩, .int .i64 0, .int .i64 0, .int .u64 0, .int .u64 0, .int .u64 0, .int .u64 0, .slice none 0 0, .bool false, .bool false]), 10, 96) := by kernel_rfl

/-- The cells of rules that lie one behind the other. -/
def rlCells (l : List (P.Rl × Nd)) : List Value := l.flatMap fun x => ruleCells x.1.name (x.1.pos : Int) x.2
theorem rlCells_snoc (xs : List (P.Rl × Nd)) (x : P.Rl) (d : Nd) : rlCells (xs ++ [(x, d)]) = rlCells xs ++ ruleCells x.name (x.pos : Int) d := by simp [rlCells]

/-- What is barred: all that was there, and the list's own block. -/
def barsW (n : Nat) (v : Value) : Nat → Prop := fun k => k < n ∨ v.ownBlock = some k

/-- The list of rules so far. -/
def Tm (s : ByteArray) (b : Nat) (w wr : World) (ir : Nat) (v : Value) (xs : List (P.Rl × Nd)) : Prop :=
  QB wr b s ir 0 ∧ wr.ownsRow w.heap.size 40 10 v xs.length (rlCells xs) ∧ (∀ x, x ∈ xs → PN wr (barsW w.heap.size v) x.2 x.1.t ∧ x.1.t.sz ≤ 400) ∧ Only b w wr ∧ ir ≤ s.size ∧ xs.length ≤ ir

theorem Tm.start {s : ByteArray} {b i : Nat} {w : World} (hQ : QB w b s i 0) (hi : i ≤ s.size) : Tm s b w w i (.slice none 0 0) [] :=
  ⟨hQ, World.ownsRow_nil _ _ _ _, (by simp), Only.refl _ _, hi, by simp⟩
theorem Tm.moves {s : ByteArray} {b ir j : Nat} {w wr w7 : World} {v : Value} {xs : List (P.Rl × Nd)} (hlt : b < w.heap.size) (h : Tm s b w wr ir v xs) (hX : Only b wr w7) (hQ : QB w7 b s j 0) (hj : j ≤ s.size) (hij : ir ≤ j) : Tm s b w w7 j v xs := by
  obtain ⟨h1, h3, h4, h5, h6, h7⟩ := h
  exact ⟨hQ, powns_only h3 hX hlt, fun x hx => ⟨(h4 x hx).1.only (hX.toS.wide (fun k hk => Or.inl (by omega))), (h4 x hx).2⟩, h5.trans hX, hj, by omega⟩

theorem Tm.append {s : ByteArray} {b ir i4 : Nat} {w wr w4 w6 : World} {v v' : Value} {xs : List (P.Rl × Nd)} {x : P.Rl} {d : Nd} {X : Obj} (hb : b < w.heap.size) (h : Tm s b w wr ir v xs) (hX : Only b wr w4) (hQ : QB w4 b s i4 0) (hN : PN w4 (· < wr.heap.size) d x.t) (hz : x.t.sz ≤ 400) (hi : i4 ≤ s.size) (hl : ir < i4)
    (hown : w6.ownsRow w.heap.size 40 10 v' (xs.length + 1) (rlCells xs ++ ruleCells x.name (x.pos : Int) d)) (hg : (w4.alloc X).grownBy w6 v.ownBlock) (hat : v'.ownBlock = v.ownBlock ∨ v'.ownBlock = some (w4.heap.size + 1)) : Tm s b w w6 i4 v' (xs ++ [(x, d)]) := by
  obtain ⟨h1, h3, h4, h5, h6, h7⟩ := h
  have hsz := h5.size
  have hsz4 := hX.size
  have hal : (w4.alloc X).heap.size = w4.heap.size + 1 := by simp
  have hvb : ∀ k, v.ownBlock = some k → w.heap.size ≤ k ∧ k < wr.heap.size := h3.lt
  have keep : ∀ k, k < w4.heap.size → v.ownBlock ≠ some k → w6.heap[k]? = w4.heap[k]? := fun k hk hv => (hg.block k (by omega) (fun e => hv e.symm)).trans (Below.heap_alloc _ _ _ (by omega))
  have hS : OnlyS (fun k => barsW w.heap.size v k ∨ barsW w.heap.size v' k) w4 w6 := fun k hk hs => keep k hk (fun e => hs (Or.inl (Or.inr e)))
  have turn : ∀ (d : Nd) (t : P.T), PN w4 (barsW w.heap.size v) d t → PN w6 (barsW w.heap.size v') d t := by
    intro d t hx
    refine ((hx.bars (S' := fun k => barsW w.heap.size v k ∨ barsW w.heap.size v' k) ?_).only hS).bars (fun j _ hj => Or.inr hj)
    intro j hj hh
    rcases hh with hh | hh | hh
    · exact hh
    · exact Or.inl hh
    · rcases hat with e | e
      · exact Or.inr (e ▸ hh)
      · rw [e] at hh; have := Option.some.inj hh; omega
  refine ⟨?_, ?_, ?_, ?_, hi, ?_⟩
  · exact (keep b hQ.lt (fun e => by have := hvb _ e; omega)).trans hQ
  · rw [rlCells_snoc, List.length_append]; exact hown
  · intro y hy
    rw [List.mem_append, List.mem_singleton] at hy
    rcases hy with hy | hy
    · exact ⟨turn _ _ ((h4 y hy).1.only (hX.toS.wide (fun k hk => Or.inl (by omega)))), (h4 y hy).2⟩
    · subst hy
      refine ⟨turn _ _ (hN.bars ?_), hz⟩
      intro j hj hh
      show j < wr.heap.size
      rcases hh with hh | hh
      · omega
      · exact (hvb _ hh).2
  · have hO4 : Only b w w4 := h5.trans hX
    exact ⟨hg.os.trans hO4.os, hg.tape.trans hO4.tape, hg.output.trans hO4.output, Nat.le_trans hO4.size (Nat.le_trans (by omega) hg.size), fun k hk hkb => (keep k (by omega) (fun e => by have := hvb _ e; omega)).trans (hO4.block k hk hkb)⟩
  · simp; omega

theorem rl_cells {w : World} {nm : ByteArray} {p : Int} {d : Nd} (j : Nat) (u : Value) (h : (ruleCells nm p d)[j]? = some u) : (w.alloc (ruleObj nm p d)).cell? ((⟨w.heap.size, 0, none⟩ : Addr).add j) = some u := by
  have e : (⟨w.heap.size, 0, none⟩ : Addr).add j = ⟨w.heap.size, j, none⟩ := by
    unfold Addr.add
    by_cases hj : j = 0
    · simp [hj]
    · simp [hj]
  rw [e]
  unfold World.cell?
  rw [heap_alloc_at]
  simpa [ruleCells] using h
theorem rl_one {nm : ByteArray} {p : Int} {d : Nd} (u : Value) (h : u ∈ ruleCells nm p d) : u.oneCell' = true := by
  simp only [ruleCells, List.mem_cons, List.not_mem_nil, or_false] at h
  rcases h with rfl | rfl | rfl | rfl | rfl | rfl | rfl | rfl | rfl | rfl <;> rfl

/-- What text comes to. -/
def TextF (R : P.PR (List P.Rl)) (w' : World) (n : Nat) (v : Value) (i : Nat) (k : Bool) : Prop :=
  match R with
  | .ok l _ => k = true ∧ ∃ xs : List (P.Rl × Nd), xs.map (·.1) = l ∧ xs.length ≤ 400 ∧ w'.ownsRow n 40 10 v xs.length (rlCells xs) ∧ ∀ x, x ∈ xs → PN w' (· < n) x.2 x.1.t ∧ x.1.t.sz ≤ 400
  | .bad p => k = false ∧ i = p ∧ v = .slice none 0 0
  | .out => False
def OutT (s : ByteArray) (b : Nat) (R : P.PR (List P.Rl)) (w : World) (e : Ending) (w' : World) : Prop :=
  ∃ (v : Value) (i' o' : Nat) (k : Bool), e = .returned (.tuple #[v, .bool k]) ∧ QB w' b s i' o' ∧ Only b w w' ∧ TextF R w' w.heap.size v i' k

theorem Tm.out {s : ByteArray} {b ir j : Nat} {w wr : World} {v : Value} {xs : List (P.Rl × Nd)} {R : P.PR (List P.Rl)} (h : Tm s b w wr ir v xs) (hs : s.size ≤ 400) (hR : R = .ok (xs.map (·.1)) j) : OutT s b R w (.returned (.tuple #[v, .bool true])) wr := by
  obtain ⟨h1, h3, h4, h5, h6, h7⟩ := h
  subst hR
  exact ⟨v, ir, 0, true, rfl, h1, h5, rfl, xs, rfl, by omega, h3, fun x hx => ⟨(h4 x hx).1.bars (fun j _ hj => Or.inl hj), (h4 x hx).2⟩⟩
theorem OutT.no {s : ByteArray} {b i o : Nat} {w w' : World} {R : P.PR (List P.Rl)} (hQ : QB w' b s i o) (hO : Only b w w') (hR : R = .bad i) : OutT s b R w (.returned (.tuple #[.slice none 0 0, .bool false])) w' := by
  subst hR
  exact ⟨_, i, o, false, rfl, hQ, hO, rfl, rfl, rfl⟩

theorem ptext_succ (s : ByteArray) (F g i : Nat) (acc : List P.Rl) : P.text s F (g + 1) i acc = (P.rule s F i).bind fun r k => if s.size ≤ k then .ok (acc ++ [r]) k else if P.bt s k = 10 then (if s.size ≤ k + 1 then .ok (acc ++ [r]) (k + 1) else P.text s F g (k + 1) (acc ++ [r])) else .bad k := rfl
theorem rule_sized {s : ByteArray} {F i : Nat} {y : P.Rl} {j : Nat} (h : P.rule s F i = .ok y j) : i < j ∧ y.t.sz ≤ j := by
  unfold P.rule at h
  have := pnameTo_ge s 8 i
  split at h
  · cases h
  · split at h
    · obtain ⟨t, q, h1, h2⟩ := P.bind_ok h
      have h3 := (P.all_sized s F).2.2.2.2.2 _ _ _ _ h1
      cases h2
      exact ⟨by omega, by show t.sz ≤ j; omega⟩
    · cases h
theorem RuleF.yes {r : P.PR P.Rl} {w' : World} {n i : Nat} {nm : ByteArray} {p : Int} {d : Nd} (h : RuleF r w' n nm p d i true) : ∃ y, r = .ok y i ∧ nm = y.name ∧ p = (y.pos : Int) ∧ PN w' (· < n) d y.t := by
  cases r with
  | out => exact h.elim
  | bad p => exact absurd h.1 (by simp)
  | ok y j => obtain ⟨-, rfl, h1, h2, h3⟩ := h; exact ⟨y, rfl, h1, h2, h3⟩

set_option maxHeartbeats 1000000 in
theorem ptext_any (s : ByteArray) (F G b : Nat) (w : World) (hs : s.size ≤ 400) (hR : QB w b s 0 0) (hP : ∀ j, P.alt s F 0 j ≠ .out) (hT : P.text s F G 0 [] ≠ .out) :
    Calls Try.prog 11 #[.pointer (some ⟨b, 0, none⟩)] w fun e w' => OutT s b (P.text s F G 0 []) w e w' := by
  have hlt := hR.lt
  obtain ⟨R, hRd⟩ : ∃ R, R = P.text s F G 0 [] := ⟨_, rfl⟩
  have HRn : Hid (R ≠ .out) := by unfold Hid; rw [hRd]; exact hT
  rw [← hRd]
  have HRd := hid hRd
  have HP := hid hP
  clear hP hRd hT
  go_enter Try.func11, Try.ntmps11
  go_wp2_with fail
  go_loopg [4] G (fun g v wr => ∃ (ir : Nat) (xs : List (P.Rl × Nd)), Tm s b w wr ir v xs ∧ Hid (R = P.text s F g ir (xs.map (·.1))))
  case atStart => exact ⟨0, [], Tm.start hR (by omega), HRd⟩
  case round =>
    obtain ⟨ir, xs, hL, hJ⟩ := hrel
    obtain ⟨ad, cap, e5⟩ := powns_shape hL.2.1
    subst e5
    cases gk with
    | zero => exact absurd hJ.out HRn.out
    | succ g =>
      have HS := hid (hJ.out.trans (ptext_succ s F g ir _))
      have hir := hL.2.2.2.2.1
      go_wp2_with fail
      refine (prule_any s F b ir _ hs hL.1 hir HP.out).mono ?_
      rintro e w2 ⟨nm, p, d, i2, o2, k2, rfl, hR2, ho2, hO2, hi2, hf2⟩
      have hw2 := hO2.size
      have HF := hid hf2
      clear hf2
      unfold ruleVal
      cases k2 with
      | false =>
        have HRe : Hid (R = .bad i2) := by
          have h := HS.out
          have hF := HF.out
          unfold Hid
          cases hx : P.rule s F ir with
          | out => rw [hx] at hF; exact hF.elim
          | bad q => rw [hx] at h hF; rw [h, hF.2]; rfl
          | ok y j => rw [hx] at hF; exact absurd hF.1 (by simp)
        go_wp2_with fail
        go_ret2
        exact OutT.no (heap_alloc_old hR2 hR2.lt) ((hL.2.2.2.1.trans hO2).alloc _) HRe.out
      | true =>
        obtain ⟨y, hy, rfl, rfl, hNd⟩ := HF.out.yes
        have he2 := ho2 rfl
        subst he2
        have hyz := rule_sized hy
        have HR3 : Hid (R = if s.size ≤ i2 then .ok (xs.map (·.1) ++ [y]) i2 else if P.bt s i2 = 10 then (if s.size ≤ i2 + 1 then .ok (xs.map (·.1) ++ [y]) (i2 + 1) else P.text s F g (i2 + 1) (xs.map (·.1) ++ [y])) else .bad i2) := by
          have h := HS.out
          rw [hy] at h
          exact h
        have HNd := hid (hNd.only (w' := w2.alloc (ruleObj y.name (y.pos : Int) d)) (fun k hk _ => Below.heap_alloc _ _ _ hk))
        clear hy hNd HF HS
        have hX : Only b wr (w2.alloc (.cells #[.string y.name, .int .i64 (y.pos : Int), .int .i64 d.k, .int .u64 d.x0, .int .u64 d.x1, .int .u64 d.x2, .int .u64 d.x3, .slice d.pa d.pn d.pc, .bool d.no, .bool d.ag] 40)) := hO2.alloc _
        have hR3 : QB (w2.alloc (.cells #[.string y.name, .int .i64 (y.pos : Int), .int .i64 d.k, .int .u64 d.x0, .int .u64 d.x1, .int .u64 d.x2, .int .u64 d.x3, .slice d.pa d.pn d.pc, .bool d.no, .bool d.ag] 40)) b s i2 0 := heap_alloc_old hR2 hR2.lt
        have hown4 := powns_only hL.2.1 hX hlt
        have hlen : xs.length ≤ 400 := by have := hL.2.2.2.2.2; omega
        obtain ⟨i0, hi0, hz0, hz1, hz2⟩ := info_parts Try.info40
        have hwr := hL.2.2.2.1.size
        go_wp2_with (first
          | (at_builtin; refine wpList_append_own_at _ rfl (.tmp 14) (.tmp 16) 29 rfl w.heap.size 40 i0 _ 10 96 Try.underlying29 hi0 hz0 hz1 hz2 rfl (by decide) _ _ _ rfl (hown4.alloc _) ⟨w2.heap.size + 1, 0, none⟩ 1 1 (ruleCells y.name (y.pos : Int) d) rfl rfl ?c1 ?c2 ?c3 ?c4 ?c5 ?_))
        case c1 =>
          have h := fun j u h => rl_cells (w := w2.alloc (.cells #[.string y.name, .int .i64 (y.pos : Int), .int .i64 d.k, .int .u64 d.x0, .int .u64 d.x1, .int .u64 d.x2, .int .u64 d.x3, .slice d.pa d.pn d.pc, .bool d.no, .bool d.ag] 40)) (nm := y.name) (p := (y.pos : Int)) (d := d) j u h
          rw [show (w2.alloc (.cells #[.string y.name, .int .i64 (y.pos : Int), .int .i64 d.k, .int .u64 d.x0, .int .u64 d.x1, .int .u64 d.x2, .int .u64 d.x3, .slice d.pa d.pn d.pc, .bool d.no, .bool d.ag] 40)).heap.size = w2.heap.size + 1 from by simp] at h
          exact h
        case c2 => exact rl_one
        case c3 => unfold maxLen; omega
        case c4 => omega
        case c5 => simp; omega
        · intro v' w6 hown6 hgrow6 hnil hat6
          have hL6 := Tm.append hlt hL hX hR3 HNd.out (by omega) hi2 (by omega) hown6 hgrow6 (by simpa using hat6)
          have hQ6 := hL6.1
          have hmap : (xs ++ [(y, d)]).map (·.1) = xs.map (·.1) ++ [y] := by simp
          obtain ⟨ad6, cap6, e6⟩ := powns_shape hL6.2.1
          rw [show (xs ++ [(y, d)]).length = xs.length + 1 from by simp] at e6
          subst e6
          clear hown6 hgrow6 hnil hat6 hown4 hX hR3 HNd
          go_wp2_with fail
          refine (ended_any b s i2 0 _ hQ6).mono ?_
          rintro e w7 ⟨rfl, n7, rfl⟩
          have hL7 := hL6.moves hlt ((Only.refl b w6).drewN n7) hL6.1 hi2 (Nat.le_refl _)
          by_cases hend : i2 = s.size
          · have hend' : (i2 == s.size) = true := by simp [hend]
            have HRe : Hid (R = .ok ((xs ++ [(y, d)]).map (·.1)) i2) := by unfold Hid; rw [HR3.out, if_pos (by omega), hmap]
            rw [hend']
            clear hmap
            go_wp2_with fail
            go_ret2
            exact hL7.out hs HRe.out
          · have hend' : (i2 == s.size) = false := beq_false_of_ne hend
            rw [hend']
            go_wp2_with fail
            refine (take_any 10 b s i2 0 _ hs hL7.1 (by omega)).mono ?_
            rintro e w8 ⟨rfl, hQ8, hO8⟩
            cases hah : ahd s i2 10 with
            | false =>
              rw [hah, stp_false] at hQ8
              have HRe : Hid (R = .bad i2) := by unfold Hid; rw [HR3.out, if_neg (by omega), if_neg (ahd_false hah)]
              clear hmap
              go_wp2_with fail
              go_ret2
              exact OutT.no hQ8 (hL7.2.2.2.1.trans hO8) HRe.out
            | true =>
              rw [hah, stp_true] at hQ8
              have hbt := ahd_true hah
              have HR4 : Hid (R = if s.size ≤ i2 + 1 then .ok (xs.map (·.1) ++ [y]) (i2 + 1) else P.text s F g (i2 + 1) (xs.map (·.1) ++ [y])) := by unfold Hid; rw [HR3.out, if_neg (by omega), if_pos hbt]
              clear hbt
              have hL8 := hL7.moves hlt hO8 hQ8 (by omega) (by omega)
              go_wp2_with fail
              refine (ended_any b s (i2 + 1) 0 _ hL8.1).mono ?_
              rintro e w9 ⟨rfl, n9, rfl⟩
              have hL9 := hL8.moves hlt ((Only.refl b w8).drewN n9) hL8.1 (by omega) (Nat.le_refl _)
              by_cases hend2 : i2 + 1 = s.size
              · have hend2' : (i2 + 1 == s.size) = true := by simp [hend2]
                have HRe : Hid (R = .ok ((xs ++ [(y, d)]).map (·.1)) (i2 + 1)) := by unfold Hid; rw [HR4.out, if_pos (by omega), hmap]
                rw [hend2']
                clear hmap
                go_wp2_with fail
                go_ret2
                exact hL9.out hs HRe.out
              · have hend2' : (i2 + 1 == s.size) = false := beq_false_of_ne hend2
                have HRe : Hid (R = P.text s F g (i2 + 1) ((xs ++ [(y, d)]).map (·.1))) := by unfold Hid; rw [HR4.out, if_neg (by omega), hmap]
                rw [hend2']
                clear hmap
                go_wp2_with fail
                go_roundg g
                case measure => omega
                case rel => exact ⟨i2 + 1, _, hL9, HRe⟩
end Go.Proofs.Ytjhmlcilabnlbaa
