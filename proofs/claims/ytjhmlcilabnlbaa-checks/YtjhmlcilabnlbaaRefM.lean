/- Contracts of the document's answer: Parse. -/
import Derived.Test.YtjhmlcilabnlbaaParsePure
import Derived.Deep.CutBlock
namespace Go.Proofs.Ytjhmlcilabnlbaa
open Go.RowKit

theorem Try.info47 : (Try.prog.info? 47).map (fun i => (i.zero, i.size, i.bytes)) = some (some (.agg #[.string ⟨#[]⟩, .int .i64 0, .pointer none, .int .i64 0]), 4, 40) := by kernel_rfl

/-- What Parse holds in memory, ahead of a rule. -/
def Pm (w wr : World) (s : ByteArray) (i z : Nat) (B : Int) (v : Value) (xs : List RX) : Prop :=
  RB wr w.heap.size s i 0 z B ∧ wr.ownsRow (w.heap.size + 1) 47 4 v xs.length (rowCells xs) ∧ (∀ x ∈ xs, RN wr w.heap.size x.2 x.1.t.em ∧ x.1.t.sz ≤ 401) ∧ Below w.heap.size w wr ∧ i ≤ s.size ∧ Mark B ∧ z ≤ i + 1

theorem Pm.only {w x y : World} {s : ByteArray} {i z j z' : Nat} {B C : Int} {v : Value} {xs : List RX} (h : Pm w x s i z B v xs) (k : Only w.heap.size x y) (hR : RB y w.heap.size s j 0 z' C) (hj : j ≤ s.size) (hC : Mark C) (hz : z' ≤ j + 1) : Pm w y s j z' C v xs :=
  ⟨hR, owns_only h.2.1 k (by omega), fun x hx => ⟨(h.2.2.1 x hx).1.only k, (h.2.2.1 x hx).2⟩, below_only h.2.2.2.1 k (Nat.le_refl _) (by have := h.1.lt; omega), hj, hC, hz⟩

theorem owns_shape {w : World} {base : Nat} {e : TypeId} {size : Nat} {v : Value} {n : Nat} {xs : List Value} (h : w.ownsRow base e size v n xs) : ∃ ad cap, v = .slice ad n cap := by
  rcases h.2 with ⟨h, h0⟩ | ⟨g, cap, cur, hv, -⟩
  · exact ⟨none, 0, by rw [h, h0]⟩
  · exact ⟨_, _, hv⟩

theorem nameB_mark (i j : Nat) : Mark (nameB i j) := by
  unfold nameB; split
  · exact Or.inr (by omega)
  · exact Or.inl rfl
theorem need_mark {B : Int} {s : ByteArray} {i : Nat} {c : Int} (h : Mark B) : Mark (need B s i c) := by
  unfold need; split
  · exact h
  · rcases h with h | h
    · rw [mrk_neg (by omega)]; exact Or.inr (by omega)
    · rw [mrk_pos h]; exact Or.inr h

theorem new_cells {w : World} {x : RX} (j : Nat) (u : Value) (h : (cellsOf x)[j]? = some u) :
    (w.alloc (.cells #[.string x.1.name, .int .i64 (x.1.pos : Int), .pointer (some ⟨x.2, 0, none⟩), .int .i64 (x.1.t.sz : Int)] 47)).cell? ((⟨w.heap.size, 0, none⟩ : Addr).add j) = some u := by
  have e : (⟨w.heap.size, 0, none⟩ : Addr).add j = ⟨w.heap.size, j, none⟩ := by
    unfold Addr.add
    by_cases hj : j = 0
    · simp [hj]
    · simp [hj]
  rw [e]
  unfold World.cell?
  rw [heap_alloc_at]
  simpa [cellsOf] using h
theorem cells_one {x : RX} (u : Value) (h : u ∈ cellsOf x) : u.oneCell' = true := by
  simp only [cellsOf, List.mem_cons, List.not_mem_nil, or_false] at h
  rcases h with rfl | rfl | rfl | rfl <;> rfl

theorem Pm_append {w wc w5 w6 : World} {s : ByteArray} {i z i5 n5 : Nat} {B B5 : Int} {v v' : Value} {xs : List RX} {x : P.Rl} (hs : s.size ≤ 400) (hPm : Pm w wc s i z B v xs) (hX : Only w.heap.size wc w5) (hR5 : RB w5 w.heap.size s i5 0 x.t.sz B5) (hn5 : RN w5 w.heap.size n5 x.t.em) (hi5 : i5 ≤ s.size) (hm5 : Mark B5) (hz5 : Sz B5 i5 x.t.sz)
    (o : Obj) (hown : w6.ownsRow (w.heap.size + 1) 47 4 v' (xs.length + 1) (rowCells xs ++ cellsOf (x, n5))) (hg : (w5.alloc o).grownBy w6 v.ownBlock) : Pm w w6 s i5 x.t.sz B5 v' (xs ++ [(x, n5)]) := by
  have hb5 := hR5.lt
  have hown5 := (owns_only hPm.2.1 hX (by omega)).alloc o
  have hrow : ∀ g, v.ownBlock = some g → w.heap.size < g ∧ ∃ cur e, (w5.alloc o).heap[g]? = some (.cells cur e (0, 0)) ∧ e ≠ 64 := by
    intro g hg
    rcases hown5.2 with ⟨h, -⟩ | ⟨g', cap, cur, hv, hge, hh, -⟩
    · rw [h] at hg; cases hg
    · rw [hv] at hg
      have : g' = g := by simpa [Value.ownBlock] using hg
      subst this
      exact ⟨by omega, cur, 47, hh, by decide⟩
  have hst : ∀ {n : Nat} {em : Bool}, RN w5 w.heap.size n em → RN w6 w.heap.size n em := fun h => (h.only ((Only.refl _ _).alloc o)).grown hg (fun g hg' => (hrow g hg').2)
  refine ⟨?_, ?_, ?_, ?_, hi5, hm5, hz5.1⟩
  · refine (hg.block _ (by simp; omega) ?_).trans (heap_alloc_old hR5 hb5)
    intro e
    have := (hrow _ e.symm).1
    omega
  · rw [rowCells_snoc, List.length_append]; exact hown
  · intro y hy
    rw [List.mem_append, List.mem_singleton] at hy
    rcases hy with hy | hy
    · exact ⟨hst ((hPm.2.2.1 y hy).1.only hX), (hPm.2.2.1 y hy).2⟩
    · subst hy; exact ⟨hst hn5, by have := hz5.1; show x.t.sz ≤ 401; omega⟩
  · exact ((below_only hPm.2.2.2.1 hX (Nat.le_refl _) (by have := hPm.1.lt; omega)).alloc (by omega) o).grown hg (by simp; omega) (fun k hk => by have := (hrow k hk).1; omega)

theorem extract_empty (s : ByteArray) {i j : Nat} (h : i ≤ j) (hj : j ≤ s.size) : (s.extract i j).toList.isEmpty = decide (j = i) := by
  rw [Bool.eq_iff_iff, List.isEmpty_iff, decide_eq_true_eq, ← List.length_eq_zero_iff]
  have : (s.extract i j).toList.length = (s.extract i j).size := by rw [ByteArray.toList_eq]; simp; omega
  rw [this, ByteArray.size_extract]
  omega

/-- What Parse hands back. -/
def ParseOut (R : P.PR (List P.Rl)) (b : Nat) (e : Ending) (w' : World) : Prop :=
  match R with
  | .ok l _ => ∃ (v : Value) (xs : List RX), e = .returned (.tuple #[v, .int .i64 0]) ∧ xs.map (·.1) = l ∧ xs ≠ [] ∧ w'.ownsRow (b + 1) 47 4 v xs.length (rowCells xs) ∧ (∀ x ∈ xs, RN w' b x.2 x.1.t.em ∧ x.1.t.sz ≤ 401)
  | .bad p => e = .returned (.tuple #[.slice none 0 0, .int .i64 (p : Int)])
  | .out => False

set_option maxRecDepth 100000 in
set_option maxHeartbeats 4000000 in
theorem parse_any (F G : Nat) (s : ByteArray) (w : World) (hs : s.size ≤ 400) (hG : G ≤ 100000) (hA : AnyC s w.heap.size F) (hP : P.text s F G 0 [] ≠ .out) (hP2 : ∀ i, P.alt s F 0 i ≠ .out) :
    Calls Try.prog 9 #[.string s] w fun e w' => Below w.heap.size w w' ∧ ParseOut (P.text s F G 0 []) w.heap.size e w' := by
  obtain ⟨R, hRd⟩ : ∃ R, R = P.text s F G 0 [] := ⟨_, rfl⟩
  have HRn : Hid (R ≠ .out) := by unfold Hid; rw [hRd]; exact hP
  rw [← hRd]
  have HRd := hid hRd
  have HA := hid hA
  have HP2 := hid hP2
  clear hA hP hRd hP2
  have hs' : decide ((400 : Int) < (s.size : Int)) = false := by simp; omega
  go_enter Try.func9, Try.ntmps9
  go_wp2_with fail
  go_loopg [5] G (fun g v wr => ∃ (i z : Nat) (B : Int) (xs : List RX), Pm w wr s i z B v xs ∧ g ≤ G ∧ Hid (Jp s F R G g i B xs))
  case atStart =>
    refine ⟨0, 0, -1, [], ⟨heap_alloc_at _ _, World.ownsRow_nil _ _ _ _, by simp, (Below.refl _ _).alloc (Nat.le_refl _) _, by omega, Or.inl rfl, by omega⟩, Nat.le_refl _, ?_⟩
    exact Or.inr (Or.inr ⟨rfl, Or.inl rfl, G, Nat.le_refl _, by simp, HRd.out⟩)
  case round =>
    obtain ⟨i, z, B, xs, hPm, hgG, hJ⟩ := hrel
    have hRr := hPm.1
    have c1 := hRr.c1
    have c4 := hRr.c4
    have f1 := hRr.fz 1
    have hi := hPm.2.2.2.2.1
    rcases hJ.out with ⟨hb0, hr⟩ | ⟨hb0, hx0, hi0, k0, hr⟩ | ⟨hb0, hx0, f, hfg, hfG, hr⟩
    · have HR2 := hid hr
      clear hr hJ
      have hb' : decide (B < 0) = false := by simp; omega
      go_wp2_with fail
      go_quiet (fail)
      go_wp2_with fail
      go_ret2
      refine ⟨hPm.2.2.2.1.trans (by exact ⟨rfl, rfl, rfl, Nat.le_refl _, fun _ _ => rfl⟩), ?_⟩
      rw [HR2.out]
      show _ = Ending.returned (.tuple #[.slice none 0 0, .int .i64 ((B.toNat : Nat) : Int)])
      rw [show ((B.toNat : Nat) : Int) = B from by omega]
      rfl
    · have HR2 := hid hr
      subst hb0
      clear hr hJ
      obtain ⟨ad, cap, e5⟩ := owns_shape hPm.2.1
      subst e5
      have hxe : xs.length ≠ 0 := fun e => hx0 (List.length_eq_zero_iff.1 e)
      have h0 : ((xs.length : Int) == 0) = false := beq_false_of_ne (by omega)
      have h0n : (xs.length == 0) = false := beq_false_of_ne hxe
      have hil' : decide ((i : Int) < (s.size : Int)) = false := by simp; omega
      have HX0 := hid hx0
      clear hx0
      go_wp2_with fail
      go_ret2
      refine ⟨hPm.2.2.2.1, ?_⟩
      rw [HR2.out]
      exact ⟨_, xs, rfl, rfl, HX0.out, hPm.2.1, hPm.2.2.1⟩
    · subst hb0
      have HR2 := hid hr
      clear hr hJ
      obtain ⟨ad, cap, e5⟩ := owns_shape hPm.2.1
      subst e5
      go_upto_region 5 with fail
      go_cut [33] (fun c wx => c = .bool true ∧ wx = wr)
      case first =>
        by_cases hxe : xs.length = 0
        · have h0 : ((xs.length : Int) == 0) = true := by simp [hxe]
          have h0n : (xs.length == 0) = true := by simp [hxe]
          go_wp2_with fail
          go_meet
          exact ⟨rfl, rfl⟩
        · have hil : i < s.size := hx0.resolve_left (by intro e; apply hxe; simp [e])
          have h0 : ((xs.length : Int) == 0) = false := beq_false_of_ne (by omega)
          have h0n : (xs.length == 0) = false := beq_false_of_ne hxe
          have hil' : (i : Int) < (s.size : Int) := by omega
          go_wp2_with fail
          go_meet
          exact ⟨rfl, rfl⟩
      case rest =>
        obtain ⟨rfl, rfl⟩ := hcut
        have HX0 := hid hx0
        clear hx0
        go_upto_block 2 with fail
        go_cut [6] (fun a6 wx => a6 = .int .i64 (i : Int) ∧ RB wx w.heap.size s (P.nameTo s 8 i) 0 z (-1) ∧ Only w.heap.size wc wx)
        case first =>
          go_wp2_with fail
          go_loopg [71] 8 (fun g _ wx => ∃ k : Nat, k + g = 8 ∧ Hid (P.nameTo s 8 i = P.nameTo s g (i + k)) ∧ i + k ≤ s.size ∧ RB wx w.heap.size s (i + k) 0 z (-1) ∧ Only w.heap.size wc wx)
          case atStart => exact ⟨0, by omega, rfl, by omega, hRr, Only.refl _ _⟩
          case round =>
            obtain ⟨k, hk8, hnm, hik, hR2, hO2⟩ := hrel
            have d1 := hR2.c1
            have d2 := hR2.fz 1
            clear c1 c4 f1
            by_cases hl : i + k < s.size
            · have hl1 : ((i + k : Nat) : Int) < (s.size : Int) := by omega
              have HB := hid (bt_lt hl)
              by_cases hk : k < 8
              · have hk1 : ((i + k : Nat) : Int) - (i : Int) < 8 := by omega
                obtain ⟨g', rfl⟩ : ∃ g', gk = g' + 1 := ⟨gk - 1, by omega⟩
                by_cases hlo : (97 : Int) ≤ ((s[i + k].toNat : Nat) : Int)
                · by_cases hhi : ((s[i + k].toNat : Nat) : Int) ≤ 122
                  · have HN : Hid (P.nameTo s 8 i = P.nameTo s g' (i + k + 1)) := by
                      unfold Hid; rw [hnm.out, nameTo_succ, if_pos (by rw [HB.out]; exact ⟨hlo, hhi⟩)]
                    go_wp2_with fail
                    go_roundg g'
                    case measure => omega
                    case rel => exact ⟨k + 1, by omega, HN, by omega, hR2.set1 (by omega), Only.setCell (p := ⟨w.heap.size, 1, none⟩) hO2 rfl _⟩
                  · have hhi' : decide (((s[i + k].toNat : Nat) : Int) ≤ 122) = false := by simpa using hhi
                    have HN : Hid (P.nameTo s 8 i = i + k) := by
                      unfold Hid; rw [hnm.out, nameTo_succ, if_neg (by rw [HB.out]; omega)]
                    go_wp2_with fail
                    go_meet
                    exact ⟨rfl, by rw [HN.out]; exact hR2, hO2⟩
                · have hlo' : decide ((97 : Int) ≤ ((s[i + k].toNat : Nat) : Int)) = false := by simpa using hlo
                  have HN : Hid (P.nameTo s 8 i = i + k) := by
                    unfold Hid; rw [hnm.out, nameTo_succ, if_neg (by rw [HB.out]; omega)]
                  go_wp2_with fail
                  go_meet
                  exact ⟨rfl, by rw [HN.out]; exact hR2, hO2⟩
              · have hk1 : decide (((i + k : Nat) : Int) - (i : Int) < 8) = false := by simp; omega
                have HN : Hid (P.nameTo s 8 i = i + k) := by
                  unfold Hid; rw [hnm.out, show gk = 0 from by omega]; rfl
                go_wp2_with fail
                go_meet
                exact ⟨rfl, by rw [HN.out]; exact hR2, hO2⟩
            · have hl1 : decide (((i + k : Nat) : Int) < (s.size : Int)) = false := by simp; omega
              have HN : Hid (P.nameTo s 8 i = i + k) := by
                unfold Hid; rw [hnm.out]
                cases gk with
                | zero => rfl
                | succ g => rw [nameTo_succ, if_neg (by rw [bt_ge hl]; omega)]
              go_wp2_with fail
              go_meet
              exact ⟨rfl, by rw [HN.out]; exact hR2, hO2⟩
        case rest =>
          obtain ⟨rfl, hR2, hO2⟩ := hcut
          have hj1 := nameTo_ge s 8 i
          have hj2 := nameTo_le s 8 i hi
          generalize hj : P.nameTo s 8 i = j at *
          have HJ := hid hj
          clear hj
          have k1 := hR2.c1
          have HEM := hid (extract_empty s hj1 hj2)
          go_upto_if 87 with fail
          go_cut [87] (fun _ wx => RB wx w.heap.size s j 0 z (nameB i j) ∧ Only w.heap.size wc wx)
          case first =>
            cases hem : (s.extract i j).toList.isEmpty with
            | true =>
              have HNB : Hid (nameB i j = (i : Int)) := by
                have h := HEM.out; rw [hem] at h
                unfold Hid nameB; rw [if_pos (of_decide_eq_true h.symm)]
              go_wp2_with fail
              refine (wrong_any _ _ _ _ _ _ _ _ hR2).mono ?_
              rintro e w3 ⟨rfl, hR3, ho3⟩
              rw [mrk_neg (by omega)] at hR3
              go_wp2_with fail
              go_meet
              exact ⟨by rw [HNB.out]; exact hR3, ho3⟩
            | false =>
              have HNB : Hid (nameB i j = -1) := by
                have h := HEM.out; rw [hem] at h
                unfold Hid nameB; rw [if_neg (of_decide_eq_false h.symm)]
              go_wp2_with fail
              go_meet
              exact ⟨by rw [HNB.out]; exact hR2, Only.refl _ _⟩
          case rest =>
            obtain ⟨hR3, hO3⟩ := hcut
            go_wp2_with fail
            refine (needs_any 61 _ _ _ _ _ _ _ hs hR3 hj2 (by omega) (by omega)).mono ?_
            rintro e w4 ⟨rfl, hR4, hO4⟩
            have hi4 : stp (seen (nameB i j) s j 61) j ≤ s.size := stp_le hj2 (by omega)
            have hm4 : Mark (need (nameB i j) s j 61) := need_mark (nameB_mark i j)
            have k3 := hR4.c3
            have kf := hR4.fz 3
            go_wp2_with fail
            refine (any_both F _ s hs HA.out _ 0 0 _ _ (hR4.set3 rfl) hi4 (by omega) hm4 ⟨by omega, fun _ => by omega⟩ (fun _ => HP2.out _)).mono ?_
            rintro e w5 ⟨n5, t5, i5, B5, rfl, hR5, hO5, hn5, hi5, hz5, hf5⟩
            rw [Nat.zero_add] at hR5 hz5
            have hX := ((((hO2.trans hO3).trans hO4).trans (Only.setCell (p := ⟨w.heap.size, 3, none⟩) (Only.refl _ _) rfl _))).trans hO5
            have hown5 := owns_only hPm.2.1 hX (by omega)
            have hb5 := hR5.lt
            have hm5 := hf5.mark
            obtain ⟨g', hg', hlen, hJ'⟩ := Jp_round (n := n5) HR2.out HRn.out hfg hfG (by rw [HJ.out]; exact hf5)
            rw [HJ.out] at hJ'
            have HJ' := hid hJ'
            clear hJ' hf5
            have m3 := hR5.c3
            obtain ⟨i0, hi0, hz0, hz1, hz2⟩ := info_parts Try.info47
            go_wp2_with (first
              | (at_builtin; refine wpList_append_own _ rfl (.tmp 98) (.tmp 107) 25 rfl (w.heap.size + 1) 47 i0 _ 4 40 Try.underlying25 hi0 hz0 hz1 hz2 rfl (by decide) _ _ _ rfl (hown5.alloc _) ⟨w5.heap.size, 0, none⟩ 1 1 (cellsOf (⟨s.extract i j, i, t5⟩, n5)) rfl rfl ?c1 ?c2 ?c3 ?c4 ?c5 ?_))
            case c1 => exact new_cells
            case c2 => exact cells_one
            case c3 => unfold maxLen; omega
            case c4 => omega
            case c5 => simp; omega
            · intro v' w6 hown6 hgrow6 hnil
              have hPm6 := Pm_append (x := ⟨s.extract i j, i, t5⟩) hs hPm hX hR5 hn5 hi5 hm5 hz5 _ hown6 hgrow6
              clear hown6 hgrow6 hown5 hR5 hn5 hX hPm hR4 hR3 hR2 hO5 hO4 hO3 hO2 hRr c1 c4 f1 k1 k3 kf m3
              have p1 := hPm6.1.c1
              have p4 := hPm6.1.c4
              by_cases hgo : B5 = -1 ∧ i5 < s.size
              · obtain ⟨hg1, hg2⟩ := hgo
                subst hg1
                have hg2' : (i5 : Int) < (s.size : Int) := by omega
                have HJ2 := HJ'.out
                rw [if_pos ⟨rfl, hg2⟩, if_pos ⟨rfl, hg2⟩] at HJ2
                have HJ3 := hid HJ2
                clear HJ2
                go_wp2_with fail
                refine (needs_any 10 _ _ _ _ _ _ _ hs hPm6.1 hi5 (by omega) (by omega)).mono ?_
                rintro e w7 ⟨rfl, hR7, hO7⟩
                go_wp2_with fail
                go_roundg g'
                case measure => exact hg'
                case rel =>
                  exact ⟨_, _, _, _, hPm6.only hO7 hR7 (stp_le hi5 (by omega)) (need_mark (Or.inl rfl)) (by have := stp_ge (seen (-1) s i5 10) i5; have := hz5.1; omega), by omega, HJ3⟩
              · have HJ2 := HJ'.out
                rw [if_neg hgo, if_neg hgo] at HJ2
                have HJ3 := hid HJ2
                clear HJ2
                have hends : (B5 = -1 ∧ (s.size : Int) ≤ (i5 : Int)) ∨ 0 ≤ B5 := by
                  rcases hm5 with h | h
                  · exact Or.inl ⟨h, by omega⟩
                  · exact Or.inr h
                clear hgo
                rcases hends with ⟨h1, h2⟩ | h1
                · subst h1
                  go_wp2_with fail
                  go_roundg g'
                  case measure => exact hg'
                  case rel => exact ⟨_, _, _, _, hPm6, by omega, HJ3⟩
                · go_wp2_with fail
                  go_roundg g'
                  case measure => exact hg'
                  case rel => exact ⟨_, _, _, _, hPm6, by omega, HJ3⟩
end Go.Proofs.Ytjhmlcilabnlbaa
