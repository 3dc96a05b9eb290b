/- The program: Check. -/
import Derived.Test.YtjhmlcilabnlbaaProgX
import Derived.Deep.RegionWith
namespace Go.Proofs.Ytjhmlcilabnlbaa
open Go.RowKit

theorem named_map (xs : List (P.Rl × Nd)) (m : Nat) (r : P.Rl) : ((xs.map (·.1)).take m).any (fun d => d.name.toList == r.name.toList) = named (xs.take m) r.name := by
  unfold named
  rw [← List.map_take, List.any_map]; rfl
theorem pjudge_step (l : List P.Rl) (m size : Nat) (r : P.Rl) (nmd : Bool) (h : l[m]? = some r) (hn : (l.take m).any (fun d => d.name.toList == r.name.toList) = nmd) :
    P.judge (l.take m) size (l.drop m) = if verd m (size + r.t.sz) nmd r.t.em = 0 then P.judge (l.take (m + 1)) (size + r.t.sz) (l.drop (m + 1)) else some (verd m (size + r.t.sz) nmd r.t.em, r.pos) := by
  have hm : m < l.length := by
    by_cases hl : m < l.length
    · exact hl
    · rw [List.getElem?_eq_none (by omega)] at h; cases h
  have hd : l.drop m = r :: l.drop (m + 1) := by
    rw [List.drop_eq_getElem_cons hm]
    rw [List.getElem?_eq_getElem hm] at h
    rw [Option.some.inj h]
  have ht : l.take (m + 1) = l.take m ++ [r] := by rw [List.take_add_one, h]; rfl
  have hlen : (l.take m).length = m := by rw [List.length_take]; omega
  rw [hd]
  conv => lhs; unfold P.judge
  rw [hlen, hn, ht]
  unfold verd
  by_cases h1 : 7 < m ∨ 60 < size + r.t.sz
  · rw [if_pos h1, if_pos (show 8 ≤ m ∨ 60 < size + r.t.sz by omega)]; rfl
  · rw [if_neg h1, if_neg (show ¬ (8 ≤ m ∨ 60 < size + r.t.sz) by omega)]
    cases nmd with
    | true => rfl
    | false =>
      cases r.t.em with
      | true => rfl
      | false => rfl

theorem pjudge_at (xs : List (P.Rl × Nd)) (k g cap nodes b : Nat) (nv : Int) (hv : nv = (nodes : Int)) (nm : ByteArray) (p : Int) (d : Nd) (t : P.T) (w : World) (hk : k ≤ xs.length) (hl : xs.length ≤ 400) (hcap : k ≤ cap) (hn : nodes ≤ 1000000) (hr : RlIn w g xs) (hN : PN w (· = b) d t) :
    Calls Try.prog 8 #[.slice (some ⟨g, 0, none⟩) k cap, .agg #[.string nm, .int .i64 p, .int .i64 d.k, .int .u64 d.x0, .int .u64 d.x1, .int .u64 d.x2, .int .u64 d.x3, .slice d.pa d.pn d.pc, .bool d.no, .bool d.ag], .int .i64 nv] w fun e w' => e = .returned (.int .i64 (verd k nodes (named (xs.take k) nm) t.em)) ∧ Below w.heap.size w w' := by
  subst hv
  exact pjudge_any xs k g cap nodes b nm p d t w hk hl hcap hn hr hN

theorem outcome_some {l : List P.Rl} {j p : Nat} {V : Int} (h : P.judge [] 0 l = some (V, p)) : P.outcome (.ok l j) = (0, V, p) := by show P.verdict l = _; unfold P.verdict; rw [h]
theorem outcome_none {l : List P.Rl} {j : Nat} (h : P.judge [] 0 l = none) : P.outcome (.ok l j) = (l.length, 0, 0) := by show P.verdict l = _; unfold P.verdict; rw [h]

/-- What Check hands back. -/
def CheckOut (r : Nat × Int × Nat) (e : Ending) : Prop := e = .returned (.tuple #[.int .i64 (r.1 : Int), .int .i64 r.2.1, .int .i64 (r.2.2 : Int)])

set_option maxHeartbeats 2000000 in
theorem pcheck_any (s : ByteArray) (w : World) :
    Calls Try.prog 4 #[.string s] w fun e w' => CheckOut (P.check s) e ∧ Below w.heap.size w w' := by
  rw [check_read]
  have hRd := pread_any s w
  generalize readP s = R at hRd ⊢
  go_enter Try.func4, Try.ntmps4
  go_wp2_with fail
  refine hRd.mono ?_
  rintro e w1 ⟨hB1, hF⟩
  clear hRd
  cases R with
  | out => exact hF.elim
  | bad p =>
    have hF' : e = .returned (.tuple #[.slice none 0 0, .int .i64 (p : Int), .bool false]) := hF
    subst hF'
    clear hF
    go_wp2_with fail
    go_ret3
    exact ⟨rfl, hB1⟩
  | ok l j =>
    obtain ⟨v, xs, rfl, hl, hlen, hown, hN⟩ := hF
    have HN := hid hN
    have HL := hid hl
    clear hN hl
    have hw1 := hB1.size
    cases hxs : xs with
    | nil =>
      obtain ⟨ad, cap, hv⟩ := powns_shape hown
      subst hv
      have HL0 : Hid (l = []) := by unfold Hid; rw [← HL.out, hxs]; rfl
      rw [show xs.length = 0 from by rw [hxs]; rfl] at *
      clear hown hxs
      go_wp2_with fail
      go_loopg [8, 23] 1 (fun gk nd ix wr => gk = 1 ∧ nd = .int .i64 0 ∧ ix = .int .i64 0 ∧ wr = w1)
      case atStart => exact ⟨rfl, rfl, rfl, rfl⟩
      case round =>
        obtain ⟨rfl, rfl, rfl, rfl⟩ := hrel
        go_wp2_with fail
        go_ret3
        refine ⟨?_, hB1⟩
        rw [HL0.out]
        rfl
    | cons x0 xr =>
      obtain ⟨g, cap, hv, hcap, hrl⟩ : ∃ g cap, v = .slice (some ⟨g, 0, none⟩) xs.length cap ∧ xs.length ≤ cap ∧ RlIn w1 g xs := by
        rcases hown.2 with ⟨_, h0⟩ | ⟨g, cap, cur, hv, hge, hh, hc, -, -, ht⟩
        · rw [hxs] at h0; simp at h0
        · exact ⟨g, cap, hv, hc, cur, _, hh, ht⟩
      subst hv
      clear hxs hown
      have hgl := hrl.lt
      go_wp2_with fail
      go_loopg [8, 23] xs.length (fun gk nd ix wr => ∃ m size : Nat, m + gk = xs.length ∧ nd = .int .i64 (size : Int) ∧ ix = .int .i64 (m : Int) ∧ size ≤ m * 400 ∧ Below w1.heap.size w1 wr ∧ Hid (P.judge [] 0 l = P.judge (l.take m) size (l.drop m)))
      case atStart => exact ⟨0, 0, by omega, rfl, rfl, by omega, Below.refl _ _, by simp [Hid]⟩
      case round =>
        obtain ⟨m, size, hm, rfl, rfl, hsz, hBr, hJ⟩ := hrel
        by_cases hlt : m < xs.length
        · obtain ⟨x, hx⟩ : ∃ x, xs[m]? = some x := ⟨xs[m], List.getElem?_eq_getElem hlt⟩
          have hlt' : (m : Int) < (xs.length : Int) := by omega
          have hrr := hrl.below hBr hgl
          have e0 : wr.cell? ⟨g, m * 10, none⟩ = some (.string x.1.name) := hrr.cell hx (j := 0) (by omega)
          have e1 : wr.cell? ⟨g, m * 10 + 1, none⟩ = some (.int .i64 (x.1.pos : Int)) := hrr.cell hx (j := 1) (by omega)
          have e2 : wr.cell? ⟨g, m * 10 + 2, none⟩ = some (.int .i64 x.2.k) := hrr.cell hx (j := 2) (by omega)
          have e3 : wr.cell? ⟨g, m * 10 + 3, none⟩ = some (.int .u64 x.2.x0) := hrr.cell hx (j := 3) (by omega)
          have e4 : wr.cell? ⟨g, m * 10 + 4, none⟩ = some (.int .u64 x.2.x1) := hrr.cell hx (j := 4) (by omega)
          have e5 : wr.cell? ⟨g, m * 10 + 5, none⟩ = some (.int .u64 x.2.x2) := hrr.cell hx (j := 5) (by omega)
          have e6 : wr.cell? ⟨g, m * 10 + 6, none⟩ = some (.int .u64 x.2.x3) := hrr.cell hx (j := 6) (by omega)
          have e7 : wr.cell? ⟨g, m * 10 + 7, none⟩ = some (.slice x.2.pa x.2.pn x.2.pc) := hrr.cell hx (j := 7) (by omega)
          have e8 : wr.cell? ⟨g, m * 10 + 8, none⟩ = some (.bool x.2.no) := hrr.cell hx (j := 8) (by omega)
          have e9 : wr.cell? ⟨g, m * 10 + 9, none⟩ = some (.bool x.2.ag) := hrr.cell hx (j := 9) (by omega)
          have hxm := HN.out x (List.mem_of_getElem? hx)
          have hz := hxm.2
          have HNx := hid hxm.1
          have hlm : l[m]? = some x.1 := by rw [← HL.out]; simp [hx]
          have hnmd : (l.take m).any (fun d => d.name.toList == x.1.name.toList) = named (xs.take m) x.1.name := by rw [← HL.out]; exact named_map xs m x.1
          have HS := hid (pjudge_step l m size x.1 _ hlm hnmd)
          clear hlm hnmd
          clear hx hxm
          have hws := hBr.size
          have hK : KB (wr.alloc (.cells #[.string x.1.name, .int .i64 (x.1.pos : Int), .int .i64 x.2.k, .int .u64 x.2.x0, .int .u64 x.2.x1, .int .u64 x.2.x2, .int .u64 x.2.x3, .slice x.2.pa x.2.pn x.2.pc, .bool x.2.no, .bool x.2.ag] 40)) wr.heap.size x.1.name (x.1.pos : Int) x.2 := heap_alloc_at _ _
          have hO2 : Only w.heap.size w1 (wr.alloc (.cells #[.string x.1.name, .int .i64 (x.1.pos : Int), .int .i64 x.2.k, .int .u64 x.2.x0, .int .u64 x.2.x1, .int .u64 x.2.x2, .int .u64 x.2.x3, .slice x.2.pa x.2.pn x.2.pc, .bool x.2.no, .bool x.2.ag] 40)) := Only.ofBelow (hBr.alloc hws _)
          go_wp2_with fail
          refine (count_any w1 w.heap.size HNx.out (by omega) _ hO2).mono ?_
          rintro e w3 ⟨rfl, hB3⟩
          have hB4 : Below w1.heap.size w1 w3 := (hBr.alloc hws _).trans (hB3.mono (by simp; omega))
          have hK3 : KB w3 wr.heap.size x.1.name (x.1.pos : Int) x.2 := (hB3.block _ (by simp)).trans hK
          have hr3 := hrl.below hB4 hgl
          have HN3 := hid (HNx.out.only (Only.ofBelow (b := w.heap.size) hB4).toS)
          clear e0 e1 e2 e3 e4 e5 e6 e7 e8 e9 hrr
          have c0 := hK3.c0
          have c1 := hK3.c1
          have c2 := hK3.c2
          have c3 := hK3.c3
          have c4 := hK3.c4
          have c5 := hK3.c5
          have c6 := hK3.c6
          have c7 := hK3.c7
          have c8 := hK3.c8
          have c9 := hK3.c9
          go_wp2_with fail
          go_cut [11] (fun f wx => f = .int .i64 (verd m (size + x.1.t.sz) (named (xs.take m) x.1.name) x.1.t.em) ∧ Below w1.heap.size w1 wx ∧ KB wx wr.heap.size x.1.name (x.1.pos : Int) x.2)
          case first =>
            have hr3d : RlIn w3.drew g xs := hr3
            have HN3d : Hid (PN w3.drew (· = w.heap.size) x.2 x.1.t) := HN3.out.only (fun _ _ _ => rfl)
            have hB4d : Below w1.heap.size w1 w3.drew := hB4.trans ⟨rfl, rfl, rfl, Nat.le_refl _, fun _ _ => rfl⟩
            have hlt3 : wr.heap.size < w3.drew.heap.size := Nat.lt_of_lt_of_le (by simp) hB3.size
            have hK3d : KB w3.drew wr.heap.size x.1.name (x.1.pos : Int) x.2 := hK3
            go_region_with (go_at_call 8; refine (pjudge_at xs m g cap (size + x.1.t.sz) w.heap.size _ (by omega) x.1.name (x.1.pos : Int) x.2 x.1.t _ (by omega) hlen (by omega) (by omega) hr3d HN3d.out).mono ?_; rintro e w5 ⟨rfl, hB5⟩)
            all_goals
              go_wp2_with fail
              go_meet
              exact ⟨rfl, hB4d.trans (hB5.mono hB4d.size), (hB5.block _ hlt3).trans hK3d⟩
          case rest =>
            obtain ⟨rfl, hBx, hKx⟩ := hcut
            have HV : Hid (P.judge [] 0 l = if verd m (size + x.1.t.sz) (named (xs.take m) x.1.name) x.1.t.em = 0 then P.judge (l.take (m + 1)) (size + x.1.t.sz) (l.drop (m + 1)) else some (verd m (size + x.1.t.sz) (named (xs.take m) x.1.name) x.1.t.em, x.1.pos)) := hJ.out.trans HS.out
            clear HS c0 c1 c2 c3 c4 c5 c6 c7 c8 c9
            generalize verd m (size + x.1.t.sz) (named (xs.take m) x.1.name) x.1.t.em = V at *
            by_cases hV : V = 0
            · subst hV
              have HJ2 : Hid (P.judge [] 0 l = P.judge (l.take (m + 1)) (size + x.1.t.sz) (l.drop (m + 1))) := by have h := HV.out; rw [if_pos rfl] at h; exact h
              go_wp2_with fail
              go_roundg (gk - 1)
              case measure => omega
              case rel => exact ⟨m + 1, size + x.1.t.sz, by omega, by go_num, by go_num, by omega, hBx, HJ2⟩
            · have hV' : (V == 0) = false := beq_false_of_ne hV
              have HJ2 : Hid (P.judge [] 0 l = some (V, x.1.pos)) := by have h := HV.out; rw [if_neg hV] at h; exact h
              have c1 := hKx.c1
              go_wp2_with fail
              go_quiet (fail)
              go_wp2_with fail
              go_ret3
              refine ⟨?_, (hB1.trans (hBx.mono hw1)).trans ⟨rfl, rfl, rfl, Nat.le_refl _, fun _ _ => rfl⟩⟩
              rw [outcome_some HJ2.out]
              rfl
        · have hme : m = xs.length := by omega
          subst hme
          have HJ2 : Hid (P.judge [] 0 l = none) := by
            have h := hJ.out
            have hll : l.length = xs.length := by rw [← HL.out]; simp
            rw [← hll, List.drop_length] at h
            unfold Hid
            rw [h]
            unfold P.judge
            rfl
          have HLL : Hid (l.length = xs.length) := by unfold Hid; rw [← HL.out]; simp
          go_wp2_with fail
          go_ret3
          refine ⟨?_, hB1.trans (hBr.mono hw1)⟩
          rw [outcome_none HJ2.out, HLL.out]
          rfl
end Go.Proofs.Ytjhmlcilabnlbaa
