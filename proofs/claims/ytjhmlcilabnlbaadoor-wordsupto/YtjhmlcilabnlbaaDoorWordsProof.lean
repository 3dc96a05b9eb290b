/- For every numbers, room and text of bulk at most the row's number: rules that are words are cut as they should (tesserakeep.Words), and the arguments read as they did. -/
import Derived.Laws.StructEq
import Derived.Test.YtjhmlcilabnlbaaDoorCards
import Derived.Test.YtjhmlcilabnlbaaDoorTie
import Derived.ProofKit
import Derived.OpenShut
import Derived.ChangeOld
import Derived.Below
import Derived.ChangeMaps5
import Derived.Deep.DeepHandedRow
import Derived.Lib.LaidTab
import Derived.Test.YtjhmlcilabnlbaaDoorPart6
/- The keeper's lexer. -/
namespace Go.Proofs.YtjhmlcilabnlbaaDoor
open Go.RowKit Go.Shelf

attribute [local go_sem] Oper.semAt_some

def plainSrc : ByteArray := { data := #[97, 61, 97, 98, 10, 98, 61, 97, 98, 99, 100] }
theorem plain_check : P.check plainSrc = (2, 0, 0) := by kernel_rfl

theorem pick_any (c : Int) (h0 : -9223372036854775808 ≤ c) (h1 : c < 9223372036854775808) (w : World) :
    Calls Tryd.prog 10 #[.int .i64 c, .int .i64 999] w fun e w' => (∃ k : Nat, k < 999 ∧ e = .returned (.int .i64 (k : Int))) ∧ Below w.heap.size w w' := by
  have fin : ∀ x : Int, 0 ≤ x → ∃ k : Nat, k < 999 ∧ x.tmod 999 = (k : Int) := fun x hx => ⟨(x.tmod 999).toNat, by rw [Int.tmod_eq_emod_of_nonneg hx]; omega, by rw [Int.tmod_eq_emod_of_nonneg hx]; omega⟩
  by_cases hc : c < 0
  · have a1 : IntKind.i64.wrap (c + 1) = c + 1 := by rw [IntKind.wrap_i64]; omega
    have a2 : IntKind.i64.wrap (-(c + 1)) = -(c + 1) := by rw [IntKind.wrap_i64]; omega
    obtain ⟨k, hk, hk2⟩ := fin (-(c + 1)) (by omega)
    have a3 : IntKind.i64.wrap (k : Int) = (k : Int) := by rw [IntKind.wrap_i64]; omega
    have HK := hid hk
    clear fin hk
    go_enter Tryd.func10, Tryd.ntmps10
    go_wp2_with fail
    go_ret
    exact ⟨⟨k, HK.out, rfl⟩, Below.refl _ _⟩
  · obtain ⟨k, hk, hk2⟩ := fin c (by omega)
    have a3 : IntKind.i64.wrap (k : Int) = (k : Int) := by rw [IntKind.wrap_i64]; omega
    have HK := hid hk
    clear fin hk
    go_enter Tryd.func10, Tryd.ntmps10
    go_wp2_with fail
    go_ret
    exact ⟨⟨k, HK.out, rfl⟩, Below.refl _ _⟩

/-- How many rules the keeper's lexer has. -/
def ruleCount (s : ByteArray) : Nat := if (P.check s).1 = 0 then 2 else (P.check s).1
theorem check_bad {s : ByteArray} (h : (P.check s).2.1 ≠ 0) : (P.check s).1 = 0 := by
  rw [check_read] at h ⊢
  cases hr : readP s with
  | out => rfl
  | bad p => rfl
  | ok l j =>
    rw [hr] at h
    have hv : P.outcome (.ok l j) = P.verdict l := rfl
    rw [hv] at h ⊢
    unfold P.verdict at h ⊢
    cases hj : P.judge [] 0 l with
    | some x => rfl
    | none => rw [hj] at h; exact absurd rfl h

theorem check_pos {s : ByteArray} (h : (P.check s).2.1 = 0) : (P.check s).1 ≠ 0 := by
  have hno : readP s ≠ .out := by
    unfold readP
    split
    · intro e; cases e
    · exact P.text_enough s (by omega) 401 0 [] (by omega)
  obtain ⟨l, -, -, hn, hne, -⟩ := check_ok h hno
  rw [hn]
  intro e
  exact hne (List.length_eq_zero_iff.1 e)

/-- What it comes to. -/
def KeptOut (s : ByteArray) (w : World) (e : Ending) (w' : World) : Prop :=
  ∃ lx t p mb B D room, e = .returned (.pointer (some ⟨lx, 0, none⟩)) ∧ LexI B w' lx t p room mb D [] 0 (0, 0) ∧ D.ok ∧ D.whole (ruleCount s) ∧ ruleCount s ≤ 8 ∧ w.heap.size ≤ B ∧ w.heap.size ≤ lx ∧ Below w.heap.size w w'

set_option maxRecDepth 100000 in
set_option maxHeartbeats 4000000 in
theorem lexerOf_any (s : ByteArray) (c : Int) (h0 : -9223372036854775808 ≤ c) (h1 : c < 9223372036854775808) (w : World) (hw : 1 ≤ w.heap.size) (hT : TabIn w) :
    Calls Tryd.prog 5 #[.string s, .int .i64 c] w fun e w' => KeptOut s w e w' := by
  have hC0 : Calls Tryd.prog 6 #[.string { data := #[97, 61, 97, 98, 10, 98, 61, 97, 98, 99, 100] }] w fun e w' => e = .returned (.tuple #[.int .i64 2, .int .i64 0, .int .i64 0]) ∧ Below w.heap.size w w' := (pcheck_any plainSrc w).mono (fun e w' h => ⟨by have h3 := h.1; unfold CheckOut at h3; rw [h3, plain_check]; rfl, h.2⟩)
  have hP := pick_any c h0 h1
  by_cases hck : (P.check s).2.1 = 0
  · have hn1 : (P.check s).1 ≠ 0 := check_pos hck
    have hC1 : ∀ w1, Calls Tryd.prog 6 #[.string s] w1 fun e w' => (∃ n z : Int, e = .returned (.tuple #[.int .i64 n, .int .i64 0, .int .i64 z])) ∧ Below w1.heap.size w1 w' := fun w1 => (pcheck_any s w1).mono (fun e w' h => ⟨⟨_, _, by have h3 := h.1; unfold CheckOut at h3; rw [hck] at h3; exact h3⟩, h.2⟩)
    have hrc : ruleCount s = (P.check s).1 := by unfold ruleCount; rw [if_neg hn1]
    have HRC := hid hrc
    have HCK := hid hck
    clear hrc hck hn1
    go_enter Tryd.func5, Tryd.ntmps5
    go_wp2_with fail
    refine hC0.mono ?_
    rintro e w1 ⟨rfl, hB1⟩
    have hs1 := hB1.size
    go_wp2_with fail
    refine (hC1 w1).mono ?_
    rintro e w2 ⟨⟨n, z, rfl⟩, hB2⟩
    have hs2 := hB2.size
    go_wp2_with fail
    refine (hP w2).mono ?_
    rintro e w3 ⟨⟨k, hk, rfl⟩, hB3⟩
    have hs3 := hB3.size
    obtain ⟨room, hroom, hr2, hr3⟩ : ∃ room : Nat, IntKind.i64.wrap (2 + (k : Int)) = (room : Int) ∧ 2 ≤ room ∧ room ≤ 1000 := ⟨2 + k, by rw [IntKind.wrap_i64]; omega, by omega, by omega⟩
    have hT3 : TabIn w3 := ((hT.below hB1 (by omega)).below hB2 (by omega)).below hB3 (by omega)
    have hN := new_any s room hr2 hr3 HCK.out w3 (by omega) hT3
    clear hC0 hC1 hP
    go_wp2_with fail
    refine hN.mono ?_
    rintro e w4 ⟨lx, t, p, mb, B, D, rfl, hL, hok, hwh, h8, -, hBB, hlx, hB4, -⟩
    have HL := hid hL
    have HO := hid hok
    have HW : Hid (D.whole (ruleCount s)) := by unfold Hid; rw [HRC.out]; exact hwh
    have H8 : Hid (ruleCount s ≤ 8) := by unfold Hid; rw [HRC.out]; exact h8
    clear hL hok hwh h8 hN
    go_wp2_with fail
    go_ret
    exact ⟨lx, t, p, mb, B, D, room, rfl, HL.out, HO.out, HW.out, H8.out, by omega, by omega, ((hB1.trans (hB2.mono hs1)).trans (hB3.mono (by omega))).trans (hB4.mono (by omega))⟩
  · obtain ⟨x, hxe⟩ : ∃ x, (P.check s).2.1 = x := ⟨_, rfl⟩
    have hx0 : (x == 0) = false := by rw [← hxe]; exact beq_false_of_ne hck
    have hC1 : ∀ w1, Calls Tryd.prog 6 #[.string s] w1 fun e w' => (∃ n z : Int, e = .returned (.tuple #[.int .i64 n, .int .i64 x, .int .i64 z])) ∧ Below w1.heap.size w1 w' := fun w1 => (pcheck_any s w1).mono (fun e w' h => ⟨⟨_, _, by have h3 := h.1; unfold CheckOut at h3; rw [hxe] at h3; exact h3⟩, h.2⟩)
    have hrc : ruleCount s = (P.check plainSrc).1 := by unfold ruleCount; rw [if_pos (check_bad hck), plain_check]
    have HRC := hid hrc
    have HCK := hid hck
    clear hrc hck hxe
    go_enter Tryd.func5, Tryd.ntmps5
    go_wp2_with fail
    refine hC0.mono ?_
    rintro e w1 ⟨rfl, hB1⟩
    have hs1 := hB1.size
    go_wp2_with fail
    refine (hC1 w1).mono ?_
    rintro e w2 ⟨⟨n, z, rfl⟩, hB2⟩
    have hs2 := hB2.size
    go_wp2_with fail
    refine (hP w2).mono ?_
    rintro e w3 ⟨⟨k, hk, rfl⟩, hB3⟩
    have hs3 := hB3.size
    obtain ⟨room, hroom, hr2, hr3⟩ : ∃ room : Nat, IntKind.i64.wrap (2 + (k : Int)) = (room : Int) ∧ 2 ≤ room ∧ room ≤ 1000 := ⟨2 + k, by rw [IntKind.wrap_i64]; omega, by omega, by omega⟩
    have hT3 : TabIn w3 := ((hT.below hB1 (by omega)).below hB2 (by omega)).below hB3 (by omega)
    have hN := new_any plainSrc room hr2 hr3 (by rw [plain_check]) w3 (by omega) hT3
    clear hC0 hC1 hP
    go_wp2_with fail
    refine hN.mono ?_
    rintro e w4 ⟨lx, t, p, mb, B, D, rfl, hL, hok, hwh, h8, -, hBB, hlx, hB4, -⟩
    have HL := hid hL
    have HO := hid hok
    have HW : Hid (D.whole (ruleCount s)) := by unfold Hid; rw [HRC.out]; exact hwh
    have H8 : Hid (ruleCount s ≤ 8) := by unfold Hid; rw [HRC.out]; exact h8
    clear hL hok hwh h8 hN
    go_wp2_with fail
    go_ret
    exact ⟨lx, t, p, mb, B, D, room, rfl, HL.out, HO.out, HW.out, H8.out, by omega, by omega, ((hB1.trans (hB2.mono hs1)).trans (hB3.mono (by omega))).trans (hB4.mono (by omega))⟩
end Go.Proofs.YtjhmlcilabnlbaaDoor
/- Tiles: the tokens in memory; Lex, again and again. -/
namespace Go.Proofs.YtjhmlcilabnlbaaDoor
open Go.RowKit Go.Shelf

attribute [local go_sem] Oper.semAt_some

theorem tokCells_cons (a : Tok) (l : List Tok) : tokCells (a :: l) = .int .i64 a.rl :: .int .i64 (a.fr : Int) :: .int .i64 (a.tt : Int) :: tokCells l := by simp [tokCells]
theorem tokCells_get : ∀ (l : List Tok) (i : Nat) (x : Tok), l[i]? = some x → (tokCells l)[i * 3]? = some (.int .i64 x.rl) ∧ (tokCells l)[i * 3 + 1]? = some (.int .i64 (x.fr : Int)) ∧ (tokCells l)[i * 3 + 2]? = some (.int .i64 (x.tt : Int))
  | [], i, x, h => by simp at h
  | a :: l, 0, x, h => by
    simp at h
    subst h
    rw [tokCells_cons]
    exact ⟨rfl, rfl, rfl⟩
  | a :: l, i + 1, x, h => by
    have := tokCells_get l i x (by simpa using h)
    rw [tokCells_cons, show (i + 1) * 3 = i * 3 + 3 by omega, show i * 3 + 3 + 1 = i * 3 + 1 + 3 by omega, show i * 3 + 3 + 2 = i * 3 + 2 + 3 by omega]
    exact this
/-- Tokens in a block. -/
def TokAt (w : World) (g : Nat) (T : List Tok) : Prop := ∃ cur, w.heap[g]? = some (.cells cur 30 (0, 0)) ∧ cur.toList.take (T.length * 3) = tokCells T
theorem TokAt.lt {w : World} {g : Nat} {T : List Tok} (h : TokAt w g T) : g < w.heap.size := by
  obtain ⟨cur, hc, -⟩ := h
  exact (Array.getElem?_eq_some_iff.1 hc).1
theorem TokAt.keep {w w' : World} {g : Nat} {T : List Tok} (h : TokAt w g T) (k : w'.heap[g]? = w.heap[g]?) : TokAt w' g T := by
  obtain ⟨cur, hc, h2⟩ := h
  exact ⟨cur, k.trans hc, h2⟩
theorem TokAt.cells {w : World} {g : Nat} {T : List Tok} (h : TokAt w g T) {i : Nat} {x : Tok} (hx : T[i]? = some x) : w.cell? ⟨g, i * 3, none⟩ = some (.int .i64 x.rl) ∧ w.cell? ⟨g, i * 3 + 1, none⟩ = some (.int .i64 (x.fr : Int)) ∧ w.cell? ⟨g, i * 3 + 2, none⟩ = some (.int .i64 (x.tt : Int)) := by
  obtain ⟨cur, hc, ht⟩ := h
  have hi : i < T.length := (List.getElem?_eq_some_iff.1 hx).1
  obtain ⟨h0, h1, h2⟩ := tokCells_get T i x hx
  exact ⟨(cell_of_take hc ht (by omega)).trans h0, (cell_of_take hc ht (by omega)).trans h1, (cell_of_take hc ht (by omega)).trans h2⟩
theorem tok_at {w : World} {K : Nat} {v : Value} {T : List Tok} (h : w.ownsRow K 30 3 v T.length (tokCells T)) : ∃ ad cap, v = .slice ad T.length cap ∧ (0 < T.length → ∃ g, ad = some ⟨g, 0, none⟩ ∧ TokAt w g T ∧ T.length ≤ cap) := by
  rcases h.2 with ⟨hv, h0⟩ | ⟨g, cap, cur, hv, hge, hh, hc, -, -, ht⟩
  · exact ⟨none, 0, by rw [hv, h0], fun h => by omega⟩
  · exact ⟨some ⟨g, 0, none⟩, cap, hv, fun _ => ⟨g, rfl, ⟨cur, hh, ht⟩, hc⟩⟩

/-- The lexer stands, and nothing that was there at first has turned. -/
def Kp (B : Nat) (w0 : World) (lx t p room mb : Nat) (D : PlD) (W : World) : Prop := (∃ l dn f, LexI B W lx t p room mb D l dn f) ∧ Below w0.heap.size w0 W
theorem Kp.alloc {B : Nat} {w0 : World} {lx t p room mb : Nat} {D : PlD} {W W' : World} (h : Kp B w0 lx t p room mb D W) (k : Below W.heap.size W W') : Kp B w0 lx t p room mb D W' := by
  obtain ⟨⟨l, dn, f, hI⟩, hB⟩ := h
  have hg : B ≤ W.heap.size := by have := hI.tb.gt; have := hI.tb.tb.lt; omega
  exact ⟨⟨l, dn, f, hI.keep k.block (k.mono hg)⟩, hB.trans (k.mono hB.size)⟩
theorem lex_kept (B : Nat) (w0 : World) (lx t p room mb : Nat) (D : PlD) (hD : D.ok) (h0B : w0.heap.size ≤ B) (s : ByteArray) (hs : s.size ≤ 1048576) (W : World) (h : Kp B w0 lx t p room mb D W) :
    Calls Tryd.prog 7 #[.pointer (some ⟨lx, 0, none⟩), .string s] W fun e W' => ∃ ad cap, e = .returned (.slice ad (lexN D s).length cap) ∧ (0 < (lexN D s).length → ∃ g, ad = some ⟨g, 0, none⟩ ∧ TokAt W' g (lexN D s) ∧ (lexN D s).length ≤ cap) ∧ Kp B w0 lx t p room mb D W' ∧ ∀ g T, TokAt W g T → TokAt W' g T := by
  obtain ⟨⟨l, dn, f, hI⟩, hB⟩ := h
  refine (lex_any B lx t p room mb D hD s hs l dn f W hI).mono ?_
  rintro e W' ⟨l', dn', f', v, rfl, hown, hI', hT, -⟩
  obtain ⟨ad, cap, rfl, hg⟩ := tok_at hown
  have hBw : w0.heap.size ≤ W.heap.size := hB.size
  refine ⟨ad, cap, rfl, hg, ⟨⟨l', dn', f', hI'⟩, hB.trans (hT.toBelow hBw (fun j hj e => ?_))⟩, fun g T hg => hg.keep ?_⟩
  · have := (hI.tb.ltS e).1
    omega
  · obtain ⟨cur, hc, -⟩ := hg
    exact hT.block g (Array.getElem?_eq_some_iff.1 hc).1 (hI.tb.sepT hc (by decide) (by decide))
end Go.Proofs.YtjhmlcilabnlbaaDoor
/- The keeper's words: the walk. -/
namespace Go.Proofs.YtjhmlcilabnlbaaDoor
open Go.RowKit Go.Shelf

theorem Tryd.info9 : (Tryd.prog.info? 9).map (fun i => (i.zero, i.size, i.bytes)) = some (some (.string ⟨#[]⟩), 1, 16) := by kernel_rfl
/-- Numbers that were handed in. -/
def RawIn (w : World) (v : Value) (n : Nat) : Prop :=
  ∃ ad cap, v = .slice ad n cap ∧ (0 < n → ∃ a, ad = some a ∧ ∀ i, i < n → ∃ c : Int, -9223372036854775808 ≤ c ∧ c < 9223372036854775808 ∧ w.cell? (a.add i) = some (.int .i64 c))
theorem cell_below {w w' : World} (h : Below w.heap.size w w') {a : Addr} {v : Value} (hc : w.cell? a = some v) : w'.cell? a = some v := by
  have hb : a.block < w.heap.size := by
    rcases Nat.lt_or_ge a.block w.heap.size with hlt | hge
    · exact hlt
    · rw [show w.cell? a = none by unfold World.cell?; rw [Array.getElem?_eq_none (by omega)]] at hc
      cases hc
  rw [← hc]
  unfold World.cell?
  rw [h.block a.block hb]
def strs (l : List ByteArray) : List Value := l.map .string
theorem one_cells {w : World} {b : ByteArray} (j : Nat) (u : Value) (h : [Value.string b][j]? = some u) : (w.alloc (.cells #[.string b] 9)).cell? ((⟨w.heap.size, 0, none⟩ : Addr).add j) = some u := by
  cases j with
  | zero =>
    have e : u = .string b := by simpa using h.symm
    subst e
    have e : (⟨w.heap.size, 0, none⟩ : Addr).add 0 = ⟨w.heap.size, 0, none⟩ := by unfold Addr.add; simp
    rw [e]
    unfold World.cell?
    rw [heap_alloc_at]
    rfl
  | succ j => simp at h

theorem owns_below {w w' : World} {base : Nat} {e : TypeId} {size : Nat} {v : Value} {n : Nat} {xs : List Value} (h : w.ownsRow base e size v n xs) (k : Below w.heap.size w w') : w'.ownsRow base e size v n xs := by
  refine ⟨h.1, ?_⟩
  rcases h.2 with hn | ⟨g, cap, cur, hv, hge, hg, rest⟩
  · exact .inl hn
  · refine .inr ⟨g, cap, cur, hv, hge, ?_, rest⟩
    rw [k.block g (Array.getElem?_eq_some_iff.1 hg).1]
    exact hg

theorem build30 (a b c : Int) (w : World) : (Instr.build 30 #[(0, .int .i64 a), (1, .int .i64 b), (2, .int .i64 c)]).run Tryd.prog w = .ok (.agg #[.int .i64 a, .int .i64 b, .int .i64 c]) w := run_build w 30 _ _ (by kernel_rfl)
set_option maxRecDepth 100000 in
theorem eq30 (a b c d e f : Int) (w : World) : (Op.equalIn 10000 30 (.agg #[.int .i64 a, .int .i64 b, .int .i64 c]) (.agg #[.int .i64 d, .int .i64 e, .int .i64 f])).run Tryd.prog w = .ok (a == d && b == e && c == f) w := by
  have u3 := Tryd.underlying3
  have a3 := Tryd.isAgg3
  have z3 := Tryd.sizeOf3
  have hS : Tryd.prog.underlying 30 = some (.struct (Tryd.prog.fieldsOf 30)) := by kernel_rfl
  have hp : Tryd.prog.stoodInHeld 30 = false := by kernel_rfl
  rw [show (10000 : Nat) = 9999 + 1 from rfl, run_equalIn_agg w 9999 30 _ _ hS hp]
  simp only [Program.fieldsOf, Tryd.underlying30]
  go_simp
  by_cases h1 : a = d <;> by_cases h2 : b = e <;> by_cases h3 : c = f <;> simp [h1, h2, h3]

set_option maxRecDepth 100000 in
set_option maxHeartbeats 8000000 in
theorem words_any (v : Value) (n : Nat) (c : Int) (h0 : -9223372036854775808 ≤ c) (h1 : c < 9223372036854775808) (x : ByteArray) (hx : x.size ≤ 1048576) (w : World) (hw : 1 ≤ w.heap.size) (hT : TabIn w) (hR : RawIn w v n) (hn : n ≤ 9223372036854775807) :
    Calls Tryd.prog 4 #[v, .int .i64 c, .string x] w fun e w' => e = .returned (.bool true) ∧ Below w.heap.size w w' := by
  obtain ⟨rad, rcap, rfl, hraw⟩ := hR
  have HRAW := hid hraw
  clear hraw
  obtain ⟨N, hN, hN8, hNn⟩ : ∃ N : Nat, (N = n ∨ N = 8) ∧ N ≤ 8 ∧ N ≤ n := by
    by_cases h : n ≤ 8
    · exact ⟨n, Or.inl rfl, h, Nat.le_refl _⟩
    · exact ⟨8, Or.inr rfl, Nat.le_refl _, by omega⟩
  have HN := hid hN
  clear hN
  go_enter Tryd.func4, Tryd.ntmps4
  go_wp2_with fail
  go_loopg [7, 8, 9] N (fun g wv sv iv wr => ∃ (l : List ByteArray) (src : ByteArray) (i : Nat), i + g = N ∧ Hid (l.length = i) ∧ iv = .int .i64 (i : Int) ∧ sv = .string src ∧ wr.ownsRow w.heap.size 9 1 wv i (strs l) ∧ Hid (∀ b, b ∈ l → WordOk (bsN b)) ∧ Hid (bsN src = srcL 0 (l.map bsN)) ∧ src.size ≤ 7 * i ∧ Below w.heap.size w wr)
  case atStart => exact ⟨[], ⟨#[]⟩, 0, by omega, rfl, rfl, rfl, World.ownsRow_nil _ _ _ _, fun b hb => absurd hb (by simp), rfl, by show 0 ≤ 0; omega, Below.refl _ _⟩
  case round =>
    obtain ⟨l, src, i, hig, hli, rfl, rfl, hown, hok, hsrc, hss, hBr⟩ := hrel
    go_upto_region 4 with fail
    go_cut [32] (fun cv wx => cv = .bool (decide (i < N)) ∧ wx = wr)
    case first =>
      by_cases hlt : i < N
      · have b1 : decide ((i : Int) < (n : Int)) = true := by simp; omega
        have b2 : decide ((i : Int) < 8) = true := by simp; omega
        go_wp2_with fail
        go_meet
        exact ⟨by simp [hlt], rfl⟩
      · by_cases hin : i < n
        · have b1 : decide ((i : Int) < (n : Int)) = true := by simp; omega
          have b2 : decide ((i : Int) < 8) = false := by have := HN.out; simp; omega
          go_wp2_with fail
          go_meet
          exact ⟨by simp [hlt], rfl⟩
        · have b1 : decide ((i : Int) < (n : Int)) = false := by simp; omega
          go_wp2_with fail
          go_meet
          exact ⟨by simp [hlt], rfl⟩
    case rest =>
    obtain ⟨rfl, rfl⟩ := hcut
    by_cases hlt : i < N
    · have b0 : decide (i < N) = true := by simp [hlt]
      obtain ⟨a, rfl, hcs⟩ := HRAW.out (by omega)
      obtain ⟨ci, hc0, hc1, hci⟩ := hcs i (by omega)
      have hci2 := cell_below hBr hci
      clear hcs hci
      go_wp2_with fail
      refine (word_any ci hc0 hc1 wc).mono ?_
      rintro e w2 ⟨⟨b, rfl, hbo⟩, hB2⟩
      have hs2 := hB2.size
      have hsr := hBr.size
      have HB2 := hid hB2
      have hown2 : w2.ownsRow w.heap.size 9 1 u7 i (strs l) := owns_below hown hB2
      have hbs : b.size ≤ 4 := by have := hbo.2.1; rw [bsN_len] at this; exact this
      have HBO := hid hbo
      clear hbo
      obtain ⟨i0, hi0, hz0, hz1, hz2⟩ := info_parts Tryd.info9
      go_wp2_with (first
        | (at_builtin; refine wpList_append_own_at _ rfl (.tmp 40) (.tmp 42) 33 rfl w.heap.size 9 i0 _ 1 16 Tryd.underlying33 hi0 hz0 hz1 hz2 rfl (by decide) _ _ _ rfl (hown2.alloc _) ⟨w2.heap.size, 0, none⟩ 1 1 [.string b] rfl rfl ?c1 ?c2 ?c3 ?c4 ?c5 ?_))
      case c1 => exact one_cells
      case c2 => intro u hu; rw [List.mem_singleton] at hu; subst hu; rfl
      case c3 => unfold maxLen; omega
      case c4 => omega
      case c5 => simp; omega
      · intro v' w6 hown6 hgrow6 hnil hat6
        have HO6 : Hid (w6.ownsRow w.heap.size 9 1 v' (i + 1) (strs (l ++ [b]))) := by
          unfold Hid strs; rw [List.map_append]; exact hown6
        have hB6 : Below w.heap.size w w6 := Below.grown (((hBr.trans (HB2.out.mono hsr))).alloc (by omega) _) hgrow6 (by simp; omega) (fun k hk => (hown.lt k hk).1)
        have hs6 := hB6.size
        clear hown6 hgrow6 hnil hat6
        have kc := byte_text w6 (97 + i) (by omega)
        have e97 : ((97 + i : Nat) : Int) = 97 + (i : Int) := by omega
        rw [e97] at kc
        have HS7 := hid (src_next (b := b) hsrc.out hli.out (by omega))
        have hz0' : (src ++ ⟨#[UInt8.ofNat (97 + i)]⟩ : ByteArray).size = src.size + 1 := ByteArray.size_append
        have hz1' : ((src ++ ⟨#[UInt8.ofNat (97 + i)]⟩) ++ ⟨#[61]⟩ : ByteArray).size = src.size + 1 + 1 := by rw [ByteArray.size_append, hz0']; rfl
        have hz2' : (((src ++ ⟨#[UInt8.ofNat (97 + i)]⟩) ++ ⟨#[61]⟩) ++ b : ByteArray).size = src.size + 1 + 1 + b.size := by rw [ByteArray.size_append, hz1']
        have HZ3 : Hid ((((((src ++ ⟨#[UInt8.ofNat (97 + i)]⟩) ++ ⟨#[61]⟩) ++ b) ++ ⟨#[10]⟩ : ByteArray)).size ≤ 7 * (i + 1)) := by
          unfold Hid; rw [ByteArray.size_append, hz2']; show src.size + 1 + 1 + b.size + 1 ≤ _; omega
        have HB7 : Hid (Below w.heap.size w (w6.alloc (.cells #[.int .u8 (97 + (i : Int))] 5))) := hB6.alloc hs6 _
        have HO7 : Hid ((w6.alloc (.cells #[.int .u8 (97 + (i : Int))] 5)).ownsRow w.heap.size 9 1 v' (i + 1) (strs (l ++ [b]))) := HO6.out.alloc _
        have HL7 : Hid ((l ++ [b]).length = i + 1) := by unfold Hid; rw [List.length_append, hli.out]; rfl
        have HK7 : Hid (∀ b', b' ∈ l ++ [b] → WordOk (bsN b')) := fun b' hb' => by
          rcases List.mem_append.1 hb' with h | h
          · exact hok.out b' h
          · rw [List.mem_singleton] at h; subst h; exact HBO.out
        generalize UInt8.ofNat (97 + i) = y at *
        go_wp2_with fail
        go_roundg (gk - 1)
        case measure => omega
        case rel => exact ⟨l ++ [b], _, i + 1, by omega, HL7.out, by go_num, rfl, HO7.out, HK7.out, HS7.out, HZ3.out, HB7.out⟩
    · have b0 : decide (i < N) = false := by simp [hlt]
      have hiN : i = N := by omega
      subst hiN
      clear HRAW HN hlt hig hNn
      obtain ⟨ad, cap, rfl⟩ := powns_shape hown
      have hli2 := hli.out
      have HLI := hli
      go_upto_if 57 with fail
      go_cut [7, 8] from 25 to 58 (fun wv sv wx => ∃ (L : List ByteArray) (s : ByteArray) (g cap : Nat), wv = .slice (some ⟨g, 0, none⟩) L.length cap ∧ sv = .string s ∧ Hid (StrAt wx g L) ∧ Hid (WordsSrc s (L.map bsN)) ∧ Hid (∀ b, b ∈ L → WordOk (bsN b)) ∧ 1 ≤ L.length ∧ L.length ≤ 8 ∧ L.length ≤ cap ∧ Below w.heap.size w wx)
      case first =>
        by_cases hi0 : i = 0
        · have z0 : ((i : Int) == 0) = true := by simp [hi0]
          go_wp2_with fail
          go_meet
          refine ⟨[⟨#[97, 98]⟩], ⟨#[97, 61, 97, 98]⟩, wc.heap.size, 1, rfl, rfl, ⟨_, _, heap_alloc_at _ _, rfl⟩, words_none rfl, ?_, by decide, by decide, by decide, hBr.alloc hBr.size _⟩
          intro b hb
          rw [List.mem_singleton] at hb
          subst hb
          exact ⟨by decide, by decide, by decide⟩
        · have z0 : ((i : Int) == 0) = false := by simp [hi0]
          obtain ⟨g, rfl, hge, hcur⟩ : ∃ g, ad = some ⟨g, 0, none⟩ ∧ i ≤ cap ∧ StrAt wc g l := by
            rcases hown.2 with ⟨-, h⟩ | ⟨g, c', cur, hv, -, hg, hc', -, -, ht⟩
            · exact absurd h hi0
            · injection hv with e1 e2 e3
              subst e1; subst e3
              exact ⟨g, rfl, hc', cur, _, hg, by rw [hli2]; simpa [strs] using ht⟩
          have HCUR := hid hcur
          clear hcur
          go_wp2_with fail
          go_meet
          refine ⟨l, src, g, cap, by rw [hli2], rfl, HCUR.out, words_src (fun e => hi0 (by rw [← hli2]; have := congrArg List.length e; simpa using this)) hsrc.out (by simp; omega) ?_, hok.out, by omega, by omega, by omega, hBr⟩
          intro wd hwd
          obtain ⟨b, h3, rfl⟩ := List.mem_map.1 hwd
          exact hok.out b h3
      case rest =>
        clear hown hok hsrc hss hBr hli HLI hli2
        obtain ⟨L, s, g, cap2, rfl, rfl, hSA, hWS, hWO, hl1, hl8, hlc, hBx⟩ := hcut
        rename_i W0
        have hC1 : ∀ w1, Calls Tryd.prog 6 #[.string s] w1 fun e w' => e = .returned (.tuple #[.int .i64 (L.length : Int), .int .i64 0, .int .i64 0]) ∧ Below w1.heap.size w1 w' := fun w1 => (pcheck_any s w1).mono (fun e w' h => ⟨by have h3 := h.1; unfold CheckOut at h3; rw [h3, hWS.out.check, List.length_map]; rfl, h.2⟩)
        go_wp2_with fail
        refine (hC1 _).mono ?_
        rintro e w1 ⟨rfl, hB1⟩
        clear hC1
        have hBx1 : Below w.heap.size w w1 := hBx.trans (hB1.mono hBx.size)
        have HSA1 := hid (hSA.out.below hB1)
        clear hB1 hSA hBx
        go_wp2_with fail
        refine (pickn_any 999 (by omega) (by omega) c h0 h1 w1).mono ?_
        rintro e w2 ⟨⟨k, hk, rfl⟩, hB2⟩
        have hBx2 : Below w.heap.size w w2 := hBx1.trans (hB2.mono hBx1.size)
        have HSA2 := hid (HSA1.out.below hB2)
        have hw2 := hBx2.size
        have hT2 : TabIn w2 := hT.below hBx2 (by omega)
        clear hB2 HSA1 hBx1
        obtain ⟨room, hroom, hr2, hr3⟩ : ∃ room : Nat, IntKind.i64.wrap (2 + (k : Int)) = (room : Int) ∧ 2 ≤ room ∧ room ≤ 1000 := ⟨2 + k, by rw [IntKind.wrap_i64]; omega, by omega, by omega⟩
        have hN := new_any s room hr2 hr3 (by rw [hWS.out.check]) w2 (by omega) hT2
        go_wp2_with fail
        refine hN.mono ?_
        rintro e w3 ⟨lx, t, p, mb, B, D, rfl, hI, hok, hwh, h8, -, hBB, hlx, hB3, hPO⟩
        have HK : Hid (Kp B w2 lx t p room mb D w3) := ⟨⟨_, _, _, hI⟩, hB3⟩
        have HOK := hid hok
        have HPO : Hid (∃ A, WPlan D (L.map bsN) A) := hWS.out.plan (fun wd hwd => by obtain ⟨b, h3, rfl⟩ := List.mem_map.1 hwd; exact hWO.out b h3) (by simpa using hl8) hPO
        have HNE : Hid (∀ wd, wd ∈ L.map bsN → wd ≠ []) := fun wd hwd => by obtain ⟨b, h3, rfl⟩ := List.mem_map.1 hwd; exact (hWO.out b h3).1
        clear hN hI hok hwh h8 hPO hB3 hT2
        have z1 : ((L.length : Int) != (L.length : Int)) = false := by simp
        go_wp2_with fail
        refine (lex_kept B w2 lx t p room mb D HOK.out hBB x hx w3 HK.out).mono ?_
        rintro e w4 ⟨tad, tcap, rfl, hg, hK4, -⟩
        have hB4 : Below w2.heap.size w2 w4 := hK4.2
        have HSA4 := hid (HSA2.out.below hB4)
        have HB4 : Hid (Below w.heap.size w w4) := hBx2.trans (hB4.mono hBx2.size)
        have HCU := hid (lexN_cuts D x)
        have hlen : (lexN D x).length ≤ x.size := iterR_len D x x.size
        have H4 : Hid (∀ b, b ∈ L → b.size ≤ 4) := fun b hb => by have := (hWO.out b hb).2.1; rw [bsN_len] at this; exact this
        clear hK4 HK HSA2 hB4 hBx2 hT hw2 hWS hWO
        generalize lexN D x = T at *
        have HG := hid hg
        clear hg
        have b9 := build30
        have e9 := eq30
        go_wp2_with fail
        go_loopg [18, 19] T.length (fun gk av ix wr => ∃ i a : Nat, i + gk = T.length ∧ av = .int .i64 (a : Int) ∧ ix = .int .i64 (i : Int) ∧ Hid (Cuts D x a (T.drop i)) ∧ a ≤ x.size ∧ wr = w4)
        case atStart => exact ⟨0, 0, by omega, rfl, rfl, HCU.out, by omega, rfl⟩
        case round =>
          obtain ⟨i2, a, hi2, rfl, rfl, hCi, hax, rfl⟩ := hrel
          by_cases hlt2 : i2 < T.length
          · obtain ⟨g2, rfl, hTA, htc⟩ := HG.out (by omega)
            obtain ⟨tk, htk⟩ : ∃ tk, T[i2]? = some tk := ⟨T[i2], List.getElem?_eq_getElem hlt2⟩
            have hdr : T.drop i2 = tk :: T.drop (i2 + 1) := by
              rw [List.drop_eq_getElem_cons hlt2]
              congr 1
              rw [List.getElem?_eq_getElem hlt2] at htk
              exact Option.some.inj htk
            have hci := hCi.out
            rw [hdr] at hci
            obtain ⟨d1, d2, d3⟩ := hci
            have HIT := hid d2
            have HC2 := hid d3
            obtain ⟨c0, c1, c2⟩ := hTA.cells htk
            clear hdr d2 d3 hTA htk hCi
            have hltI : decide ((i2 : Int) < (T.length : Int)) = true := by simp; omega
            generalize hgk1 : gk = gk1 at *
            go_wp2_with fail
            go_loopg [20, 21] L.length (fun gk bv kv wx => ∃ (k : Nat) (o : Option Nat), k + gk = L.length ∧ bv = .int .i64 (optI o) ∧ kv = .int .i64 (k : Int) ∧ Hid (BestOk (L.map bsN) x a k o) ∧ wx = wr)
            case atStart => exact ⟨0, none, by omega, rfl, rfl, BestOk.start _ _ _, rfl⟩
            case round =>
              obtain ⟨k2, o, hk2, rfl, rfl, hBO, rfl⟩ := hrel
              by_cases hkl : k2 < L.length
              · obtain ⟨b, hb⟩ : ∃ b, L[k2]? = some b := ⟨L[k2], List.getElem?_eq_getElem hkl⟩
                have cb := HSA4.out.cell hb
                have hb4 : b.size ≤ 4 := H4.out b (List.mem_of_getElem? hb)
                have HFI := hid (fits_iff (x := x) (a := a) hb)
                have HLW := hid (lenW_map hb)
                clear hb
                have k0 : decide ((k2 : Int) < (L.length : Int)) = true := by simp; omega
                by_cases h3 : a + b.size ≤ x.size
                · have a1 : IntKind.i64.wrap ((a : Int) + (b.size : Int)) = ((a + b.size : Nat) : Int) := by rw [IntKind.wrap_i64]; omega
                  have k1 : decide (((a + b.size : Nat) : Int) ≤ (x.size : Int)) = true := by simp; omega
                  cases hq : ((x.extract a (a + b.size)).toList == b.toList) with
                  | false =>
                    have HNF : Hid (¬ FitsW (L.map bsN) x a k2) := fun h => by
                      have h4 := (HFI.out.1 h).2
                      rw [hq] at h4; cases h4
                    go_wp2_with fail
                    go_roundg (gk - 1)
                    case measure => omega
                    case rel => exact ⟨k2 + 1, o, by omega, rfl, by go_num, hBO.out.no HNF.out, rfl⟩
                  | true =>
                    have HF : Hid (FitsW (L.map bsN) x a k2) := HFI.out.2 ⟨h3, hq⟩
                    cases o with
                    | none =>
                      have o2 : optI none = -1 := rfl
                      have HB9 : Hid (BestOk (L.map bsN) x a (k2 + 1) (some k2)) := hBO.out.first HF.out
                      clear HF HFI HLW hBO
                      go_wp2_with fail
                      go_roundg (gk - 1)
                      case measure => omega
                      case rel => exact ⟨k2 + 1, some k2, by omega, rfl, by go_num, HB9.out, rfl⟩
                    | some i1 =>
                      have o2 : optI (some i1) = (i1 : Int) := rfl
                      have hi1 : i1 < k2 := hBO.out.1
                      obtain ⟨b1, hb1⟩ : ∃ b1, L[i1]? = some b1 := ⟨L[i1], List.getElem?_eq_getElem (by omega)⟩
                      have cb1 := HSA4.out.cell hb1
                      have hb14 : b1.size ≤ 4 := H4.out b1 (List.mem_of_getElem? hb1)
                      have HLW1 := hid (lenW_map hb1)
                      clear hb1
                      by_cases h5 : b1.size < b.size
                      · have HB9 : Hid (BestOk (L.map bsN) x a (k2 + 1) (some k2)) := hBO.out.more HF.out (by rw [HLW.out, HLW1.out]; exact h5)
                        have k5 : decide ((b.size : Int) > (b1.size : Int)) = true := by simp; omega
                        clear HF HFI HLW HLW1 hBO
                        go_wp2_with fail
                        go_roundg (gk - 1)
                        case measure => omega
                        case rel => exact ⟨k2 + 1, some k2, by omega, rfl, by go_num, HB9.out, rfl⟩
                      · have HB9 : Hid (BestOk (L.map bsN) x a (k2 + 1) (some i1)) := hBO.out.less (by rw [HLW.out, HLW1.out]; exact h5)
                        have k5 : decide ((b.size : Int) > (b1.size : Int)) = false := by simp; omega
                        clear HF HFI HLW HLW1 hBO
                        go_wp2_with fail
                        go_roundg (gk - 1)
                        case measure => omega
                        case rel => exact ⟨k2 + 1, some i1, by omega, rfl, by go_num, HB9.out, rfl⟩
                · have HNF : Hid (¬ FitsW (L.map bsN) x a k2) := fun h => h3 (HFI.out.1 h).1
                  have a1 : IntKind.i64.wrap ((a : Int) + (b.size : Int)) = ((a + b.size : Nat) : Int) := by rw [IntKind.wrap_i64]; omega
                  have k1 : decide (((a + b.size : Nat) : Int) ≤ (x.size : Int)) = false := by simp; omega
                  clear HFI HLW
                  go_wp2_with fail
                  go_roundg (gk - 1)
                  case measure => omega
                  case rel => exact ⟨k2 + 1, o, by omega, rfl, by go_num, hBO.out.no HNF.out, rfl⟩
              · have hkL : k2 = L.length := by omega
                obtain ⟨A, hWP⟩ := HPO.out
                have hbo := hBO.out
                rw [show k2 = (L.map bsN).length by rw [List.length_map]; exact hkL] at hbo
                cases o with
                | none =>
                  have o2 : optI none = -1 := rfl
                  have e1 : tk = ⟨-1, a, a + 1⟩ := tok_words (o := none) hWP HOK.out HNE.out HIT.out hbo
                  subst e1
                  clear HIT hBO hbo hWP HPO
                  rw [show ((a + 1 : Nat) : Int) = (a : Int) + 1 by omega] at c2
                  go_wp2_with fail
                  go_roundg (gk1 - 1)
                  case measure => omega
                  case rel => exact ⟨i2 + 1, a + 1, by omega, by go_num, by go_num, HC2.out, by omega, rfl⟩
                | some i1 =>
                  have o2 : optI (some i1) = (i1 : Int) := rfl
                  have hi1 : i1 < k2 := hBO.out.1
                  obtain ⟨b1, hb1⟩ : ∃ b1, L[i1]? = some b1 := ⟨L[i1], List.getElem?_eq_getElem (by omega)⟩
                  have cb1 := HSA4.out.cell hb1
                  have hb14 : b1.size ≤ 4 := H4.out b1 (List.mem_of_getElem? hb1)
                  have hfit : a + b1.size ≤ x.size := ((fits_iff hb1).1 hbo.2.1).1
                  have e1 : tk = ⟨(i1 : Int), a, a + lenW (L.map bsN) i1⟩ := tok_words (o := some i1) hWP HOK.out HNE.out HIT.out hbo
                  rw [lenW_map hb1] at e1
                  subst e1
                  clear HIT hBO hbo hWP HPO hb1
                  rw [show ((a + b1.size : Nat) : Int) = (a : Int) + (b1.size : Int) by omega] at c2
                  have k6 : decide ((i1 : Int) ≥ 0) = true := by simp
                  go_wp2_with fail
                  go_roundg (gk1 - 1)
                  case measure => omega
                  case rel => exact ⟨i2 + 1, a + b1.size, by omega, by go_num, by go_num, HC2.out, hfit, rfl⟩
          · have hiT : i2 = T.length := by omega
            have hfin : a = x.size := by
              have h := hCi.out
              rw [List.drop_eq_nil_of_le (by omega)] at h
              exact h
            subst hfin
            clear hCi
            go_wp2_with fail
            go_ret
            exact ⟨rfl, HB4.out⟩
end Go.Proofs.YtjhmlcilabnlbaaDoor
namespace Go.Proofs.YtjhmlcilabnlbaaDoor
open Go.ChangeShapes Go.WideShapes Go.ChangeAt Go.RowKit
open Go.ChangeMaps (open_string shut_string)

theorem Tryd.own : ownKnob Tryd.prog.godebug = none := by kernel_rfl
theorem Tryd.gTab : Tryd.prog.globalNamed "math/bits.deBruijn64tab" = some 0 := by kernel_rfl
theorem Tryd.gTabType : (Tryd.prog.globals[0]?).map (·.type) = some 131 := by kernel_rfl
theorem Tryd.cells131 : Tryd.prog.cellsOf 131 = 64 := by kernel_rfl
theorem Tryd.cells5 : Tryd.prog.cellsOf 5 = 1 := by kernel_rfl
theorem words_laid : Rows.wordsUptoRow.laid = [("math/bits.deBruijn64tab", Lib.tabData .u8 (Lib.deBruijn64tab.map fun (n : Nat) => (n : Int)))] := by kernel_rfl
theorem tab_of {W : World} (h : laidMet Tryd.prog Rows.wordsUptoRow.laid W) : TabIn W := fun j hj => by
  rw [words_laid] at h
  have h1 := (Lib.tabIs_of_head (rest := []) Tryd.gTab Tryd.gTabType Tryd.underlying131 Tryd.underlying5 Tryd.cells5 Tryd.cells131 h).cell Tryd.gTab j (by rw [List.length_map]; exact hj)
  have e : (Lib.deBruijn64tab.map fun (n : Nat) => (n : Int)).getD j 0 = ((Lib.deBruijn64tab.getD j 0 : Nat) : Int) := by
    rw [List.getD, List.getD, List.getElem?_map]
    cases Lib.deBruijn64tab[j]? <;> rfl
  rw [e] at h1
  exact h1

theorem Tryd.laidOut : laidOutB Tryd.prog = true := by kernel_rfl
theorem words_short {H : Type} {d0 : DataW H} {x : ByteArray} {c : Int} (hk : Rows.uptoSmall H [d0, .lit (.int .i64 c), .lit (.string x.data.toList)] = true) : x.size ≤ 1048576 := by
  have h : Rows.uptoBulkAll [d0, .lit (.int .i64 c), .lit (.string x.data.toList)] ≤ 1048576 := of_decide_eq_true hk
  simp only [Rows.uptoBulkAll, Rows.uptoBulk] at h
  have e : x.data.toList.length = x.size := by rw [Array.length_toList]; rfl
  omega

set_option maxRecDepth 100000 in
theorem words_contract (H : Type) (enc : TypeId × Value → H) (W : World) (base : Nat) (args : Array Value) (ds gs : List (DataW H)) (before : List MemPlace)
    (hval : ∀ (j : Nat) t v, Tryd.f4.params[j]? = some t → args[j]? = some v → Value.okWide Tryd.prog W .any base t v)
    (hW : DataW.Whole enc Tryd.prog Tryd.f4.params.toList Rows.wordsSpec.vars false W args.toList ds gs before) (hL : laidMet Tryd.prog Rows.wordsUptoRow.laid W) (hk : Rows.uptoSmall H (ds ++ gs) = true) :
    Calls Tryd.prog 4 args W fun e W' => ∃ v, e = .returned v ∧ Rows.wordsSpec.post enc Tryd.prog Tryd.f4 false true false false W args v W' := by
  have hT := tab_of hL
  have hw : 1 ≤ W.heap.size := by
    have h := hT 0 (by decide)
    rcases Nat.eq_zero_or_pos W.heap.size with e | e
    · rw [show W.cell? ⟨0, 0, none⟩ = none by unfold World.cell?; rw [Array.getElem?_eq_none (by omega)]] at h
      cases h
    · exact e
  have hW' := hW
  obtain ⟨p, q, hA0, hV, rfl, hfz, hnd⟩ := hW
  have hA : DataW.TrodAll enc Tryd.prog W 0 (fun _ => true) true Tryd.f4.params.toList args.toList ds p := hA0
  rw [Tryd.params4] at hA hval
  obtain ⟨v0, vs0, d0, ds0, p0, q0, hargs, rfl, rfl, h0, r0⟩ := trodAll_cons hA
  obtain ⟨v1, vs1, d1, ds1, p1, q1, rfl, rfl, rfl, h1, r1⟩ := trodAll_cons r0
  obtain ⟨v2, vs2, d2, ds2, p2, q2, rfl, rfl, rfl, h2, r2⟩ := trodAll_cons r1
  obtain ⟨rfl, rfl, rfl⟩ := trodAll_nil r2
  obtain rfl : args = #[v0, v1, v2] := by cases args; simp_all
  obtain ⟨rfl, rfl⟩ := trodVars_none hV
  obtain ⟨a0, len0, cap0, rfl⟩ := okWide_slice Tryd.underlying32 (hval 0 32 v0 rfl rfl)
  have k0 := h0
  have lt0 : ∀ x ∈ p0, x.block < W.heap.size := by obtain ⟨m, hm⟩ := k0; exact DataW.trod_lt m _ _ _ hm
  obtain ⟨hraw, hlen⟩ : RawIn W (.slice a0 len0 cap0) len0 ∧ len0 ≤ maxLen := by
    obtain ⟨fuel, hf⟩ := h0
    rcases open_ints Tryd.underlying32 Tryd.underlying3 (by kernel_rfl) hf with ⟨hcs, _⟩ | ⟨x, l, c, zs, hcs, _, hl, hm, hz, _, hcell, hwz⟩
    · simp [Value.cells] at hcs
      obtain ⟨rfl, rfl, rfl⟩ := hcs
      exact ⟨⟨none, 0, rfl, fun h => by omega⟩, Nat.zero_le _⟩
    · simp [Value.cells] at hcs
      obtain ⟨rfl, rfl, rfl⟩ := hcs
      have hzc : zs.length = cap0 := by simpa using hz
      refine ⟨⟨_, _, rfl, fun _ => ⟨x, rfl, fun i hi => ⟨zs.getD i 0, ?_, ?_, hcell i (by omega)⟩⟩⟩, by omega⟩
      · have := (range_i64 hwz i).1
        rwa [List.getD_eq_getElem?_getD]
      · have := (range_i64 hwz i).2
        rw [List.getD_eq_getElem?_getD]
        omega
  obtain ⟨c, rfl, rfl, rfl, wc⟩ := open_int Tryd.underlying3 (hval 1 3 v1 rfl rfl) h1
  obtain ⟨x, rfl, rfl, rfl, wx⟩ := open_string Tryd.underlying9 (hval 2 9 v2 rfl rfl) h2
  have hc : -9223372036854775808 ≤ c ∧ c ≤ 9223372036854775807 := bounds_i64 wc
  simp only [List.append_nil] at hW' hk
  refine (words_any _ len0 c hc.1 (by omega) x (words_short hk) W hw hT hraw (by unfold maxLen at hlen; omega)).mono fun e W' ⟨he, hB⟩ => ?_
  subst he
  exact ⟨_, rfl, _, _, _, [], _, [], hW', trodAll_mk1 (shut_bool Tryd.underlying4 _), (trodAll_cons_mk (Below.trod Tryd.laidOut (by kernel_rfl) (of_decide_eq_true (by kernel_rfl)) k0 hB lt0) (trodAll_cons_mk (shut_int Tryd.underlying3 wc) (trodAll_cons_mk (shut_string Tryd.underlying9 wx) trodAll_mk0))), rfl, hB.frame _, fun h => by cases h⟩

/-- A world for the witness: the settled one, the table as its initialiser lays it. -/
noncomputable def laidWorld (os : Os) : World :=
  { World.holding Tryd.prog os ⟨#[], #[], []⟩ with heap := (World.holding Tryd.prog os ⟨#[], #[], []⟩).heap.modify 0 fun
      | .cells _ t frozen => .cells (Lib.deBruijn64tab.map fun (n : Nat) => Value.int .u8 (n : Int)).toArray t frozen
      | o => o }
theorem laid_met (os : Os) : laidMet Tryd.prog Rows.wordsUptoRow.laid ((laidWorld os).forCall (fun _ _ => 0) ⟨#[], #[.slice none 0 0, .int .i64 0, .string .empty], []⟩).memory :=
  laidMet_of_run' 8 (by kernel_rfl) (by kernel_rfl)
theorem words_reads (os : Os) {H : Type} (enc : TypeId × Value → H) : ∃ places, DataW.whole enc Tryd.prog ((laidWorld os).forCall (fun _ _ => 0) ⟨#[], #[.slice none 0 0, .int .i64 0, .string .empty], []⟩).memory Tryd.f4.params.toList Rows.wordsSpec.vars false #[Value.slice none 0 0, .int .i64 0, .string .empty].toList 8 = some ([.nil, .lit (.int .i64 0), .lit (.string [])], [], places) :=
  ⟨[], by kernel_rfl⟩

set_option maxRecDepth 100000 in
theorem words_lifted (os : Os) (started : os.Started) (H : Type) (enc : TypeId × Value → H) (F : Stop.Interp) :
    ReturnsInHanded {} Tryd.checked os 4 .any ((Rows.OpenSpec.upto Rows.wordsSpec).preRow enc Tryd.prog Tryd.f4 Rows.wordsUptoRow.domain false Rows.wordsUptoRow.laid) (((Rows.OpenSpec.upto Rows.wordsSpec).at F).post enc Tryd.prog Tryd.f4 false true false false) := by
  obtain ⟨places, hx⟩ := words_reads os enc
  refine returnsInHanded_of_row (C := Tryd.checked) (s := Rows.OpenSpec.upto Rows.wordsSpec) Tryd.own started (by kernel_rfl) Tryd.func4
    (witness_row_at (enc := enc) (C := Tryd.checked) false (laidWorld os) #[.slice none 0 0, .int .i64 0, .string .empty] rfl (by kernel_rfl) (by kernel_rfl) (by kernel_rfl)
      (OpenSpec.preRow_of_cond 8 hx (by kernel_rfl) (fun k hk => by cases hk; kernel_rfl) (by kernel_rfl) (laid_met os))) ?_
  intro W base args ds gs before hval hW _ hcond _ hL _ _
  exact words_contract H enc W base args ds gs before hval hW hL (hcond _ rfl)

theorem words_upto : Rows.WordsUptoSaid :=
  OpenClaim.holds_of_cond 4 Tryd.f4 rfl rfl rfl rfl rfl rfl rfl ⟨rfl, rfl, rfl, rfl, rfl⟩ rfl rfl rfl rfl rfl (by kernel_rfl) Tryd.func4 (by kernel_rfl)
    (of_decide_eq_true (by kernel_rfl)) (by unfold Func.isWrapper; first | (rw [if_pos (by decide +kernel)]; kernel_rfl) | (rw [if_neg (by decide +kernel)]; exact ⟨rfl, rfl⟩))
    (fun os started H enc _ F => by rw [OpenClaim.pre_eq_preRow]; exact words_lifted os started H enc F)

theorem words_plain (f : FuncId) (fn : Func) (hf : Tryd.pinned.checked.prog.funcNamed "tessera/tesserakeep.Words" = some f) (hfn : Tryd.pinned.checked.prog.funcs[f]? = some fn) :
    false = Tryd.pinned.checked.prog.looks [] ∧ ∀ (j : Nat) t, fn.params[j]? = some t → Tryd.pinned.checked.prog.wantsStandIn t = false := by
  obtain rfl : f = 4 := Option.some.inj ((show Tryd.prog.funcNamed "tessera/tesserakeep.Words" = some 4 by kernel_rfl).symm.trans hf) |>.symm
  obtain rfl : fn = Tryd.f4 := (Option.some.inj (Tryd.func4.symm.trans hfn)).symm
  refine ⟨by kernel_rfl, fun j t ht => ?_⟩
  rw [Tryd.params4] at ht
  have hm : t = 32 ∨ t = 3 ∨ t = 9 := by
    have := Array.mem_of_getElem? ht
    simpa using this
  rcases hm with rfl | rfl | rfl
  · exact (show Tryd.prog.wantsStandIn 32 = false by kernel_rfl)
  · exact (show Tryd.prog.wantsStandIn 3 = false by kernel_rfl)
  · exact (show Tryd.prog.wantsStandIn 9 = false by kernel_rfl)

theorem words_holds : Rows.WordsUptoCardSaid :=
  Claim7.holds_tied_plain_at .later [] _ _ _ _ words_upto (fun _ h => by cases h) (by kernel_rfl) (fun _ h => by cases h) wordsUpto_row_tie rfl ⟨rfl, rfl⟩ (by kernel_rfl) rfl words_plain (by kernel_rfl)

#print axioms words_holds
end Go.Proofs.YtjhmlcilabnlbaaDoor
