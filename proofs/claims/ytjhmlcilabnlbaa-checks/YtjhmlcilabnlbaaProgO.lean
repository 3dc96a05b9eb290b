/- The program: rows. -/
import Derived.Test.YtjhmlcilabnlbaaProgN
import Derived.Deep.CutBlock
namespace Go.Proofs.Ytjhmlcilabnlbaa
open Go.RowKit

def PAtomC (s : ByteArray) (f : Nat) : Prop := ∀ (b o i : Nat) (w : World), QB w b s i o → i ≤ s.size → o ≤ 20 → P.atom s f o i ≠ .out →
    Calls Try.prog 38 #[.pointer (some ⟨b, 0, none⟩)] w fun e w' => OutD s b o (P.atom s f o i) w e w'
def PRowC (s : ByteArray) (f : Nat) : Prop := ∀ (b o i : Nat) (w : World), QB w b s i o → i ≤ s.size → o ≤ 20 → P.row s f o i ≠ .out →
    Calls Try.prog 32 #[.pointer (some ⟨b, 0, none⟩)] w fun e w' => OutD s b o (P.row s f o i) w e w'
def PAltC (s : ByteArray) (f : Nat) : Prop := ∀ (b o i : Nat) (w : World), QB w b s i o → i ≤ s.size → o ≤ 20 → P.alt s f o i ≠ .out →
    Calls Try.prog 27 #[.pointer (some ⟨b, 0, none⟩)] w fun e w' => OutD s b o (P.alt s f o i) w e w'

theorem bind_assoc {α β γ : Type} (r : P.PR α) (g : α → Nat → P.PR β) (h : β → Nat → P.PR γ) : (r.bind g).bind h = r.bind fun a j => (g a j).bind h := by cases r <;> rfl
theorem NodeF.yes {r : P.PR P.T} {w' : World} {n i : Nat} {d : Nd} (h : NodeF r w' n d i true) : ∃ t, r = .ok t i ∧ PN w' (· < n) d t := by
  cases r with
  | out => exact h.elim
  | bad p => exact absurd h.1 (by simp)
  | ok t j => obtain ⟨-, rfl, hN⟩ := h; exact ⟨t, rfl, hN⟩
/-- Where the first call fails, so does the list's. -/
theorem Lm.fails {s : ByteArray} {b o ir i2 o2 n : Nat} {w wr w2 : World} {v : Value} {xs : List (Nd × P.T)} {d : Nd} {r : P.PR P.T} {g : P.T → Nat → P.PR P.T} {R : P.PR P.T} (hL : Lm s b o w wr ir v xs) (hR : R = r.bind g) (hF : NodeF r w2 (wr.drewN n).heap.size d i2 false)
    (hlt : b < w.heap.size) (hR2 : QB w2 b s i2 o2) (hO2 : Only b (wr.drewN n) w2) (hi2 : i2 ≤ s.size) :
    OutD s b o R w (.returned (.tuple #[.agg #[.int .i64 0, .int .u64 0, .int .u64 0, .int .u64 0, .int .u64 0, .slice none 0 0, .bool false, .bool false], .bool false])) (put8 (w2.alloc d.obj) w.heap.size ⟨0, 0, 0, 0, 0, none, 0, 0, false, false⟩) := by
  have hO : Only b w w2 := (hL.drewN n).2.2.2.2.1.trans hO2
  have hq : QB (put8 (w2.alloc d.obj) w.heap.size ⟨0, 0, 0, 0, 0, none, 0, 0, false, false⟩) b s i2 o2 := (heap_put8 _ (by omega)).trans (heap_alloc_old hR2 hR2.lt)
  have hO' : Only b w (put8 (w2.alloc d.obj) w.heap.size ⟨0, 0, 0, 0, 0, none, 0, 0, false, false⟩) := (hO.alloc _).put8 (Nat.le_refl _) _
  generalize put8 (w2.alloc d.obj) w.heap.size ⟨0, 0, 0, 0, 0, none, 0, 0, false, false⟩ = X at *
  refine ⟨⟨0, 0, 0, 0, 0, none, 0, 0, false, false⟩, i2, o2, false, rfl, hq, (by intro e; cases e), hO', hi2, ?_⟩
  rw [hR]
  cases r with
  | out => exact hF.elim
  | bad p => exact hF
  | ok t j => exact absurd hF.1 (by simp)

/-- A row's node, handed back. -/
theorem Lm.rowOut {s : ByteArray} {b o ir : Nat} {w wr : World} {ad : Option Addr} {cap : Nat} {xs : List (Nd × P.T)} (hlt : b < w.heap.size) (hL : Lm s b o w wr ir (.slice ad xs.length cap) xs) (hx : xs ≠ []) (hs : s.size ≤ 400) :
    OutD s b o (.ok ⟨sumSz xs, allEm xs⟩ ir) w (.returned (.tuple #[.agg #[.int .i64 1, .int .u64 0, .int .u64 0, .int .u64 0, .int .u64 0, .slice ad xs.length cap, .bool false, .bool false], .bool true])) (put8 wr w.heap.size ⟨1, 0, 0, 0, 0, ad, xs.length, cap, false, false⟩) := by
  have hS : OnlyS (· ≤ w.heap.size) wr (put8 wr w.heap.size ⟨1, 0, 0, 0, 0, ad, xs.length, cap, false, false⟩) := OnlyS.put8 (S := (· ≤ w.heap.size)) (g := w.heap.size) (fun _ _ _ => rfl) (Nat.le_refl w.heap.size) _
  have hq : QB (put8 wr w.heap.size ⟨1, 0, 0, 0, 0, ad, xs.length, cap, false, false⟩) b s ir o := (heap_put8 _ (by omega)).trans hL.1
  have hO' : Only b w (put8 wr w.heap.size ⟨1, 0, 0, 0, 0, ad, xs.length, cap, false, false⟩) := hL.2.2.2.2.1.put8 (Nat.le_refl _) _
  generalize put8 wr w.heap.size ⟨1, 0, 0, 0, 0, ad, xs.length, cap, false, false⟩ = X at *
  obtain ⟨g, c, e, hP, hN⟩ := hL.parts hx hS
  injection e with e1 e2 e3
  subst e1; subst e3
  exact ⟨⟨1, 0, 0, 0, 0, some ⟨g, 0, none⟩, xs.length, cap, false, false⟩, ir, o, true, rfl, hq, fun _ => rfl, hO', hL.2.2.2.2.2.1, rfl, rfl, .row hP (by have := hL.2.2.2.2.2.1; have := hL.2.2.2.2.2.2; omega) hN⟩

set_option maxHeartbeats 1000000 in
theorem prow_any (s : ByteArray) (F : Nat) (hs : s.size ≤ 400) (hA : ∀ f, f < F → PAtomC s f) : PRowC s F := by
  intro b o i w hR hi ho hP
  have hlt := hR.lt
  obtain ⟨R, hRd⟩ : ∃ R, R = P.row s F o i := ⟨_, rfl⟩
  have HRn : Hid (R ≠ .out) := by unfold Hid; rw [hRd]; exact hP
  rw [← hRd]
  have HRd := hid hRd
  have HA := hid hA
  clear hP hRd hA
  go_enter Try.func32, Try.ntmps32
  go_wp2_with fail
  go_loopg [4] F (fun g v wr => ∃ (ir : Nat) (xs : List (Nd × P.T)), Lm s b o w wr ir v xs ∧ g ≤ F ∧ Hid (JR s o R g ir xs))
  case atStart => exact ⟨i, [], Lm.start hR hi, Nat.le_refl _, Or.inl ⟨rfl, F, Nat.le_refl _, HRd.out⟩⟩
  case round =>
    obtain ⟨ir, xs, hL, hgF, hJ⟩ := hrel
    obtain ⟨ad, cap, e5⟩ := powns_shape hL.2.2.1
    subst e5
    have hQ := hL.1
    have hp := pk_range s ir
    go_upto_region 2 with fail
    go_cut [14] (fun c wx => c = .bool (goes s ir xs) ∧ ∃ n, wx = wr.drewN n)
    case first =>
      by_cases hxe : xs.length = 0
      · have h0 : ((xs.length : Int) == 0) = true := by simp [hxe]
        have h0n : (xs.length == 0) = true := by simp [hxe]
        go_wp2_with fail
        go_meet
        exact ⟨by simp [goes, hxe], 0, rfl⟩
      · have h0 : ((xs.length : Int) == 0) = false := beq_false_of_ne (by omega)
        have h0n : (xs.length == 0) = false := beq_false_of_ne hxe
        go_wp2_with fail
        refine (peek_any _ _ _ _ _ hQ).mono ?_
        rintro e w3 ⟨rfl, n3, rfl⟩
        go_wp2_with fail
        refine (begins_any _ _ hp.1 hp.2).mono ?_
        rintro e w3 ⟨rfl, rfl⟩
        go_wp2_with fail
        go_meet
        exact ⟨by simp [goes, h0n], n3, rfl⟩
    case rest =>
      obtain ⟨rfl, n, rfl⟩ := hcut
      have hLd := hL.drewN n
      cases hgo : goes s ir xs with
      | true =>
        obtain ⟨f, hfg, hRf⟩ := hJ.out.next HRn.out hgo
        rw [bind_assoc] at hRf
        have HRf := hid hRf
        have hAo : P.atom s f o ir ≠ .out := by intro e; rw [e] at hRf; exact HRn.out hRf
        have HAo := hid hAo
        clear hRf hAo
        go_wp2_with fail
        refine (HA.out f (by omega) b o ir _ hLd.1 hL.2.2.2.2.2.1 ho HAo.out).mono ?_
        rintro e w2 ⟨d, i2, o2, k2, rfl, hR2, ho2, hO2, hi2, hf2⟩
        have hw1 := hO2.size
        have hN1 : w.heap.size < wr.heap.size := hL.lt
        have hw2 : wr.heap.size ≤ w2.heap.size := hw1
        have hD2 : DB w2 w.heap.size nd0 := (hO2.block _ hN1 (by omega)).trans hL.2.1
        have hB1 : DB (w2.alloc (.cells #[.int .i64 d.k, .int .u64 d.x0, .int .u64 d.x1, .int .u64 d.x2, .int .u64 d.x3, .slice d.pa d.pn d.pc, .bool d.no, .bool d.ag] 38)) w.heap.size nd0 := heap_alloc_old hD2 (by omega)
        have c0 := hB1.c0
        have c1 := hB1.c1
        have c2 := hB1.c2
        have c3 := hB1.c3
        have c4 := hB1.c4
        have c5 := hB1.c5
        have c6 := hB1.c6
        have c7 := hB1.c7
        have cf := hB1.fz
        have HF := hid hf2
        clear hf2
        unfold Nd.val
        cases k2 with
        | false =>
          have hC1 := hB1.put8 ⟨0, 0, 0, 0, 0, none, 0, 0, false, false⟩
          have r0 := hC1.c0
          have r1 := hC1.c1
          have r2 := hC1.c2
          have r3 := hC1.c3
          have r4 := hC1.c4
          have r5 := hC1.c5
          have r6 := hC1.c6
          have r7 := hC1.c7
          go_wp2_with fail
          refine bodyPost_ret (v := .tuple #[.agg #[.int .i64 0, .int .u64 0, .int .u64 0, .int .u64 0, .int .u64 0, .slice none 0 0, .bool false, .bool false], .bool false]) (by simp [results, Try.results32, go_sem, r0, r1, r2, r3, r4, r5, r6, r7]) rfl ?_
          exact Lm.fails hL HRf.out HF.out hlt hR2 hO2 hi2
        | true =>
          obtain ⟨t, hat, hNd⟩ := HF.out.yes
          have he2 := ho2 rfl
          subst he2
          have HR3 : Hid (R = (P.marks s f i2 t).bind fun u j => P.rowOn s (f + 1) o2 j ⟨sumSz xs + u.sz, allEm xs && u.em⟩) := by
            have h := HRf.out
            rw [hat] at h
            exact h
          have HMo : Hid (P.marks s f i2 t ≠ .out) := by
            intro e
            have h := HR3.out
            rw [e] at h
            exact HRn.out h
          have hsz2 := (P.all_sized s f).1 o2 ir t i2 hat
          have HNd := hid hNd
          clear hat hNd HRf HF
          go_wp2_with fail
          refine (pmarks_any (· < wr.heap.size) f b s i2 o2 d t _ hs (heap_alloc_old hR2 hR2.lt) hi2 (by omega) (fun k hk => by simp; omega) (HNd.out.only (fun k hk _ => Below.heap_alloc _ _ _ hk)) HMo.out).mono ?_
          rintro e w4 ⟨d4, t4, i4, rfl, hR4, hO4, hi4, hm4, hN4⟩
          have hsz4 := P.marks_sized s f i2 t t4 i4 hm4
          have HR4 : Hid (R = P.rowOn s (f + 1) o2 i4 ⟨sumSz xs + t4.sz, allEm xs && t4.em⟩) := by
            have h := HR3.out
            rw [hm4] at h
            exact h
          have HN4 := hid hN4
          clear hm4 hN4 HR3 HMo HNd
          have hX : Only b wr w4 := ((((Only.refl b wr).drewN n).trans hO2).alloc _).trans hO4
          have hw4 := hX.size
          have hown4 := powns_only hL.2.2.1 hX (by omega)
          have hlen : xs.length ≤ 400 := by have := hL.2.2.2.2.2.1; have := hL.2.2.2.2.2.2; omega
          obtain ⟨i0, hi0, hz0, hz1, hz2⟩ := info_parts Try.info38
          clear c0 c1 c2 c3 c4 c5 c6 c7 cf hB1
          unfold Nd.val
          go_wp2_with (first
            | (at_builtin; refine wpList_append_own_at _ rfl (.tmp 23) (.tmp 27) 36 rfl (w.heap.size + 1) 38 i0 _ 8 72 Try.underlying36 hi0 hz0 hz1 hz2 rfl (by decide) _ _ _ rfl (hown4.alloc _) ⟨w4.heap.size, 0, none⟩ 1 1 d4.cells rfl rfl ?c1 ?c2 ?c3 ?c4 ?c5 ?_))
          case c1 => exact nd_cells
          case c2 => exact nd_one
          case c3 => unfold maxLen; omega
          case c4 => omega
          case c5 => simp; omega
          · intro v' w6 hown6 hgrow6 hnil hat6
            have hL6 := Lm.append hlt hL hX hR4 HN4.out hi4 (by omega) hown6 hgrow6 hat6
            have HJ6 : Hid (JR s o2 R (f + 1) i4 (xs ++ [(d4, t4)])) := Or.inr ⟨by simp, f + 1, Nat.le_refl _, by rw [sumSz_snoc, allEm_snoc]; exact HR4.out⟩
            clear hown6 hgrow6 hnil hat6 hown4
            go_wp2_with fail
            go_roundg (f + 1)
            case measure => omega
            case rel => exact ⟨i4, _, hL6, by omega, HJ6⟩
      | false =>
        obtain ⟨hx, hRe⟩ := hJ.out.done HRn.out hgo
        have HRe := hid hRe
        clear hRe
        have hB1 : DB (wr.drewN n) w.heap.size nd0 := hLd.2.1
        have c0 := hB1.c0
        have c1 := hB1.c1
        have c2 := hB1.c2
        have c3 := hB1.c3
        have c4 := hB1.c4
        have c5 := hB1.c5
        have c6 := hB1.c6
        have c7 := hB1.c7
        have cf := hB1.fz
        have hC1 := hB1.put8 ⟨1, 0, 0, 0, 0, ad, xs.length, cap, false, false⟩
        have r0 := hC1.c0
        have r1 := hC1.c1
        have r2 := hC1.c2
        have r3 := hC1.c3
        have r4 := hC1.c4
        have r5 := hC1.c5
        have r6 := hC1.c6
        have r7 := hC1.c7
        go_wp2_with fail
        refine bodyPost_ret (v := .tuple #[.agg #[.int .i64 1, .int .u64 0, .int .u64 0, .int .u64 0, .int .u64 0, .slice ad xs.length cap, .bool false, .bool false], .bool true]) (by simp [results, Try.results32, go_sem, r0, r1, r2, r3, r4, r5, r6, r7]) rfl ?_
        rw [HRe.out]
        exact Lm.rowOut hlt hLd hx hs
end Go.Proofs.Ytjhmlcilabnlbaa
