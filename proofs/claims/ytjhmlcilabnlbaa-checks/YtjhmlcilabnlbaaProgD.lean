/- The program: span. -/
import Derived.Test.YtjhmlcilabnlbaaProgC
import Derived.Test.YtjhmlcilabnlbaaRefD
namespace Go.Proofs.Ytjhmlcilabnlbaa
open Go.RowKit

/-- Four words that tell which bytes are in a set. -/
def W4 (a0 a1 a2 a3 : Int) (acc : Nat → Bool) : Prop :=
  Wd a0 (fun j => acc j) ∧ Wd a1 (fun j => acc (64 + j)) ∧ Wd a2 (fun j => acc (128 + j)) ∧ Wd a3 (fun j => acc (192 + j))
theorem Wd.congr {a : Int} {p q : Nat → Bool} (h : Wd a p) (e : ∀ j, j < 64 → p j = q j) : Wd a q := by
  obtain ⟨n, hn, hl, hp⟩ := h
  exact ⟨n, hn, hl, fun j hj => (hp j hj).trans (e j hj)⟩
def rg (lo hi : Int) : Nat → Bool := fun x => decide (lo ≤ (x : Int)) && decide ((x : Int) ≤ hi)
theorem W4.none {lo : Int} : W4 0 0 0 0 (rg lo (lo - 1)) := by
  have h : ∀ x, false = rg lo (lo - 1) x := by
    intro x; unfold rg
    by_cases h : lo ≤ (x : Int)
    · have : ¬ (x : Int) ≤ lo - 1 := by omega
      simp [this]
    · simp [h]
  exact ⟨Wd.zero.congr fun j _ => h _, Wd.zero.congr fun j _ => h _, Wd.zero.congr fun j _ => h _, Wd.zero.congr fun j _ => h _⟩
theorem Wd.bit {m : Nat} (h : m < 64) : Wd (IntKind.u64.wrap (2 ^ m)) (fun j => decide (j = m)) := by
  have hp : 2 ^ m < 2 ^ 64 := Nat.pow_lt_pow_right (by decide) h
  refine ⟨2 ^ m, ?_, hp, ?_⟩
  · have := wrapN64 (2 ^ m) hp
    rw [← this]; simp
  · intro j _
    rw [Nat.testBit_two_pow]
    by_cases e : m = j
    · simp [e]
    · have : ¬ j = m := fun h => e h.symm
      simp [e, this]
theorem rg_same {lo k : Int} {x : Nat} (hx : (x : Int) ≠ k) : rg lo (k - 1) x = rg lo (k + 1 - 1) x := by
  unfold rg; congr 1; rw [decide_eq_decide]; omega
theorem rg_bit {lo k : Int} (hk : lo ≤ k) (base : Nat) (hb : (base : Int) = 64 * (k / 64)) (j : Nat) : (rg lo (k - 1) (base + j) || decide (j = (k % 64).toNat)) = rg lo (k + 1 - 1) (base + j) := by
  by_cases h : j = (k % 64).toNat
  · have : ((base + j : Nat) : Int) = k := by omega
    simp only [h, decide_true, Bool.or_true]
    unfold rg
    rw [h] at this
    simp; omega
  · rw [decide_eq_false h, Bool.or_false]
    exact rg_same (by omega)

def SB (w : World) (g : Nat) (a0 a1 a2 a3 : Int) : Prop := w.heap[g]? = some (.cells #[.int .u64 a0, .int .u64 a1, .int .u64 a2, .int .u64 a3] 35 (0, 0))
theorem SB.c0 {w : World} {g : Nat} {a0 a1 a2 a3 : Int} (h : SB w g a0 a1 a2 a3) : w.cell? ⟨g, 0, none⟩ = some (.int .u64 a0) := by simp [World.cell?, show w.heap[g]? = _ from h]
theorem SB.s0 {w : World} {g : Nat} {a0 a1 a2 a3 : Int} (h : SB w g a0 a1 a2 a3) (x : Int) : SB (w.setCell ⟨g, 0, none⟩ (.int .u64 x)) g x a1 a2 a3 := heap_setCell_same (a := ⟨g, 0, none⟩) h rfl _
theorem SB.c1 {w : World} {g : Nat} {a0 a1 a2 a3 : Int} (h : SB w g a0 a1 a2 a3) : w.cell? ⟨g, 1, none⟩ = some (.int .u64 a1) := by simp [World.cell?, show w.heap[g]? = _ from h]
theorem SB.s1 {w : World} {g : Nat} {a0 a1 a2 a3 : Int} (h : SB w g a0 a1 a2 a3) (x : Int) : SB (w.setCell ⟨g, 1, none⟩ (.int .u64 x)) g a0 x a2 a3 := heap_setCell_same (a := ⟨g, 1, none⟩) h rfl _
theorem SB.c2 {w : World} {g : Nat} {a0 a1 a2 a3 : Int} (h : SB w g a0 a1 a2 a3) : w.cell? ⟨g, 2, none⟩ = some (.int .u64 a2) := by simp [World.cell?, show w.heap[g]? = _ from h]
theorem SB.s2 {w : World} {g : Nat} {a0 a1 a2 a3 : Int} (h : SB w g a0 a1 a2 a3) (x : Int) : SB (w.setCell ⟨g, 2, none⟩ (.int .u64 x)) g a0 a1 x a3 := heap_setCell_same (a := ⟨g, 2, none⟩) h rfl _
theorem SB.c3 {w : World} {g : Nat} {a0 a1 a2 a3 : Int} (h : SB w g a0 a1 a2 a3) : w.cell? ⟨g, 3, none⟩ = some (.int .u64 a3) := by simp [World.cell?, show w.heap[g]? = _ from h]
theorem SB.s3 {w : World} {g : Nat} {a0 a1 a2 a3 : Int} (h : SB w g a0 a1 a2 a3) (x : Int) : SB (w.setCell ⟨g, 3, none⟩ (.int .u64 x)) g a0 a1 a2 x := heap_setCell_same (a := ⟨g, 3, none⟩) h rfl _
theorem SB.fz {w : World} {g : Nat} {a0 a1 a2 a3 : Int} (h : SB w g a0 a1 a2 a3) (k : Nat) : w.frozen? ⟨g, k, none⟩ = false := by
  simp [World.frozen?, show w.heap[g]? = _ from h]
theorem SB.other {w : World} {g : Nat} {a0 a1 a2 a3 : Int} (h : SB w g a0 a1 a2 a3) {p : Addr} (hp : g ≠ p.block) (u : Value) : SB (w.setCell p u) g a0 a1 a2 a3 :=
  (Below.heap_setCell _ _ _ _ hp).trans h

set_option maxHeartbeats 4000000 in
theorem span_any (lo hi : Int) (w : World) (h0 : 0 ≤ lo) (h1 : lo ≤ hi) (h3 : hi ≤ 255) :
    Calls Try.prog 46 #[.int .u8 lo, .int .u8 hi] w fun e w' => ∃ a0 a1 a2 a3 : Int, e = .returned (.agg #[.int .u64 a0, .int .u64 a1, .int .u64 a2, .int .u64 a3]) ∧ W4 a0 a1 a2 a3 (rg lo hi) ∧ Below w.heap.size w w' := by
  go_enter Try.func46, Try.ntmps46
  go_wp2
  go_loopg [6] (hi + 1 - lo).toNat (fun g x wr => ∃ k : Int, x = .int .i64 k ∧ lo ≤ k ∧ k ≤ hi + 1 ∧ (hi + 1 - k).toNat ≤ g ∧ SB wr w.heap.size 0 0 0 0 ∧ Below w.heap.size w wr ∧ ∃ a0 a1 a2 a3 : Int, SB wr (w.heap.size + 1) a0 a1 a2 a3 ∧ Hid (W4 a0 a1 a2 a3 (rg lo (k - 1))))
  case atStart =>
    refine ⟨lo, rfl, by omega, by omega, by omega, ?_, ((Below.refl _ _).alloc (Nat.le_refl _) _).alloc (by simp) _, 0, 0, 0, 0, ?_, W4.none⟩
    · exact heap_alloc_old (heap_alloc_at _ _) (by simp)
    · have := heap_alloc_at (w.alloc (.cells #[.int .u64 0, .int .u64 0, .int .u64 0, .int .u64 0] 35)) (.cells #[.int .u64 0, .int .u64 0, .int .u64 0, .int .u64 0] 35)
      rw [show (w.alloc (.cells #[.int .u64 0, .int .u64 0, .int .u64 0, .int .u64 0] 35)).heap.size = w.heap.size + 1 from by simp] at this
      exact this
  case round =>
    obtain ⟨k, rfl, hk1, hk2, hkg, hS, hBl, a0, a1, a2, a3, hA, hW⟩ := hrel
    have c0 := hA.c0
    have c1 := hA.c1
    have c2 := hA.c2
    have c3 := hA.c3
    have fz := hA.fz
    by_cases hl : k ≤ hi
    · have hm : (k % 64).toNat < 64 := by omega
      have HB := hid (Wd.bit hm)
      rcases (show k / 64 = 0 ∨ k / 64 = 1 ∨ k / 64 = 2 ∨ k / 64 = 3 from by omega) with hc | hc | hc | hc
      · have hq : k.tdiv 64 = 0 := by rw [Int.tdiv_eq_ediv_of_nonneg (by omega)]; exact hc
        have HW : Hid (W4 (orW a0 (IntKind.u64.wrap (2 ^ (k % 64).toNat))) a1 a2 a3 (rg lo (k + 1 - 1))) := ⟨((hW.out.1.or HB.out).congr fun j _ => by have := rg_bit hk1 0 (by omega) j; rwa [Nat.zero_add] at this), (hW.out.2.1.congr fun j hj => rg_same (by omega)), (hW.out.2.2.1.congr fun j hj => rg_same (by omega)), (hW.out.2.2.2.congr fun j hj => rg_same (by omega))⟩
        go_wp2
        go_region
        go_wp2
        go_roundg (gk - 1)
        case measure => omega
        case rel => exact ⟨k + 1, rfl, by omega, by omega, by omega, hS.other (by simp) _, (hBl.setCell (by simp) _).drew, _, _, _, _, hA.s0 _, HW⟩
      · have hq : k.tdiv 64 = 1 := by rw [Int.tdiv_eq_ediv_of_nonneg (by omega)]; exact hc
        have HW : Hid (W4 a0 (orW a1 (IntKind.u64.wrap (2 ^ (k % 64).toNat))) a2 a3 (rg lo (k + 1 - 1))) := ⟨(hW.out.1.congr fun j hj => rg_same (by omega)), ((hW.out.2.1.or HB.out).congr fun j _ => rg_bit hk1 64 (by omega) j), (hW.out.2.2.1.congr fun j hj => rg_same (by omega)), (hW.out.2.2.2.congr fun j hj => rg_same (by omega))⟩
        go_wp2
        go_region
        go_wp2
        go_roundg (gk - 1)
        case measure => omega
        case rel => exact ⟨k + 1, rfl, by omega, by omega, by omega, hS.other (by simp) _, (hBl.setCell (by simp) _).drew, _, _, _, _, hA.s1 _, HW⟩
      · have hq : k.tdiv 64 = 2 := by rw [Int.tdiv_eq_ediv_of_nonneg (by omega)]; exact hc
        have HW : Hid (W4 a0 a1 (orW a2 (IntKind.u64.wrap (2 ^ (k % 64).toNat))) a3 (rg lo (k + 1 - 1))) := ⟨(hW.out.1.congr fun j hj => rg_same (by omega)), (hW.out.2.1.congr fun j hj => rg_same (by omega)), ((hW.out.2.2.1.or HB.out).congr fun j _ => rg_bit hk1 128 (by omega) j), (hW.out.2.2.2.congr fun j hj => rg_same (by omega))⟩
        go_wp2
        go_region
        go_wp2
        go_roundg (gk - 1)
        case measure => omega
        case rel => exact ⟨k + 1, rfl, by omega, by omega, by omega, hS.other (by simp) _, (hBl.setCell (by simp) _).drew, _, _, _, _, hA.s2 _, HW⟩
      · have hq : k.tdiv 64 = 3 := by rw [Int.tdiv_eq_ediv_of_nonneg (by omega)]; exact hc
        have HW : Hid (W4 a0 a1 a2 (orW a3 (IntKind.u64.wrap (2 ^ (k % 64).toNat))) (rg lo (k + 1 - 1))) := ⟨(hW.out.1.congr fun j hj => rg_same (by omega)), (hW.out.2.1.congr fun j hj => rg_same (by omega)), (hW.out.2.2.1.congr fun j hj => rg_same (by omega)), ((hW.out.2.2.2.or HB.out).congr fun j _ => rg_bit hk1 192 (by omega) j)⟩
        go_wp2
        go_region
        go_wp2
        go_roundg (gk - 1)
        case measure => omega
        case rel => exact ⟨k + 1, rfl, by omega, by omega, by omega, hS.other (by simp) _, (hBl.setCell (by simp) _).drew, _, _, _, _, hA.s3 _, HW⟩
    · have hke : k = hi + 1 := by omega
      have HW : Hid (W4 a0 a1 a2 a3 (rg lo hi)) := by
        have h := hW.out
        rw [hke, show hi + 1 - 1 = hi from by omega] at h
        exact h
      clear hke
      have s0 := hS.c0
      have s1 := hS.c1
      have s2 := hS.c2
      have s3 := hS.c3
      have sf := hS.fz
      have hlt : w.heap.size < wr.heap.size := by
        by_cases h : w.heap.size < wr.heap.size
        · exact h
        · have h' := hS; unfold SB at h'; simp [h] at h'
      go_wp2
      have hF := (((hS.s0 a0).s1 a1).s2 a2).s3 a3
      have r0 := hF.c0
      have r1 := hF.c1
      have r2 := hF.c2
      have r3 := hF.c3
      exact bodyPost_ret (v := .agg #[.int .u64 a0, .int .u64 a1, .int .u64 a2, .int .u64 a3]) (by simp [results, Try.results46, go_sem, r0, r1, r2, r3]) rfl ⟨a0, a1, a2, a3, rfl, HW.out, (((hBl.setCell (by simp) _).setCell (by simp) _).setCell (by simp) _).setCell (by simp) _⟩
end Go.Proofs.Ytjhmlcilabnlbaa
