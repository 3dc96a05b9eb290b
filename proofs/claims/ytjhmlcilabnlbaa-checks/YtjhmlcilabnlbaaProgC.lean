/- The program: sets of bytes. -/
import Derived.Test.YtjhmlcilabnlbaaProgB
import Derived.Laws.Bits64
namespace Go.Proofs.Ytjhmlcilabnlbaa
open Go.RowKit

/-- A set as a value: four words. -/
def setV (a0 a1 a2 a3 : Int) : Value := .agg #[.int .u64 a0, .int .u64 a1, .int .u64 a2, .int .u64 a3]
def flipW (a : Int) : Int := bits BinOp.xor IntKind.u64 IntKind.u64.max a
def orW (a b : Int) : Int := bits BinOp.or IntKind.u64 a b

theorem Try.idx0 (w : World) (a0 a1 a2 a3 : Int) : (Instr.index 35 (.agg #[.int .u64 a0, .int .u64 a1, .int .u64 a2, .int .u64 a3]) (.int .i64 0)).run Try.prog w = .ok (.int .u64 a0) w := by kernel_rfl
theorem Try.idx1 (w : World) (a0 a1 a2 a3 : Int) : (Instr.index 35 (.agg #[.int .u64 a0, .int .u64 a1, .int .u64 a2, .int .u64 a3]) (.int .i64 1)).run Try.prog w = .ok (.int .u64 a1) w := by kernel_rfl
theorem Try.idx2 (w : World) (a0 a1 a2 a3 : Int) : (Instr.index 35 (.agg #[.int .u64 a0, .int .u64 a1, .int .u64 a2, .int .u64 a3]) (.int .i64 2)).run Try.prog w = .ok (.int .u64 a2) w := by kernel_rfl
theorem Try.idx3 (w : World) (a0 a1 a2 a3 : Int) : (Instr.index 35 (.agg #[.int .u64 a0, .int .u64 a1, .int .u64 a2, .int .u64 a3]) (.int .i64 3)).run Try.prog w = .ok (.int .u64 a3) w := by kernel_rfl

set_option maxHeartbeats 1600000 in
theorem rest_any (a0 a1 a2 a3 : Int) (w : World)  :
    Calls Try.prog 47 #[.agg #[.int .u64 a0, .int .u64 a1, .int .u64 a2, .int .u64 a3]] w fun e w' => e = .returned (.agg #[.int .u64 (flipW a0), .int .u64 (flipW a1), .int .u64 (flipW a2), .int .u64 (flipW a3)]) ∧ Below w.heap.size w w' := by
  have i0 := Try.idx0
  have i1 := Try.idx1
  have i2 := Try.idx2
  have i3 := Try.idx3
  go_enter Try.func47, Try.ntmps47
  go_wp2
  refine wp_loop_rounds 5 ?_
  rw [rounds_succ]
  go_wp2
  rw [rounds_succ]
  go_wp2
  rw [rounds_succ]
  go_wp2
  rw [rounds_succ]
  go_wp2
  rw [rounds_succ]
  go_wp2
  exact bodyPost_ret (v := .agg #[.int .u64 (flipW a0), .int .u64 (flipW a1), .int .u64 (flipW a2), .int .u64 (flipW a3)]) (by simp [results, Try.results47, go_sem, flipW]) rfl ⟨rfl, ((Below.refl _ _).alloc (Nat.le_refl _) _).alloc (by simp) _⟩

set_option maxHeartbeats 1600000 in
theorem with_any (a0 a1 a2 a3 b0 b1 b2 b3 : Int) (w : World)  :
    Calls Try.prog 51 #[.agg #[.int .u64 a0, .int .u64 a1, .int .u64 a2, .int .u64 a3], .agg #[.int .u64 b0, .int .u64 b1, .int .u64 b2, .int .u64 b3]] w fun e w' => e = .returned (.agg #[.int .u64 (orW a0 b0), .int .u64 (orW a1 b1), .int .u64 (orW a2 b2), .int .u64 (orW a3 b3)]) ∧ Below w.heap.size w w' := by
  have i0 := Try.idx0
  have i1 := Try.idx1
  have i2 := Try.idx2
  have i3 := Try.idx3
  go_enter Try.func51, Try.ntmps51
  go_wp2
  refine wp_loop_rounds 5 ?_
  rw [rounds_succ]
  go_wp2
  rw [rounds_succ]
  go_wp2
  rw [rounds_succ]
  go_wp2
  rw [rounds_succ]
  go_wp2
  rw [rounds_succ]
  go_wp2
  exact bodyPost_ret (v := .agg #[.int .u64 (orW a0 b0), .int .u64 (orW a1 b1), .int .u64 (orW a2 b2), .int .u64 (orW a3 b3)]) (by simp [results, Try.results51, go_sem, orW]) rfl ⟨rfl, (((Below.refl _ _).alloc (Nat.le_refl _) _).alloc (by simp) _).alloc (by simp; omega) _⟩

/-- A word of 64 bits that tells which of 64 places are in a set. -/
def Wd (a : Int) (p : Nat → Bool) : Prop := ∃ n : Nat, a = (n : Int) ∧ n < 2 ^ 64 ∧ ∀ j, j < 64 → n.testBit j = p j
theorem wrapN64 (n : Nat) (h : n < 2 ^ 64) : IntKind.u64.wrap (n : Int) = (n : Int) := by rw [IntKind.wrap_u64]; omega
theorem Wd.zero : Wd 0 (fun _ => false) := ⟨0, rfl, by omega, fun j _ => Nat.zero_testBit j⟩
theorem Wd.or {a b : Int} {p q : Nat → Bool} (ha : Wd a p) (hb : Wd b q) : Wd (orW a b) (fun j => p j || q j) := by
  obtain ⟨n, rfl, hn, hp⟩ := ha
  obtain ⟨m, rfl, hm, hq⟩ := hb
  have h := (bits_nat .u64 64 (by decide) (fun n h0 h1 => by rw [IntKind.wrap_u64]; omega) n m hn hm).2
  exact ⟨n ||| m, h, Nat.or_lt_two_pow hn hm, fun j hj => by rw [Nat.testBit_or, hp j hj, hq j hj]⟩
theorem Wd.flip {a : Int} {p : Nat → Bool} (ha : Wd a p) : Wd (flipW a) (fun j => !p j) := by
  obtain ⟨n, rfl, hn, hp⟩ := ha
  have hx : (2 ^ 64 - 1) ^^^ n < 2 ^ 64 := Nat.xor_lt_two_pow (by omega) hn
  refine ⟨(2 ^ 64 - 1) ^^^ n, ?_, hx, ?_⟩
  · have hm : IntKind.u64.max = ((2 ^ 64 - 1 : Nat) : Int) := by decide
    have h1 : (2 ^ 64 - 1) % 2 ^ IntKind.u64.bits = 2 ^ 64 - 1 := Nat.mod_eq_of_lt (by show 2 ^ 64 - 1 < 2 ^ 64; omega)
    have h2 : n % 2 ^ IntKind.u64.bits = n := Nat.mod_eq_of_lt hn
    unfold flipW
    rw [hm]
    simp only [bits, BitVec.ofInt_natCast, BitVec.toNat_xor, BitVec.toNat_ofNat, h1, h2]
    exact wrapN64 _ hx
  · intro j hj
    rw [Nat.testBit_xor, Nat.testBit_two_pow_sub_one, hp j hj]
    simp [hj]
theorem Wd.none {a : Int} {p : Nat → Bool} (ha : Wd a p) : (a = 0) ↔ ∀ j, j < 64 → p j = false := by
  obtain ⟨n, rfl, hn, hp⟩ := ha
  constructor
  · intro h j hj
    have : n = 0 := by omega
    rw [← hp j hj, this]; exact Nat.zero_testBit j
  · intro h
    have : n = 0 := by
      apply Nat.eq_of_testBit_eq
      intro j
      by_cases hj : j < 64
      · rw [hp j hj, h j hj, Nat.zero_testBit]
      · rw [Nat.zero_testBit, Nat.testBit_lt_two_pow (Nat.lt_of_lt_of_le hn (Nat.pow_le_pow_right (by decide) (by omega)))]
    omega

end Go.Proofs.Ytjhmlcilabnlbaa
