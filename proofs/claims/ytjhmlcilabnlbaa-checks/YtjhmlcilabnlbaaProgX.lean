/- The program: judge. -/
import Derived.Test.YtjhmlcilabnlbaaProgW
namespace Go.Proofs.Ytjhmlcilabnlbaa
open Go.RowKit

set_option maxHeartbeats 1000000 in
theorem pjudge_any (xs : List (P.Rl × Nd)) (k g cap nodes b : Nat) (nm : ByteArray) (p : Int) (d : Nd) (t : P.T) (w : World) (hk : k ≤ xs.length) (hl : xs.length ≤ 400) (hcap : k ≤ cap) (hn : nodes ≤ 1000000) (hr : RlIn w g xs) (hN : PN w (· = b) d t) :
    Calls Try.prog 8 #[.slice (some ⟨g, 0, none⟩) k cap, .agg #[.string nm, .int .i64 p, .int .i64 d.k, .int .u64 d.x0, .int .u64 d.x1, .int .u64 d.x2, .int .u64 d.x3, .slice d.pa d.pn d.pc, .bool d.no, .bool d.ag], .int .i64 (nodes : Int)] w fun e w' => e = .returned (.int .i64 (verd k nodes (named (xs.take k) nm) t.em)) ∧ Below w.heap.size w w' := by
  have hmf : ∀ (fn : Fn) (first cp : Array Value) (w : World), (Instr.makeFunc fn first cp).run Try.prog w = .ok (.func fn first cp) w := fun _ _ _ _ => rfl
  have hK : KB (w.alloc (.cells #[.string nm, .int .i64 p, .int .i64 d.k, .int .u64 d.x0, .int .u64 d.x1, .int .u64 d.x2, .int .u64 d.x3, .slice d.pa d.pn d.pc, .bool d.no, .bool d.ag] 40)) w.heap.size nm p d := heap_alloc_at _ _
  have hgl := hr.lt
  have hB0 : Below w.heap.size w (w.alloc (.cells #[.string nm, .int .i64 p, .int .i64 d.k, .int .u64 d.x0, .int .u64 d.x1, .int .u64 d.x2, .int .u64 d.x3, .slice d.pa d.pn d.pc, .bool d.no, .bool d.ag] 40)) := (Below.refl _ _).alloc (Nat.le_refl _) _
  have hrX : RlIn (w.alloc (.cells #[.string nm, .int .i64 p, .int .i64 d.k, .int .u64 d.x0, .int .u64 d.x1, .int .u64 d.x2, .int .u64 d.x3, .slice d.pa d.pn d.pc, .bool d.no, .bool d.ag] 40)) g xs := hr.below hB0 hgl
  have HN := hid hN
  clear hN
  by_cases hm : 8 ≤ k ∨ 60 < nodes
  · have HV : Hid (verd k nodes (named (xs.take k) nm) t.em = 2) := by unfold Hid verd; rw [if_pos hm]
    by_cases h8 : 8 ≤ k
    · have h8' : (8 : Int) ≤ (k : Int) := by omega
      clear hm
      go_enter Try.func8, Try.ntmps8
      go_wp2_with fail
      go_ret
      exact ⟨ret_int HV.out.symm, hB0⟩
    · have h8' : decide ((8 : Int) ≤ (k : Int)) = false := by simp; omega
      have h60 : (60 : Int) < (nodes : Int) := by omega
      clear hm
      go_enter Try.func8, Try.ntmps8
      go_wp2_with fail
      go_ret
      exact ⟨ret_int HV.out.symm, hB0⟩
  · have h8' : decide ((8 : Int) ≤ (k : Int)) = false := by simp; omega
    have h60' : decide ((60 : Int) < (nodes : Int)) = false := by simp; omega
    have HV : Hid (verd k nodes (named (xs.take k) nm) t.em = if named (xs.take k) nm then 3 else if t.em then 4 else 0) := by unfold Hid verd; rw [if_neg hm]
    clear hm
    have c0 := hK.c0
    go_enter Try.func8, Try.ntmps8
    go_wp2_with fail
    refine (contains_any xs k g cap w.heap.size nm _ hk hl hcap hrX c0 (by simp)).mono ?_
    rintro e w3 ⟨rfl, hB3⟩
    have hB4 : Below w.heap.size w w3 := hB0.trans (hB3.mono (by simp))
    have hK3 : KB w3 w.heap.size nm p d := (hB3.block _ (by simp)).trans hK
    cases hnm : named (xs.take k) nm with
    | true =>
      have HV2 : Hid (verd k nodes (named (xs.take k) nm) t.em = 3) := by have h := HV.out; rw [if_pos hnm] at h; exact h
      go_wp2_with fail
      go_ret
      exact ⟨ret_int HV2.out.symm, hB4⟩
    | false =>
      have HV2 : Hid (verd k nodes (named (xs.take k) nm) t.em = if t.em then 4 else 0) := by have h := HV.out; rw [if_neg (by rw [hnm]; exact Bool.false_ne_true)] at h; exact h
      clear c0
      have e2 := hK3.c2
      have e3 := hK3.c3
      have e4 := hK3.c4
      have e5 := hK3.c5
      have e6 := hK3.c6
      have e7 := hK3.c7
      have e8 := hK3.c8
      have e9 := hK3.c9
      go_wp2_with fail
      refine (pempty_any w b HN.out w3 (Only.ofBelow hB4)).mono ?_
      rintro e w5 ⟨rfl, hB5⟩
      have hB6 : Below w.heap.size w w5 := hB4.trans (hB5.mono hB4.size)
      cases hem : t.em with
      | true =>
        have HV3 : Hid (verd k nodes (named (xs.take k) nm) t.em = 4) := by have h := HV2.out; rw [if_pos hem] at h; exact h
        go_wp2_with fail
        go_ret
        exact ⟨ret_int HV3.out.symm, hB6⟩
      | false =>
        have HV3 : Hid (verd k nodes (named (xs.take k) nm) t.em = 0) := by have h := HV2.out; rw [if_neg (by rw [hem]; exact Bool.false_ne_true)] at h; exact h
        go_wp2_with fail
        go_ret
        exact ⟨ret_int HV3.out.symm, hB6⟩
end Go.Proofs.Ytjhmlcilabnlbaa
