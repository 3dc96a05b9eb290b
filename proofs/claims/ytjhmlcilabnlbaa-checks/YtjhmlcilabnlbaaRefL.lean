/- Contracts of the document's answer: empty. -/
import Derived.Test.YtjhmlcilabnlbaaRefF
namespace Go.Proofs.Ytjhmlcilabnlbaa
open Go.RowKit

theorem RN.drewN {w : World} {b n : Nat} {em : Bool} (h : RN w b n em) (k : Nat) : RN (w.drewN k) b n em := h.only ((Only.refl _ _).drewN _)
theorem RN.undrewN {w : World} {b n : Nat} {em : Bool} {k : Nat} (h : RN (w.drewN k) b n em) : RN w b n em := h.only ⟨rfl, rfl, rfl, Nat.le_refl _, fun _ _ _ => rfl⟩

set_option maxHeartbeats 1000000 in
theorem empty_any (w0 : World) (b n : Nat) (em : Bool) (h : RN w0 b n em) : ∀ j : Nat,
    Calls Try.prog 10 #[.pointer (some ⟨n, 0, none⟩)] (w0.drewN j) fun e w' => e = .returned (.bool em) ∧ ∃ k, w' = w0.drewN k := by
  induction h with
  | leaf hb h =>
    intro j
    have c0 := h.c0
    go_enter Try.func10, Try.ntmps10
    go_wp2_with fail
    go_ret
    exact ⟨rfl, _, rfl⟩
  | @opt n op has A B ho hb h =>
    intro j
    have c0 := h.c0
    rcases ho with rfl | rfl
    · go_enter Try.func10, Try.ntmps10
      go_wp2_with fail
      go_ret
      exact ⟨rfl, _, rfl⟩
    · go_enter Try.func10, Try.ntmps10
      go_wp2_with fail
      go_ret
      exact ⟨rfl, _, rfl⟩
  | plus hb h hm ih =>
    intro j
    have c0 := h.c0
    have c2 := h.c2
    have IH := hid ih
    clear ih
    go_enter Try.func10, Try.ntmps10
    go_wp2_with fail
    refine (IH.out _).mono ?_
    rintro e w' ⟨rfl, k, rfl⟩
    go_wp2_with fail
    go_ret
    exact ⟨rfl, _, rfl⟩
  | @row n m k has em fm hb h hm hk i1 i2 =>
    intro j
    have c0 := h.c0
    have c2 := h.c2
    have c3 := h.c3
    have I1 := hid i1
    have I2 := hid i2
    clear i1 i2
    go_enter Try.func10, Try.ntmps10
    go_wp2_with fail
    refine (I1.out _).mono ?_
    rintro e w' ⟨rfl, k1, rfl⟩
    go_wp2_with fail
    refine (I2.out _).mono ?_
    rintro e w' ⟨rfl, k2, rfl⟩
    cases em <;> cases fm <;> (go_wp2_with fail; go_ret; exact ⟨rfl, _, rfl⟩)
  | @alt n m k has em fm hb h hm hk i1 i2 =>
    intro j
    have c0 := h.c0
    have c2 := h.c2
    have c3 := h.c3
    have I1 := hid i1
    have I2 := hid i2
    clear i1 i2
    go_enter Try.func10, Try.ntmps10
    go_wp2_with fail
    refine (I1.out _).mono ?_
    rintro e w' ⟨rfl, k1, rfl⟩
    go_wp2_with fail
    refine (I2.out _).mono ?_
    rintro e w' ⟨rfl, k2, rfl⟩
    cases em <;> cases fm <;> (go_wp2_with fail; go_ret; exact ⟨rfl, _, rfl⟩)

end Go.Proofs.Ytjhmlcilabnlbaa
