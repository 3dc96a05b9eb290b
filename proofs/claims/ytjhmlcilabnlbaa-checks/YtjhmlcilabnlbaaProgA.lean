/- The program: its reader in memory; the small functions. -/
import Derived.Test.YtjhmlcilabnlbaaBase
import Derived.Laws.StandIn
namespace Go.Proofs.Ytjhmlcilabnlbaa
open Go.RowKit

/-- The program's reader. -/
def QB (w : World) (b : Nat) (s : ByteArray) (i o : Nat) : Prop :=
  w.heap[b]? = some (.cells #[.string s, .int .i64 (i : Int), .int .i64 (o : Int)] 50 (0, 0))

theorem QB.lt {w : World} {b : Nat} {s : ByteArray} {i o : Nat} (h : QB w b s i o) : b < w.heap.size := by
  unfold QB at h
  by_cases hb : b < w.heap.size
  · exact hb
  · simp [hb] at h
theorem QB.drewN {w : World} {b : Nat} {s : ByteArray} {i o : Nat} (h : QB w b s i o) (n : Nat) : QB (w.drewN n) b s i o := h
theorem QB.c0 {w : World} {b : Nat} {s : ByteArray} {i o : Nat} (h : QB w b s i o) : w.cell? ⟨b, 0, none⟩ = some (.string s) := by simp [World.cell?, show w.heap[b]? = _ from h]
theorem QB.c1 {w : World} {b : Nat} {s : ByteArray} {i o : Nat} (h : QB w b s i o) : w.cell? ⟨b, 1, none⟩ = some (.int .i64 (i : Int)) := by simp [World.cell?, show w.heap[b]? = _ from h]
theorem QB.c2 {w : World} {b : Nat} {s : ByteArray} {i o : Nat} (h : QB w b s i o) : w.cell? ⟨b, 2, none⟩ = some (.int .i64 (o : Int)) := by simp [World.cell?, show w.heap[b]? = _ from h]
theorem QB.fz {w : World} {b : Nat} {s : ByteArray} {i o : Nat} (h : QB w b s i o) (k : Nat) : w.frozen? ⟨b, k, none⟩ = false := by
  simp [World.frozen?, show w.heap[b]? = _ from h]
theorem QB.set1 {w : World} {b : Nat} {s : ByteArray} {i o : Nat} (h : QB w b s i o) {j : Nat} {x : Int} (hx : x = (j : Int)) : QB (w.setCell ⟨b, 1, none⟩ (.int .i64 x)) b s j o := by
  subst hx; exact heap_setCell_same (a := ⟨b, 1, none⟩) h rfl _
theorem QB.set2 {w : World} {b : Nat} {s : ByteArray} {i o : Nat} (h : QB w b s i o) {j : Nat} {x : Int} (hx : x = (j : Int)) : QB (w.setCell ⟨b, 2, none⟩ (.int .i64 x)) b s i j := by
  subst hx; exact heap_setCell_same (a := ⟨b, 2, none⟩) h rfl _
theorem QB.only {w w' : World} {b c : Nat} {s : ByteArray} {i o : Nat} (h : QB w b s i o) (hk : Only c w w') (hn : b ≠ c) : QB w' b s i o :=
  (hk.block b h.lt hn).trans h

/-- The byte ahead as the program has it: 0 behind the end. -/
def pk (s : ByteArray) (i : Nat) : Int := if P.bt s i < 0 then 0 else P.bt s i
theorem pk_range (s : ByteArray) (i : Nat) : 0 ≤ pk s i ∧ pk s i ≤ 255 := by
  have := bt_range s i
  unfold pk; split <;> omega
theorem pk_eq {s : ByteArray} {i : Nat} {c : Int} (hc : 0 < c) : (pk s i == c) = (P.bt s i == c) := by
  unfold pk
  split
  · rw [Bool.eq_iff_iff, beq_iff_eq, beq_iff_eq]; omega
  · rfl

def idx (s : ByteArray) (c : Int) : Int := firstIdx s c.toNat.toUInt8

theorem Try.run53 (s : ByteArray) (c : Int) (w : World) : (callFunc 53 #[.string s, .int .u8 c]).run Try.prog w = .ok (.value (.int .i64 (idx s c))) w := by
  rw [run_callFunc_indexByte Try.func53 (by kernel_rfl) (by kernel_rfl) (by kernel_rfl) (by kernel_rfl), run_indexByte_string]
  rfl

set_option maxHeartbeats 400000 in
theorem index_any (s : ByteArray) (c : Int) (w : World) :
    Calls Try.prog 42 #[.string s, .int .u8 c] w fun e w' => e = .returned (.int .i64 (idx s c)) ∧ w' = w := by
  have h53 := Try.run53
  go_enter Try.func42, Try.ntmps42
  go_wp2
  go_ret
  exact ⟨rfl, rfl⟩

def plainS (sp : ByteArray) (c : Int) : Bool := decide (33 ≤ c) && decide (c ≤ 126) && decide (idx sp c < 0)

set_option maxHeartbeats 400000 in
theorem isPlain_any (sp : ByteArray) (c : Int) (w : World) :
    Calls Try.prog 43 #[.int .u8 c, .string sp] w fun e w' => e = .returned (.bool (plainS sp c)) ∧ w' = w := by
  by_cases h1 : 33 ≤ c
  · by_cases h2 : c ≤ 126
    · go_enter Try.func43, Try.ntmps43
      go_wp2_with (go_at_call 42; refine (index_any _ _ _).mono ?_; rintro e w' ⟨rfl, rfl⟩)
      go_ret
      exact ⟨ret_bool (by unfold plainS; simp [h1, h2]), rfl⟩
    · have h2' : decide (c ≤ 126) = false := by simpa using h2
      go_enter Try.func43, Try.ntmps43
      go_wp2_with (go_at_call 42; refine (index_any _ _ _).mono ?_; rintro e w' ⟨rfl, rfl⟩)
      go_ret
      exact ⟨ret_bool (by unfold plainS; rw [h2']; simp), rfl⟩
  · have h1' : decide (33 ≤ c) = false := by simpa using h1
    go_enter Try.func43, Try.ntmps43
    go_wp2_with (go_at_call 42; refine (index_any _ _ _).mono ?_; rintro e w' ⟨rfl, rfl⟩)
    go_ret
    exact ⟨ret_bool (by unfold plainS; rw [h1']; simp), rfl⟩

def letter (c : Int) : Bool := decide (97 ≤ c) && decide (c ≤ 122)
set_option maxHeartbeats 400000 in
theorem letter_any (c : Int) (w : World) :
    Calls Try.prog 31 #[.int .u8 c] w fun e w' => e = .returned (.bool (letter c)) ∧ w' = w := by
  by_cases h1 : 97 ≤ c
  · go_enter Try.func31, Try.ntmps31
    go_wp2
    go_ret
    exact ⟨ret_bool (by unfold letter; simp [h1]), rfl⟩
  · have h1' : decide (97 ≤ c) = false := by simpa using h1
    go_enter Try.func31, Try.ntmps31
    go_wp2
    go_ret
    exact ⟨ret_bool (by unfold letter; rw [h1']; simp), rfl⟩

set_option maxHeartbeats 400000 in
theorem peek_any (b : Nat) (s : ByteArray) (i o : Nat) (w : World) (h : QB w b s i o) :
    Calls Try.prog 28 #[.pointer (some ⟨b, 0, none⟩)] w fun e w' => e = .returned (.int .u8 (pk s i)) ∧ ∃ n, w' = w.drewN n := by
  have c0 := h.c0
  have c1 := h.c1
  clear h
  by_cases hl : i < s.size
  · have hl' : (i : Int) < (s.size : Int) := by omega
    have hl2 : decide ((s.size : Int) ≤ (i : Int)) = false := by simp; omega
    have hl3 : decide (s.size ≤ i) = false := by simp; omega
    have HP : Hid (pk s i = ((s[i].toNat : Nat) : Int)) := by unfold Hid pk; rw [bt_lt hl, if_neg (by omega)]
    go_enter Try.func28, Try.ntmps28
    go_wp2
    go_quiet (fail)
    go_wp2
    go_quiet (fail)
    go_wp2
    go_ret
    refine ⟨ret_int HP.out.symm, ?_⟩
    simp only [World.drewN_drewN]
    exact ⟨_, rfl⟩
  · have hl2 : (s.size : Int) ≤ (i : Int) := by omega
    have HP : Hid (pk s i = 0) := by unfold Hid pk; rw [bt_ge hl]; rfl
    go_enter Try.func28, Try.ntmps28
    go_wp2
    go_quiet (fail)
    go_wp2
    go_ret
    exact ⟨ret_int HP.out.symm, _, rfl⟩

/-- Is this byte ahead? -/
def ahd (s : ByteArray) (i : Nat) (c : Int) : Bool := P.bt s i == c
theorem ahd_true {s : ByteArray} {i : Nat} {c : Int} (h : ahd s i c = true) : P.bt s i = c := by simpa [ahd] using h
theorem ahd_false {s : ByteArray} {i : Nat} {c : Int} (h : ahd s i c = false) : P.bt s i ≠ c := by simpa [ahd] using h

set_option maxHeartbeats 400000 in
theorem take_any (c : Int) (b : Nat) (s : ByteArray) (i o : Nat) (w : World) (hs : s.size ≤ 400) (hR : QB w b s i o) (hc : 0 < c) :
    Calls Try.prog 21 #[.pointer (some ⟨b, 0, none⟩), .int .u8 c] w fun e w' => e = .returned (.bool (ahd s i c)) ∧ QB w' b s (stp (ahd s i c) i) o ∧ Only b w w' := by
  have c1 := hR.c1
  have f1 := hR.fz 1
  have HE := hid (pk_eq (s := s) (i := i) hc)
  cases hb : ahd s i c with
  | true =>
    have hlt : i < s.size := lt_of_bt (by have := ahd_true hb; omega)
    have hp : (pk s i == c) = true := by rw [HE.out]; exact hb
    have hp2 : (pk s i != c) = false := by rw [bne, hp]; rfl
    go_enter Try.func21, Try.ntmps21
    go_wp2_with (go_at_call 28; refine (peek_any _ _ _ _ _ hR).mono ?_; rintro e w' ⟨rfl, nq, rfl⟩)
    go_ret
    exact ⟨rfl, (hR.drewN nq).set1 (by rw [stp_true]; omega), Only.setCell (p := ⟨b, 1, none⟩) ((Only.refl _ _).drewN _) rfl _⟩
  | false =>
    have hp : (pk s i == c) = false := by rw [HE.out]; exact hb
    have hp2 : (pk s i != c) = true := by rw [bne, hp]; rfl
    go_enter Try.func21, Try.ntmps21
    go_wp2_with (go_at_call 28; refine (peek_any _ _ _ _ _ hR).mono ?_; rintro e w' ⟨rfl, nq, rfl⟩)
    go_ret
    exact ⟨rfl, hR.drewN nq, (Only.refl _ _).drewN _⟩

set_option maxHeartbeats 400000 in
theorem ended_any (b : Nat) (s : ByteArray) (i o : Nat) (w : World) (hR : QB w b s i o) :
    Calls Try.prog 20 #[.pointer (some ⟨b, 0, none⟩)] w fun e w' => e = .returned (.bool (i == s.size)) ∧ ∃ n, w' = w.drewN n := by
  have c0 := hR.c0
  have c1 := hR.c1
  clear hR
  go_enter Try.func20, Try.ntmps20
  go_wp2
  go_quiet (fail)
  go_wp2
  go_ret
  exact ⟨ret_bool (by rw [Bool.eq_iff_iff]; simp; omega), _, rfl⟩

/-- The two lists of bytes that do not stand for themselves. -/
theorem plain_row {c : Int} (h0 : 0 ≤ c) (h1 : c ≤ 255) : plainS ⟨#[92, 46, 91, 93, 40, 41, 42, 43, 63, 124]⟩ c = P.plain c := by
  have : ∀ k : Fin 256, plainS ⟨#[92, 46, 91, 93, 40, 41, 42, 43, 63, 124]⟩ ((k.1 : Nat) : Int) = P.plain ((k.1 : Nat) : Int) := by decide +kernel
  have h := this ⟨c.toNat, by omega⟩
  rwa [show (((⟨c.toNat, by omega⟩ : Fin 256).1 : Nat) : Int) = c from by show (c.toNat : Int) = c; omega] at h

theorem small_row {c : Int} (h0 : 0 ≤ c) (h1 : c ≤ 255) : plainS ⟨#[92, 93, 45, 94]⟩ c = (decide (33 ≤ c) && decide (c ≤ 126) && !(c == 92 || c == 93 || c == 45 || c == 94)) := by
  have : ∀ k : Fin 256, plainS ⟨#[92, 93, 45, 94]⟩ ((k.1 : Nat) : Int) = (decide (33 ≤ ((k.1 : Nat) : Int)) && decide (((k.1 : Nat) : Int) ≤ 126) && !(((k.1 : Nat) : Int) == 92 || ((k.1 : Nat) : Int) == 93 || ((k.1 : Nat) : Int) == 45 || ((k.1 : Nat) : Int) == 94)) := by decide +kernel
  have h := this ⟨c.toNat, by omega⟩
  rwa [show (((⟨c.toNat, by omega⟩ : Fin 256).1 : Nat) : Int) = c from by show (c.toNat : Int) = c; omega] at h
theorem hex_row {c : Int} (h0 : 0 ≤ c) (h1 : c ≤ 255) : idx ⟨#[48, 49, 50, 51, 52, 53, 54, 55, 56, 57, 97, 98, 99, 100, 101, 102]⟩ c = P.hexV c := by
  have : ∀ k : Fin 256, idx ⟨#[48, 49, 50, 51, 52, 53, 54, 55, 56, 57, 97, 98, 99, 100, 101, 102]⟩ ((k.1 : Nat) : Int) = P.hexV ((k.1 : Nat) : Int) := by decide +kernel
  have h := this ⟨c.toNat, by omega⟩
  rwa [show (((⟨c.toNat, by omega⟩ : Fin 256).1 : Nat) : Int) = c from by show (c.toNat : Int) = c; omega] at h
def escTail (c : Int) : Bool := c == 92 || c == 46 || c == 91 || c == 93 || c == 40 || c == 41 || c == 42 || c == 43 || c == 63 || c == 124 || c == 45 || c == 94
theorem esc_row {c : Int} (h0 : 0 ≤ c) (h1 : c ≤ 255) : decide (0 ≤ idx ⟨#[92, 46, 91, 93, 40, 41, 42, 43, 63, 124, 45, 94]⟩ c) = escTail c := by
  have : ∀ k : Fin 256, decide (0 ≤ idx ⟨#[92, 46, 91, 93, 40, 41, 42, 43, 63, 124, 45, 94]⟩ ((k.1 : Nat) : Int)) = escTail ((k.1 : Nat) : Int) := by decide +kernel
  have h := this ⟨c.toNat, by omega⟩
  rwa [show (((⟨c.toNat, by omega⟩ : Fin 256).1 : Nat) : Int) = c from by show (c.toNat : Int) = c; omega] at h
theorem begins_row {c : Int} (h0 : 0 ≤ c) (h1 : c ≤ 255) : (decide (0 ≤ idx ⟨#[92, 46, 91, 40]⟩ c) || plainS ⟨#[92, 46, 91, 93, 40, 41, 42, 43, 63, 124]⟩ c) = P.begins c := by
  have : ∀ k : Fin 256, (decide (0 ≤ idx ⟨#[92, 46, 91, 40]⟩ ((k.1 : Nat) : Int)) || plainS ⟨#[92, 46, 91, 93, 40, 41, 42, 43, 63, 124]⟩ ((k.1 : Nat) : Int)) = P.begins ((k.1 : Nat) : Int) := by decide +kernel
  have h := this ⟨c.toNat, by omega⟩
  rwa [show (((⟨c.toNat, by omega⟩ : Fin 256).1 : Nat) : Int) = c from by show (c.toNat : Int) = c; omega] at h

set_option maxHeartbeats 400000 in
theorem begins_any (c : Int) (w : World) (h0 : 0 ≤ c) (h1 : c ≤ 255) :
    Calls Try.prog 37 #[.int .u8 c] w fun e w' => e = .returned (.bool (P.begins c)) ∧ w' = w := by
  have HB := hid (begins_row h0 h1)
  cases hd : decide (0 ≤ idx ⟨#[92, 46, 91, 40]⟩ c) with
  | true =>
    rw [hd, Bool.true_or] at HB
    go_enter Try.func37, Try.ntmps37
    go_wp2_with (first | (go_at_call 42; refine (index_any _ _ _).mono ?_; rintro e w' ⟨rfl, rfl⟩; rw [show (Value.bool (decide (0 ≤ idx ⟨#[92, 46, 91, 40]⟩ c))) = .bool true from by rw [hd]]) | (go_at_call 42; refine (index_any _ _ _).mono ?_; rintro e w' ⟨rfl, rfl⟩) | (go_at_call 43; refine (isPlain_any _ _ _).mono ?_; rintro e w' ⟨rfl, rfl⟩))
    go_ret
    exact ⟨ret_bool HB.out, rfl⟩
  | false =>
    rw [hd, Bool.false_or] at HB
    go_enter Try.func37, Try.ntmps37
    go_wp2_with (first | (go_at_call 42; refine (index_any _ _ _).mono ?_; rintro e w' ⟨rfl, rfl⟩) | (go_at_call 43; refine (isPlain_any _ _ _).mono ?_; rintro e w' ⟨rfl, rfl⟩))
    go_ret
    exact ⟨ret_bool HB.out, rfl⟩

end Go.Proofs.Ytjhmlcilabnlbaa
