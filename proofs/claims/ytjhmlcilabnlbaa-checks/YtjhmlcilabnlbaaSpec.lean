/- What a text of rules is (DOC.md, Words): the plain reading, in functions of bytes and places. Nothing of the program here. -/
namespace Go.Proofs.Ytjhmlcilabnlbaa.P

/-- What a reading comes to: a value and the place behind it; the place of a fault; no fuel left. -/
inductive PR (α : Type) where
  | ok (a : α) (i : Nat)
  | bad (p : Nat)
  | out

def PR.bind {α β : Type} (r : PR α) (g : α → Nat → PR β) : PR β :=
  match r with
  | .ok a i => g a i
  | .bad p => .bad p
  | .out => .out

/-- The byte at a place; -1 behind the end. -/
def bt (s : ByteArray) (i : Nat) : Int := if h : i < s.size then ((s[i].toNat : Nat) : Int) else -1

def hexV (c : Int) : Int := if 48 ≤ c ∧ c ≤ 57 then c - 48 else if 97 ≤ c ∧ c ≤ 102 then c - 87 else -1

def hex (s : ByteArray) (i : Nat) : PR Int := if hexV (bt s i) < 0 then .bad i else .ok (hexV (bt s i)) (i + 1)

def escSet (c : Int) : Bool := c == 110 || c == 115 || c == 116 || c == 120 || c == 92 || c == 46 || c == 91 || c == 93 || c == 40 || c == 41 || c == 42 || c == 43 || c == 63 || c == 124 || c == 45 || c == 94

def esc (s : ByteArray) (i : Nat) : PR Int :=
  if escSet (bt s i) = false then .bad i
  else if bt s i = 110 then .ok 10 (i + 1)
  else if bt s i = 116 then .ok 9 (i + 1)
  else if bt s i = 115 then .ok 32 (i + 1)
  else if bt s i = 120 then
    (hex s (i + 1)).bind fun a j => (hex s j).bind fun b k => .ok (16 * a + b) k
  else .ok (bt s i) (i + 1)

def small (s : ByteArray) (i : Nat) : PR Int :=
  if bt s i = 92 then esc s (i + 1)
  else if 33 ≤ bt s i ∧ bt s i ≤ 126 ∧ bt s i ≠ 93 ∧ bt s i ≠ 45 ∧ bt s i ≠ 94 then .ok (bt s i) (i + 1)
  else .bad i

def item (s : ByteArray) (i : Nat) : PR (Int × Int) :=
  (small s i).bind fun lo j =>
    if bt s j = 45 then (small s (j + 1)).bind fun hi k => if hi < lo then .bad (j + 1) else .ok (lo, hi) k
    else .ok (lo, lo) j

def add (acc : Nat → Bool) (lo hi : Int) : Nat → Bool := fun x => acc x || (decide (lo ≤ (x : Int)) && decide ((x : Int) ≤ hi))

def items (s : ByteArray) : Nat → Nat → (Nat → Bool) → PR (Nat → Bool)
  | 0, _, _ => .out
  | f + 1, i, acc =>
    (item s i).bind fun lh j => if bt s j = 93 then .ok (add acc lh.1 lh.2) j else items s f j (add acc lh.1 lh.2)

/-- Is there a byte, of 256, that is in the set (or, turned, not in it)? -/
def some256 (acc : Nat → Bool) (neg : Bool) : Bool := (List.range 256).any fun x => acc x != neg

def cls (s : ByteArray) (f i : Nat) : PR Unit :=
  (items s f (if bt s i = 94 then i + 1 else i) (fun _ => false)).bind fun acc j => if some256 acc (bt s i == 94) then .ok () (j + 1) else .bad j

/-- Of what was read: how many nodes it has, and whether it matches the empty text. -/
structure T where
  sz : Nat
  em : Bool

def plain (c : Int) : Bool := decide (33 ≤ c) && decide (c ≤ 126) && !(c == 92 || c == 46 || c == 91 || c == 93 || c == 40 || c == 41 || c == 42 || c == 43 || c == 63 || c == 124)

def begins (c : Int) : Bool := c == 92 || c == 46 || c == 91 || c == 40 || plain c

/-- The marks behind an atom. -/
def marks (s : ByteArray) : Nat → Nat → T → PR T
  | 0, _, _ => .out
  | f + 1, i, t =>
    if bt s i = 42 ∨ bt s i = 63 then marks s f (i + 1) ⟨t.sz + 1, true⟩
    else if bt s i = 43 then marks s f (i + 1) ⟨t.sz + 1, t.em⟩
    else .ok t i

/-- A leaf's atom: all but round brackets. -/
def leafAt (s : ByteArray) (f i : Nat) : PR Unit :=
  if bt s i = 91 then cls s f (i + 1)
  else if bt s i = 46 then .ok () (i + 1)
  else if bt s i = 92 then (esc s (i + 1)).bind fun _ j => .ok () j
  else if plain (bt s i) then .ok () (i + 1)
  else .bad i

mutual
/-- An atom, with so many round brackets open. -/
def atom (s : ByteArray) (f o i : Nat) : PR T :=
  match f with
  | 0 => .out
  | f + 1 =>
    if bt s i = 40 then
      if o = 20 then .bad i else
      (alt s f (o + 1) (i + 1)).bind fun t j => if bt s j = 41 then .ok t (j + 1) else .bad j
    else (leafAt s f i).bind fun _ j => .ok ⟨1, false⟩ j
  termination_by structural f
/-- An atom with its marks. -/
def marked (s : ByteArray) (f o i : Nat) : PR T :=
  match f with
  | 0 => .out
  | f + 1 =>
    (atom s f o i).bind fun t j => marks s f j t
  termination_by structural f
/-- More of a row, behind what was read of it. -/
def rowOn (s : ByteArray) (f o i : Nat) (t : T) : PR T :=
  match f with
  | 0 => .out
  | f + 1 =>
    if begins (bt s i) then
      (marked s f o i).bind fun u j => rowOn s f o j ⟨t.sz + u.sz, t.em && u.em⟩
    else .ok t i
  termination_by structural f
def row (s : ByteArray) (f o i : Nat) : PR T :=
  match f with
  | 0 => .out
  | f + 1 =>
    (marked s f o i).bind fun u j => rowOn s f o j u
  termination_by structural f
def altOn (s : ByteArray) (f o i : Nat) (t : T) : PR T :=
  match f with
  | 0 => .out
  | f + 1 =>
    if bt s i = 124 then
      (row s f o (i + 1)).bind fun u j => altOn s f o j ⟨t.sz + 1 + u.sz, t.em || u.em⟩
    else .ok t i
  termination_by structural f
def alt (s : ByteArray) (f o i : Nat) : PR T :=
  match f with
  | 0 => .out
  | f + 1 =>
    (row s f o i).bind fun u j => altOn s f o j u
  termination_by structural f
end

end Go.Proofs.Ytjhmlcilabnlbaa.P
