/- The whole text of rules: the plain reading. -/
import Derived.Test.YtjhmlcilabnlbaaSpec
namespace Go.Proofs.Ytjhmlcilabnlbaa.P

/-- A rule: its name, where it begins, what it is. -/
structure Rl where
  name : ByteArray
  pos : Nat
  t : T

/-- Behind a name's letters, at most so many. -/
def nameTo (s : ByteArray) : Nat → Nat → Nat
  | 0, i => i
  | n + 1, i => if 97 ≤ bt s i ∧ bt s i ≤ 122 then nameTo s n (i + 1) else i

def rule (s : ByteArray) (F i : Nat) : PR Rl :=
  if nameTo s 8 i = i then .bad i
  else if bt s (nameTo s 8 i) = 61 then (alt s F 0 (nameTo s 8 i + 1)).bind fun t k => .ok ⟨s.extract i (nameTo s 8 i), i, t⟩ k
  else .bad (nameTo s 8 i)

/-- The rules, behind those that were read. -/
def text (s : ByteArray) (F : Nat) : Nat → Nat → List Rl → PR (List Rl)
  | 0, _, _ => .out
  | g + 1, i, acc =>
    (rule s F i).bind fun r k =>
      if s.size ≤ k then .ok (acc ++ [r]) k
      else if bt s k = 10 then (if s.size ≤ k + 1 then .ok (acc ++ [r]) (k + 1) else text s F g (k + 1) (acc ++ [r]))
      else .bad k

end Go.Proofs.Ytjhmlcilabnlbaa.P
