/- The whole of P3: what Check answers. -/
import Derived.Test.YtjhmlcilabnlbaaTextSpec
namespace Go.Proofs.Ytjhmlcilabnlbaa.P

/-- The rules in their order, behind those that were judged: the first fault and its place. -/
def judge : List Rl → Nat → List Rl → Option (Int × Nat)
  | _, _, [] => none
  | done, size, r :: rest =>
    if 7 < done.length ∨ 60 < size + r.t.sz then some (2, r.pos)
    else if done.any (fun d => d.name.toList == r.name.toList) then some (3, r.pos)
    else if r.t.em then some (4, r.pos)
    else judge (done ++ [r]) (size + r.t.sz) rest

/-- Behind the reading: how many rules, or the error, and the place. -/
def verdict (l : List Rl) : Nat × Int × Nat :=
  match judge [] 0 l with
  | none => (l.length, 0, 0)
  | some x => (0, x.1, x.2)

def outcome (r : PR (List Rl)) : Nat × Int × Nat :=
  match r with
  | .ok l _ => verdict l
  | .bad p => (0, 1, p)
  | .out => (0, 0, 0)

def check (s : ByteArray) : Nat × Int × Nat := if 400 < s.size then (0, 1, 0) else outcome (text s 3210 401 0 [])

end Go.Proofs.Ytjhmlcilabnlbaa.P
