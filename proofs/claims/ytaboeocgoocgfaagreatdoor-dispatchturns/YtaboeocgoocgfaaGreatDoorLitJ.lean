/-
  The walks of lex.sixteenth, lex.escapeByNumber and lex.escape, at every argument.
  Plain facts on a text's literal: what it says, and the place behind it, or what is wrong first.
-/
import Derived.Test.YtaboeocgoocgfaaGreatDoorD
import Derived.Deep.QuietTactic
import Derived.BigQuiet
namespace Go.Proofs.YtaboeocgoocgfaaGreatDoor
open Go.RowKit

def six (n : Nat) : Int := if 48 ≤ n ∧ n ≤ 57 then n - 48 else if 97 ≤ n ∧ n ≤ 102 then n - 87 else if 65 ≤ n ∧ n ≤ 70 then n - 55 else -1
/-- The escape that stands there: its byte, and how many bytes it has; 0: it is none. -/
def esc (l : Bytes) : Nat × Nat :=
  if l.length < 2 then (0, 0) else
  if (l.getD 1 0).toNat = 110 then (10, 2) else
  if (l.getD 1 0).toNat = 116 then (9, 2) else
  if (l.getD 1 0).toNat = 92 ∨ (l.getD 1 0).toNat = 34 then ((l.getD 1 0).toNat, 2) else
  if (l.getD 1 0).toNat = 120 then
    if l.length < 4 then (0, 0) else
    if six (l.getD 2 0).toNat < 0 ∨ six (l.getD 3 0).toNat < 0 then (0, 0) else ((16 * six (l.getD 2 0).toNat + six (l.getD 3 0).toNat).toNat, 4)
  else (0, 0)

end Go.Proofs.YtaboeocgoocgfaaGreatDoor
namespace Go.Proofs.YtaboeocgoocgfaaGreatDoor
open Go.RowKit

def litGo (l : Bytes) (src : Nat) : Nat → Nat → Bytes → Except (Nat × Nat) (Bytes × Nat)
  | 0, _, _ => .error (11, src)
  | f + 1, k, acc =>
    if k < l.length then
      if (l.getD k 0).toNat = 10 then .error (11, src)
      else if (l.getD k 0).toNat = 34 then .ok (acc, k + 1)
      else if (l.getD k 0).toNat = 92 then
        if (esc (l.drop k)).2 = 0 then .error (11, k) else litGo l src f (k + (esc (l.drop k)).2) (acc ++ [UInt8.ofNat (esc (l.drop k)).1])
      else litGo l src f (k + 1) (acc ++ [l.getD k 0])
    else .error (11, src)

/-- The literal that began at src, read on from k; acc: what it has said so far. -/
def lit (l : Bytes) (src k : Nat) (acc : Bytes) : Except (Nat × Nat) (Bytes × Nat) := litGo l src (l.length + 1) k acc

end Go.Proofs.YtaboeocgoocgfaaGreatDoor
