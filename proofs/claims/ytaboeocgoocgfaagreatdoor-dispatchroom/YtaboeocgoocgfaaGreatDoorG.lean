/-
  The walks of lex.sixteenth, lex.escapeByNumber and lex.escape, at every argument.
-/
import Derived.Test.YtaboeocgoocgfaaGreatDoorD
import Derived.Deep.QuietTactic
import Derived.BigQuiet
namespace Go.Proofs.YtaboeocgoocgfaaGreatDoor
open Go.RowKit

def six (n : Nat) : Int := if 48 ≤ n ∧ n ≤ 57 then n - 48 else if 97 ≤ n ∧ n ≤ 102 then n - 87 else if 65 ≤ n ∧ n ≤ 70 then n - 55 else -1
/-- The escape that stands there: its byte, and how many bytes it has; 0: it is none. -/
def esc (l : Bytes) : Nat × Nat :=
  if l.length < 2 then (0, 0) else
  if (l.getD 1 0).toNat = 110 then (10, 2) else
  if (l.getD 1 0).toNat = 116 then (9, 2) else
  if (l.getD 1 0).toNat = 92 ∨ (l.getD 1 0).toNat = 34 then ((l.getD 1 0).toNat, 2) else
  if (l.getD 1 0).toNat = 120 then
    if l.length < 4 then (0, 0) else
    if six (l.getD 2 0).toNat < 0 ∨ six (l.getD 3 0).toNat < 0 then (0, 0) else ((16 * six (l.getD 2 0).toNat + six (l.getD 3 0).toNat).toNat, 4)
  else (0, 0)

end Go.Proofs.YtaboeocgoocgfaaGreatDoor
