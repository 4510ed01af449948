/-
  Plain facts on a text's literal: what it says, and the place behind it, or what is wrong first.
-/
import Derived.Test.YtaboeocgoocgfaaGreatDoorG
namespace Go.Proofs.YtaboeocgoocgfaaGreatDoor
open Go.RowKit

def litGo (l : Bytes) (src : Nat) : Nat → Nat → Bytes → Except (Nat × Nat) (Bytes × Nat)
  | 0, _, _ => .error (11, src)
  | f + 1, k, acc =>
    if k < l.length then
      if (l.getD k 0).toNat = 10 then .error (11, src)
      else if (l.getD k 0).toNat = 34 then .ok (acc, k + 1)
      else if (l.getD k 0).toNat = 92 then
        if (esc (l.drop k)).2 = 0 then .error (11, k) else litGo l src f (k + (esc (l.drop k)).2) (acc ++ [UInt8.ofNat (esc (l.drop k)).1])
      else litGo l src f (k + 1) (acc ++ [l.getD k 0])
    else .error (11, src)

/-- The literal that began at src, read on from k; acc: what it has said so far. -/
def lit (l : Bytes) (src k : Nat) (acc : Bytes) : Except (Nat × Nat) (Bytes × Nat) := litGo l src (l.length + 1) k acc

end Go.Proofs.YtaboeocgoocgfaaGreatDoor
