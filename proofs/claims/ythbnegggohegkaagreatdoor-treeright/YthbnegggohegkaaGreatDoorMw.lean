/-
  A list of Kids put behind nothing; what TreeMore asks of trees alone; the walk of TreeMore.
-/
import Derived.Test.YthbnegggohegkaaGreatDoorRf
import Derived.Maps.AppendAt
import Derived.OwnWalkIn
import Derived.Test.YthbnegggohegkaaGreatDoorCoJ
import Derived.Test.YthbnegggohegkaaGreatDoorOp
import Derived.Test.YthbnegggohegkaaGreatDoorAkJ
import Derived.Test.YthbnegggohegkaaGreatDoorSaJ
import Derived.Test.YthbnegggohegkaaGreatDoorEJ
import Derived.Test.YthbnegggohegkaaGreatDoorRsJ
import Derived.RangeFuncBox
import Derived.Test.YthbnegggohegkaaGreatDoorSmJ
import Derived.Test.YthbnegggohegkaaGreatDoorEx
namespace Go.Proofs.YthbnegggohegkaaGreatDoor
open Go.RowKit Go.Shelf

attribute [local go_sem] Oper.semAt_some

/-- The cells of nodes behind one another. -/
def nodesL (ks : List MT) : List Value := ks.flatMap fun t => t.cells.toList
theorem nodesL_length (ks : List MT) : (nodesL ks).length = ks.length * 5 := by
  induction ks with
  | nil => rfl
  | cons x xs ih => simp only [nodesL, List.flatMap_cons, List.length_append, List.length_cons] at *; rw [ih]; simp [MT.cells]; omega
theorem nodesL_cons (x : MT) (xs : List MT) : nodesL (x :: xs) = x.cells.toList ++ nodesL xs := by simp [nodesL]
theorem nodesL_append (xs ys : List MT) : nodesL (xs ++ ys) = nodesL xs ++ nodesL ys := by simp [nodesL]

theorem nodesL_get (xs : List MT) (j : Nat) (hj : j < xs.length) (i : Nat) (hi : i < 5) : (nodesL xs)[j * 5 + i]? = xs[j].cells.toList[i]? := by
  induction xs generalizing j with
  | nil => simp at hj
  | cons x xs ih =>
    have hl : x.cells.toList.length = 5 := rfl
    cases j with
    | zero =>
      rw [nodesL_cons, List.getElem?_append_left (by omega)]
      simp
    | succ j =>
      rw [nodesL_cons, List.getElem?_append_right (by omega), hl, show (j + 1) * 5 + i - 5 = j * 5 + i by omega]
      simpa using ih j (by simpa using hj)

theorem info24 : (Tryz.prog.info? 24).map (fun i => (i.zero, i.size, i.bytes)) = some (some (.agg #[.int .i64 0, .string ⟨#[]⟩, .int .i64 0, .int .i64 0, .slice none 0 0]), 5, 64) := by kernel_rfl

end Go.Proofs.YthbnegggohegkaaGreatDoor
namespace Go.Proofs.YthbnegggohegkaaGreatDoor

mutual
end

end

end Go.Proofs.YthbnegggohegkaaGreatDoor
namespace Go.Proofs.YthbnegggohegkaaGreatDoor
open Go.RowKit Go.Shelf

attribute [local go_sem] Oper.semAt_some

/-- The box of the result, and the box of the argument. -/
structure MoBox (Bt : Nat) (t : MT) (W : World) : Prop where
  k0 : W.cell? ⟨Bt, 0, none⟩ = some (.int .i64 t.kind)
  k1 : W.cell? ⟨Bt, 1, none⟩ = some (.string t.text)
  k2 : W.cell? ⟨Bt, 2, none⟩ = some (.int .i64 t.num)
  k3 : W.cell? ⟨Bt, 3, none⟩ = some (.int .i64 t.at_)
  k4 : W.cell? ⟨Bt, 4, none⟩ = some (.slice t.ptr t.kids.length t.cap)
  r : W.cell? ⟨Bt + 1, 0, none⟩ = some (.bool false)
  f : W.frozen? ⟨Bt + 1, 0, none⟩ = false

end Go.Proofs.YthbnegggohegkaaGreatDoor
