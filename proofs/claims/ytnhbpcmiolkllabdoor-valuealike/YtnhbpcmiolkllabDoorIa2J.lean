/-
  The document's copy of a datum.
  What is appended to none: none, or a new row.
-/
import Derived.Test.YtnhbpcmiolkllabDoorCa
import Derived.WalkSpells
import Derived.OwnWalk
namespace Go.Proofs.YtnhbpcmiolkllabDoor
open Go.RowKit
attribute [local go_sem] refold2 cell3_0 cell3_1 b28_0 b28_01

theorem nz26 (a : Option Addr) (n c : Nat) (W : World) : (binOp .neq 30 (.slice a n c) (.slice none 0 0)).run Tryd.prog W = .ok (.bool a.isSome) W := (run_neq_slice_nil_any W 30 32 a n c 0 0 Tryd.underlying30).trans (by cases a <;> rfl)
theorem nz23 (a : Option Addr) (n c : Nat) (W : World) : (binOp .neq 22 (.slice a n c) (.slice none 0 0)).run Tryd.prog W = .ok (.bool a.isSome) W := (run_neq_slice_nil_any W 22 3 a n c 0 0 Tryd.underlying22).trans (by cases a <;> rfl)
attribute [local go_sem] nz26 nz23
theorem heap_setCell_other (w : World) (g o b : Nat) (v : Value) (h : b ≠ g) : (w.setCell ⟨g, o, none⟩ v).heap[b]? = w.heap[b]? := by
  have := World.heap_setCells_other w g o [v] (i := b)
  by_cases hb : b < w.heap.size
  · exact this hb h
  · rw [Array.getElem?_eq_none (by simp; omega), Array.getElem?_eq_none (by omega)]
end Go.Proofs.YtnhbpcmiolkllabDoor
namespace Go.Proofs.YtnhbpcmiolkllabDoor
open Go.RowKit

/-- A row of data, cell by cell. -/
def rowOf : List MD → List Value
  | [] => []
  | d :: l => d.cells.toList ++ rowOf l
theorem rowOf_get : ∀ (l : List MD) (i : Nat) (hi : i < l.length) (j : Nat), j < 11 → (rowOf l)[i * 11 + j]? = l[i].cells[j]?
  | d :: l, 0, _, j, hj => by
    show (d.cells.toList ++ rowOf l)[0 * 11 + j]? = d.cells[j]?
    rw [Nat.zero_mul, Nat.zero_add, List.getElem?_append_left (show j < 11 from hj), Array.getElem?_toList]
  | d :: l, i + 1, hi, j, hj => by
    show (d.cells.toList ++ rowOf l)[(i + 1) * 11 + j]? = (d :: l)[i + 1].cells[j]?
    rw [List.getElem?_append_right (show 11 ≤ _ by omega)]
    show (rowOf l)[(i + 1) * 11 + j - 11]? = _
    rw [show (i + 1) * 11 + j - 11 = i * 11 + j by omega]
    exact rowOf_get l i (by simpa using hi) j hj
/-- The cells of Items in a new row. -/
theorem rowOf_at {W : World} {g : Nat} {cur : Array Value} {items : List MD} (hg : W.heap[g]? = some (.cells cur 32 (0, 0))) (ht : cur.toList.take (items.length * 11) = rowOf items) (i : Nat) (hi : i < items.length) : MD.CellsAt W g (i * 11) items[i] := by
  intro j hj
  rw [row_at hg (i * 11 + j), ← rowOf_get items i hi j hj, ← ht, List.getElem?_take_of_lt (by omega), Array.getElem?_toList]
end Go.Proofs.YtnhbpcmiolkllabDoor
