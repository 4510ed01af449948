/-
  Data in new memory: what lies at or above a block is left alone by what is done with that block.
-/
import Derived.Test.YtnhbpcmiolkllabDoorSbJ
import Derived.Test.YtnhbpcmiolkllabDoorEcJ
import Derived.Laws.AppendOwn
import Derived.Deep.MidRow
import Derived.Deep.Upon
import Derived.Laws.MakeOwn
namespace Go.Proofs.YtnhbpcmiolkllabDoor
open Go.RowKit

/-- All that a datum leads to lies at or above lo. -/
def MD.Above (lo : Nat) : Nat → MD → Prop
  | 0, _ => True
  | n + 1, d => (∀ b o, d.h.pp = some ⟨b, o, none⟩ → lo ≤ b) ∧ (∀ b o, d.ip = some ⟨b, o, none⟩ → lo ≤ b) ∧ ∀ x ∈ d.items, MD.Above lo n x
theorem MD.Above.mono {lo lo' : Nat} (h : lo' ≤ lo) : ∀ (n : Nat) (d : MD), MD.Above lo n d → MD.Above lo' n d
  | 0, _, _ => trivial
  | n + 1, _, ⟨h1, h2, h3⟩ => ⟨fun b o e => Nat.le_trans h (h1 b o e), fun b o e => Nat.le_trans h (h2 b o e), fun x hx => MD.Above.mono h n x (h3 x hx)⟩

theorem MD.CellsAt.other {w w' : World} {b o : Nat} {d : MD} (h : MD.CellsAt w b o d) (e : w'.heap[b]? = w.heap[b]?) : MD.CellsAt w' b o d := fun j hj => (World.cell?_of_block (a := ⟨b, o + j, none⟩) e).trans (h j hj)
theorem MD.In.other {B g : Nat} {w w' : World} (hh : ∀ b, b ≠ g → b < B → w'.heap[b]? = w.heap[b]?) : ∀ (n : Nat) (d : MD), MD.In B w n d → MD.Above (g + 1) n d → MD.In B w' n d
  | 0, _, h, _ => h
  | n + 1, d, ⟨h1, h2, h3, h4, h5⟩, ⟨a1, a2, a3⟩ => by
    refine ⟨h1, ⟨h2.1, ?_⟩, h3, h4, ?_⟩
    · rcases h2.2 with e | ⟨b, o, e1, e2, e3⟩
      · exact .inl e
      · have := a1 b o e1
        exact .inr ⟨b, o, e1, e2, fun i hi => (World.cell?_of_block (a := ⟨b, o + i, none⟩) (hh b (by omega) e2)).trans (e3 i hi)⟩
    · rcases h5 with e | ⟨b, o, e1, e2, e3⟩
      · exact .inl e
      · have := a2 b o e1
        exact .inr ⟨b, o, e1, e2, fun i hi => ⟨(e3 i hi).1.other (hh b (by omega) e2), MD.In.other hh n _ (e3 i hi).2 (a3 _ (List.getElem_mem hi))⟩⟩

theorem info28z : (Tryd.prog.info? 32).map (fun i => (i.zero, i.size, i.bytes)) = some (some (.agg zeros), 11, 136) := by kernel_rfl
theorem info3z : (Tryd.prog.info? 3).map (fun i => (i.zero, i.size, i.bytes)) = some (some (.int .i64 0), 1, 8) := by kernel_rfl

theorem MD.cells_one (d : MD) : ∀ v ∈ d.cells.toList, v.oneCell' = true := by
  intro v hv
  simp [MD.cells] at hv
  rcases hv with rfl | rfl | rfl | rfl | rfl | rfl | rfl | rfl | rfl | rfl | rfl <;> rfl
end Go.Proofs.YtnhbpcmiolkllabDoor
