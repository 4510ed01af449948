/-
  Struct types with one and two fields: their shapes, as far as their declarations tell them.
  A struct type with two fields: its shape, as far as its declaration tells it.
  Two struct types are named.
  The second struct type is named.
  The fields of struct types.
  The parts of a struct type with one field.
  The parts of a struct type with two fields.
-/
import Derived.Test.YtdbijkgnddcneaaGreatDoorLxI3J
import Derived.Laws.AppendOwn
import Derived.OwnWalk
namespace Go.Proofs.YtdbijkgnddcneaaGreatDoor.Lx
open Go.RowKit Go.ChangeMaps

theorem Kp.setB {S : Nat → Prop} (w : World) (b : Nat) (o : Obj) (hb : S b) : Kp S w (setBlock w b o) :=
  ⟨rfl, rfl, rfl, by rw [setBlock_size]; exact Nat.le_refl _, fun k _ hn => setBlock_other w b k o fun e => hn (e ▸ hb)⟩
/-- The shape of the type T, with rows of its own. -/
structure ShT (lo : Nat) (w : World) (g cap pb : Nat) : Prop where
  glo : lo ≤ g
  ghi : g < w.heap.size
  plo : lo ≤ pb
  phi : pb < w.heap.size
  ne : g ≠ pb
  n0 : w.cell? ⟨g, 0, none⟩ = some (.string ⟨#[97]⟩)
  e0 : w.cell? ⟨g, 1, none⟩ = some (.int .i64 0)
  f0 : w.frozen? ⟨g, 1, none⟩ = false
  parts : w.heap[pb]? = some (.map #[⟨.string ⟨#[97]⟩, .agg #[.bool true, .int .i64 0, .bool false, .int .i64 0], 0⟩] 1)
/-- The shape of the type S, with rows of its own. -/
structure ShS (lo : Nat) (w : World) (g cap pb : Nat) : Prop where
  glo : lo ≤ g
  ghi : g < w.heap.size
  plo : lo ≤ pb
  phi : pb < w.heap.size
  ne : g ≠ pb
  n0 : w.cell? ⟨g, 0, none⟩ = some (.string ⟨#[102]⟩)
  e0 : w.cell? ⟨g, 1, none⟩ = some (.int .i64 0)
  f0 : w.frozen? ⟨g, 1, none⟩ = false
  n1 : w.cell? ⟨g, 2, none⟩ = some (.string ⟨#[103]⟩)
  e1 : w.cell? ⟨g, 3, none⟩ = some (.int .i64 0)
  f1 : w.frozen? ⟨g, 3, none⟩ = false
  parts : w.heap[pb]? = some (.map #[⟨.string ⟨#[102]⟩, .agg #[.bool true, .int .i64 0, .bool false, .int .i64 0], 0⟩, ⟨.string ⟨#[103]⟩, .agg #[.bool true, .int .i64 1, .bool false, .int .i64 0], 1⟩] 2)
end Go.Proofs.YtdbijkgnddcneaaGreatDoor.Lx
namespace Go.Proofs.YtdbijkgnddcneaaGreatDoor.Lx
open Go.RowKit Go.ChangeMaps

end Go.Proofs.YtdbijkgnddcneaaGreatDoor.Lx
namespace Go.Proofs.YtdbijkgnddcneaaGreatDoor.Lx
open Go.RowKit Go.ChangeMaps

theorem ite_yes {c : Bool} {A B : Prop} (hc : c = true) (h : A) : if c = true then A else B := by rw [if_pos hc]; exact h
end Go.Proofs.YtdbijkgnddcneaaGreatDoor.Lx
namespace Go.Proofs.YtdbijkgnddcneaaGreatDoor.Lx
open Go.RowKit Go.ChangeMaps

end Go.Proofs.YtdbijkgnddcneaaGreatDoor.Lx
namespace Go.Proofs.YtdbijkgnddcneaaGreatDoor.Lx
open Go.RowKit Go.ChangeMaps

end Go.Proofs.YtdbijkgnddcneaaGreatDoor.Lx
namespace Go.Proofs.YtdbijkgnddcneaaGreatDoor.Lx
open Go.RowKit Go.ChangeMaps

end Go.Proofs.YtdbijkgnddcneaaGreatDoor.Lx
namespace Go.Proofs.YtdbijkgnddcneaaGreatDoor.Lx
open Go.RowKit Go.ChangeMaps

end Go.Proofs.YtdbijkgnddcneaaGreatDoor.Lx
