/-
  .
-/
import Derived.Test.YtdbijkgnddcneaaGreatDoorEeJ
import Derived.Laws.AppendOwn
import Derived.Deep.MidRow
import Derived.Deep.Upon
import Derived.Laws.MakeOwn
namespace Go.Proofs.YtdbijkgnddcneaaGreatDoor
open Go.RowKit
def MD.Above (lo : Nat) : Nat → MD → Prop
 | 0, _ => True
 | n + 1, d => (∀ b o, d.h.pp = some ⟨b, o, none⟩ → lo ≤ b) ∧ (∀ b o, d.ip = some ⟨b, o, none⟩ → lo ≤ b) ∧ ∀ x ∈ d.items, MD.Above lo n x
theorem MD.Above.mono {lo lo' : Nat} (h : lo' ≤ lo) : ∀ (n : Nat) (d : MD), MD.Above lo n d → MD.Above lo' n d
 | 0, _, _ => trivial
 | n + 1, _, ⟨h1, h2, h3⟩ => ⟨fun b o e => Nat.le_trans h (h1 b o e), fun b o e => Nat.le_trans h (h2 b o e), fun x hx => MD.Above.mono h n x (h3 x hx)⟩
theorem MD.CellsAt.other {w w' : World} {b o : Nat} {d : MD} (h : MD.CellsAt w b o d) (e : w'.heap[b]? = w.heap[b]?) : MD.CellsAt w' b o d := fun j hj => (World.cell?_of_block (a := ⟨b, o + j, none⟩) e).trans (h j hj)
theorem MD.In.other {B g : Nat} {w w' : World} (hh : ∀ b, b ≠ g → b < B → w'.heap[b]? = w.heap[b]?) : ∀ (n : Nat) (d : MD), MD.In B w n d → MD.Above (g + 1) n d → MD.In B w' n d
 | 0, _, h, _ => h
 | n + 1, d, ⟨h1, h2, h3, h4, h5⟩, ⟨a1, a2, a3⟩ => by
  refine ⟨h1, ⟨h2.1, ?_⟩, h3, h4, ?_⟩
  ·rcases h2.2 with e | ⟨b, o, e1, e2, e3⟩
   ·exact .inl e
   ·have := a1 b o e1
    exact .inr ⟨b, o, e1, e2, fun i hi => (World.cell?_of_block (a := ⟨b, o + i, none⟩) (hh b (by omega) e2)).trans (e3 i hi)⟩
  ·rcases h5 with e | ⟨b, o, e1, e2, e3⟩
   ·exact .inl e
   ·have := a2 b o e1
    exact .inr ⟨b, o, e1, e2, fun i hi => ⟨(e3 i hi).1.other (hh b (by omega) e2), MD.In.other hh n _ (e3 i hi).2 (a3 _ (List.getElem_mem hi))⟩⟩
theorem below_setCells {B : Nat} {a : World} {g : Nat} (hb : B ≤ g) : ∀ (vs : List Value) (o : Nat) (w : World), Below B a w → Below B a (w.setCells g o vs)
 | [], _, _, h => h
 | v :: r, o, _, h => below_setCells hb r (o + 1) _ (h.setCell (p := ⟨g, o, none⟩) hb v)
theorem size_setCells' (g : Nat) : ∀ (vs : List Value) (o : Nat) (w : World), (w.setCells g o vs).heap.size = w.heap.size
 | [], _, _ => rfl
 | v :: r, o, w => by
  show ((w.setCell ⟨g, o, none⟩ v).setCells g (o + 1) r).heap.size = _
  rw [size_setCells' g r (o + 1)]; simp
theorem info28z : (Tryz.prog.info? 32).map (fun i => (i.zero, i.size, i.bytes)) = some (some (.agg zeros), 11, 136) := by kernel_rfl
theorem info3z : (Tryz.prog.info? 3).map (fun i => (i.zero, i.size, i.bytes)) = some (some (.int .i64 0), 1, 8) := by kernel_rfl
theorem there_below {w w' : World} {B g m : Nat} (h : w.there g 0 m) (hg : g < B) (hb : Below B w w') : w'.there g 0 m := fun j hj => by
 rw [hb.cell (p := ⟨g, 0 + j, none⟩) hg, hb.frozen (p := ⟨g, 0 + j, none⟩) hg]; exact h j hj
theorem there_part {w : World} {g m k n : Nat} (h : w.there g 0 m) (hk : k + n ≤ m) : w.there g k n := fun j hj => by
 have := h (k + j) (by omega)
 rwa [Nat.zero_add] at this
theorem MD.cells_one (d : MD) : ∀ v ∈ d.cells.toList, v.oneCell' = true := by
 intro v hv
 simp [MD.cells] at hv
 rcases hv with rfl | rfl | rfl | rfl | rfl | rfl | rfl | rfl | rfl | rfl | rfl <;> rfl
theorem rangeAt_cells {w : World} {b o : Nat} {d : MD} : MD.CellsAt w b o d ↔ w.rangeAt b o d.cells.toList := by
 constructor
 ·intro h j v hj
  have hj' : d.cells[j]? = some v := by rw [← Array.getElem?_toList]; exact hj
  have : j < 11 := (Array.getElem?_eq_some_iff.1 hj').1
  rw [h j this, hj']
 ·intro h j hj
  obtain ⟨v, hv⟩ : ∃ v, d.cells[j]? = some v := ⟨d.cells[j]'hj, Array.getElem?_eq_getElem hj⟩
  rw [hv]
  exact h j v (by rw [Array.getElem?_toList]; exact hv)
def CopyRel (n : Nat) (items : List MD) (W : World) (g : Nat) (i : Value) (wr : World) : Prop :=
 ∃ (k : Nat) (ds : List MD), k ≤ items.length ∧ i = .int .i64 k ∧ ds.length = k ∧ Below W.heap.size W wr ∧ g < wr.heap.size ∧ wr.there g 0 (items.length * 11) ∧
  (∀ (i : Nat) (hi : i < ds.length), MD.CellsAt wr g (i * 11) ds[i] ∧ MD.In wr.heap.size wr n ds[i] ∧ MD.Above (g + 1) n ds[i]) ∧ all2 (MD.same n) (items.take k) ds = true
theorem all2_snoc' {α : Type} (p : α → α → Bool) : ∀ (xs ys : List α) (k : Nat) (hx : k < xs.length) (_ : ys.length = k) (y : α), all2 p (xs.take (k + 1)) (ys ++ [y]) = (all2 p (xs.take k) ys && p xs[k] y)
 | x :: xs, [], 0, _, _, y => by simp [all2]
 | x :: xs, z :: ys, 0, _, hy, y => by simp at hy
 | x :: xs, [], k + 1, _, hy, y => by simp at hy
 | x :: xs, z :: ys, k + 1, hx, hy, y => by
  have := all2_snoc' p xs ys k (by simpa using hx) (by simpa using hy) y
  simp only [List.take_succ_cons, List.getElem_cons_succ, List.cons_append, all2]
  rw [this, Bool.and_assoc]
end Go.Proofs.YtdbijkgnddcneaaGreatDoor
