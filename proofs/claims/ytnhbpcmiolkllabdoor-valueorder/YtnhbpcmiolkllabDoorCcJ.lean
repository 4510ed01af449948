/-
  Data in new memory: what lies at or above a block is left alone by what is done with that block.
  The document's copy of a datum.
  The document's copy of a datum that has Items.
-/
import Derived.Test.YtnhbpcmiolkllabDoorSbJ
import Derived.Test.YtnhbpcmiolkllabDoorEcJ
import Derived.Laws.AppendOwn
import Derived.Deep.MidRow
import Derived.Deep.Upon
import Derived.Laws.MakeOwn
import Derived.WalkSpells
import Derived.OwnWalk
namespace Go.Proofs.YtnhbpcmiolkllabDoor
open Go.RowKit

/-- All that a datum leads to lies at or above lo. -/
def MD.Above (lo : Nat) : Nat → MD → Prop
  | 0, _ => True
  | n + 1, d => (∀ b o, d.h.pp = some ⟨b, o, none⟩ → lo ≤ b) ∧ (∀ b o, d.ip = some ⟨b, o, none⟩ → lo ≤ b) ∧ ∀ x ∈ d.items, MD.Above lo n x
theorem MD.Above.mono {lo lo' : Nat} (h : lo' ≤ lo) : ∀ (n : Nat) (d : MD), MD.Above lo n d → MD.Above lo' n d
  | 0, _, _ => trivial
  | n + 1, _, ⟨h1, h2, h3⟩ => ⟨fun b o e => Nat.le_trans h (h1 b o e), fun b o e => Nat.le_trans h (h2 b o e), fun x hx => MD.Above.mono h n x (h3 x hx)⟩

theorem MD.CellsAt.other {w w' : World} {b o : Nat} {d : MD} (h : MD.CellsAt w b o d) (e : w'.heap[b]? = w.heap[b]?) : MD.CellsAt w' b o d := fun j hj => (World.cell?_of_block (a := ⟨b, o + j, none⟩) e).trans (h j hj)
theorem MD.In.other {B g : Nat} {w w' : World} (hh : ∀ b, b ≠ g → b < B → w'.heap[b]? = w.heap[b]?) : ∀ (n : Nat) (d : MD), MD.In B w n d → MD.Above (g + 1) n d → MD.In B w' n d
  | 0, _, h, _ => h
  | n + 1, d, ⟨h1, h2, h3, h4, h5⟩, ⟨a1, a2, a3⟩ => by
    refine ⟨h1, ⟨h2.1, ?_⟩, h3, h4, ?_⟩
    · rcases h2.2 with e | ⟨b, o, e1, e2, e3⟩
      · exact .inl e
      · have := a1 b o e1
        exact .inr ⟨b, o, e1, e2, fun i hi => (World.cell?_of_block (a := ⟨b, o + i, none⟩) (hh b (by omega) e2)).trans (e3 i hi)⟩
    · rcases h5 with e | ⟨b, o, e1, e2, e3⟩
      · exact .inl e
      · have := a2 b o e1
        exact .inr ⟨b, o, e1, e2, fun i hi => ⟨(e3 i hi).1.other (hh b (by omega) e2), MD.In.other hh n _ (e3 i hi).2 (a3 _ (List.getElem_mem hi))⟩⟩

theorem below_setCells {B : Nat} {a : World} {g : Nat} (hb : B ≤ g) : ∀ (vs : List Value) (o : Nat) (w : World), Below B a w → Below B a (w.setCells g o vs)
  | [], _, _, h => h
  | v :: r, o, _, h => below_setCells hb r (o + 1) _ (h.setCell (p := ⟨g, o, none⟩) hb v)
theorem size_setCells' (g : Nat) : ∀ (vs : List Value) (o : Nat) (w : World), (w.setCells g o vs).heap.size = w.heap.size
  | [], _, _ => rfl
  | v :: r, o, w => by
    show ((w.setCell ⟨g, o, none⟩ v).setCells g (o + 1) r).heap.size = _
    rw [size_setCells' g r (o + 1)]; simp

theorem info28z : (Tryd.prog.info? 32).map (fun i => (i.zero, i.size, i.bytes)) = some (some (.agg zeros), 11, 136) := by kernel_rfl
theorem info3z : (Tryd.prog.info? 3).map (fun i => (i.zero, i.size, i.bytes)) = some (some (.int .i64 0), 1, 8) := by kernel_rfl

theorem there_below {w w' : World} {B g m : Nat} (h : w.there g 0 m) (hg : g < B) (hb : Below B w w') : w'.there g 0 m := fun j hj => by
  rw [hb.cell (p := ⟨g, 0 + j, none⟩) hg, hb.frozen (p := ⟨g, 0 + j, none⟩) hg]; exact h j hj
theorem there_part {w : World} {g m k n : Nat} (h : w.there g 0 m) (hk : k + n ≤ m) : w.there g k n := fun j hj => by
  have := h (k + j) (by omega)
  rwa [Nat.zero_add] at this
theorem MD.cells_one (d : MD) : ∀ v ∈ d.cells.toList, v.oneCell' = true := by
  intro v hv
  simp [MD.cells] at hv
  rcases hv with rfl | rfl | rfl | rfl | rfl | rfl | rfl | rfl | rfl | rfl | rfl <;> rfl
theorem rangeAt_cells {w : World} {b o : Nat} {d : MD} : MD.CellsAt w b o d ↔ w.rangeAt b o d.cells.toList := by
  constructor
  · intro h j v hj
    have hj' : d.cells[j]? = some v := by rw [← Array.getElem?_toList]; exact hj
    have : j < 11 := (Array.getElem?_eq_some_iff.1 hj').1
    rw [h j this, hj']
  · intro h j hj
    obtain ⟨v, hv⟩ : ∃ v, d.cells[j]? = some v := ⟨d.cells[j]'hj, Array.getElem?_eq_getElem hj⟩
    rw [hv]
    exact h j v (by rw [Array.getElem?_toList]; exact hv)
/-- Rows of copies: the first k lie in row g. -/
def CopyRel (n : Nat) (items : List MD) (W : World) (g : Nat) (i : Value) (wr : World) : Prop :=
  ∃ (k : Nat) (ds : List MD), k ≤ items.length ∧ i = .int .i64 k ∧ ds.length = k ∧ Below W.heap.size W wr ∧ g < wr.heap.size ∧ wr.there g 0 (items.length * 11) ∧
    (∀ (i : Nat) (hi : i < ds.length), MD.CellsAt wr g (i * 11) ds[i] ∧ MD.In wr.heap.size wr n ds[i] ∧ MD.Above (g + 1) n ds[i]) ∧ all2 (MD.same n) (items.take k) ds = true
theorem all2_snoc' {α : Type} (p : α → α → Bool) : ∀ (xs ys : List α) (k : Nat) (hx : k < xs.length) (_ : ys.length = k) (y : α), all2 p (xs.take (k + 1)) (ys ++ [y]) = (all2 p (xs.take k) ys && p xs[k] y)
  | x :: xs, [], 0, _, _, y => by simp [all2]
  | x :: xs, z :: ys, 0, _, hy, y => by simp at hy
  | x :: xs, [], k + 1, _, hy, y => by simp at hy
  | x :: xs, z :: ys, k + 1, hx, hy, y => by
    have := all2_snoc' p xs ys k (by simpa using hx) (by simpa using hy) y
    simp only [List.take_succ_cons, List.getElem_cons_succ, List.cons_append, all2]
    rw [this, Bool.and_assoc]
end Go.Proofs.YtnhbpcmiolkllabDoor
namespace Go.Proofs.YtnhbpcmiolkllabDoor
open Go.RowKit
attribute [local go_sem] refold2 cell3_0 cell3_1 b28_0 b28_01

def CopyP (n : Nat) (d : MD) (w : World) (r : Ending) (w' : World) : Prop := ∃ d' : MD, r = .returned d'.val ∧ MD.In w'.heap.size w' n d' ∧ MD.Above w.heap.size n d' ∧ MD.same n d d' = true ∧ Below w.heap.size w w'
theorem nz26 (a : Option Addr) (n c : Nat) (W : World) : (binOp .neq 30 (.slice a n c) (.slice none 0 0)).run Tryd.prog W = .ok (.bool a.isSome) W := (run_neq_slice_nil_any W 30 32 a n c 0 0 Tryd.underlying30).trans (by cases a <;> rfl)
theorem nz23 (a : Option Addr) (n c : Nat) (W : World) : (binOp .neq 22 (.slice a n c) (.slice none 0 0)).run Tryd.prog W = .ok (.bool a.isSome) W := (run_neq_slice_nil_any W 22 3 a n c 0 0 Tryd.underlying22).trans (by cases a <;> rfl)
attribute [local go_sem] nz26 nz23
theorem heap_setCell_other (w : World) (g o b : Nat) (v : Value) (h : b ≠ g) : (w.setCell ⟨g, o, none⟩ v).heap[b]? = w.heap[b]? := by
  have := World.heap_setCells_other w g o [v] (i := b)
  by_cases hb : b < w.heap.size
  · exact this hb h
  · rw [Array.getElem?_eq_none (by simp; omega), Array.getElem?_eq_none (by omega)]
theorem numsOf (path : List Int) : ∀ u ∈ path.map (Value.int .i64), u.oneCell' = true := by
  intro u hu
  obtain ⟨z, _, rfl⟩ := List.mem_map.1 hu
  rfl

/-- The path's cells, wherever they are asked. -/
theorem path_cells {w : World} {pa : Addr} {path : List Int} (h : path = [] ∨ ∃ b o, some pa = some ⟨b, o, none⟩ ∧ b < w.heap.size ∧ ∀ (i : Nat) (hi : i < path.length), w.cell? ⟨b, o + i, none⟩ = some (.int .i64 path[i])) (W : World) (hW : ∀ b, b < w.heap.size → W.heap[b]? = w.heap[b]?) :
    ∀ (j : Nat) (u : Value), (path.map (Value.int .i64))[j]? = some u → W.cell? (pa.add j) = some u := by
  intro j u hu
  rw [List.getElem?_map] at hu
  obtain ⟨z, hz, rfl⟩ := Option.map_eq_some_iff.1 hu
  obtain ⟨hj, rfl⟩ := List.getElem?_eq_some_iff.1 hz
  rcases h with e | ⟨b, o, e1, e2, e3⟩
  · subst e; simp at hj
  · obtain rfl : pa = ⟨b, o, none⟩ := Option.some.inj e1
    rw [Addr.add_mid]
    exact (World.cell?_of_block (a := ⟨b, o + j, none⟩) (hW b e2)).trans (e3 j hj)
end Go.Proofs.YtnhbpcmiolkllabDoor
namespace Go.Proofs.YtnhbpcmiolkllabDoor
open Go.RowKit
attribute [local go_sem] refold2 cell3_0 cell3_1 b28_0 b28_01 nz26 nz23

theorem MD.In.aloft {B lo : Nat} {w w' : World} (hh : ∀ b, lo ≤ b → b < B → w'.heap[b]? = w.heap[b]?) : ∀ (n : Nat) (d : MD), MD.In B w n d → MD.Above lo n d → MD.In B w' n d
  | 0, _, h, _ => h
  | n + 1, d, ⟨h1, h2, h3, h4, h5⟩, ⟨a1, a2, a3⟩ => by
    refine ⟨h1, ⟨h2.1, ?_⟩, h3, h4, ?_⟩
    · rcases h2.2 with e | ⟨b, o, e1, e2, e3⟩
      · exact .inl e
      · exact .inr ⟨b, o, e1, e2, fun i hi => (World.cell?_of_block (a := ⟨b, o + i, none⟩) (hh b (a1 b o e1) e2)).trans (e3 i hi)⟩
    · rcases h5 with e | ⟨b, o, e1, e2, e3⟩
      · exact .inl e
      · exact .inr ⟨b, o, e1, e2, fun i hi => ⟨(e3 i hi).1.other (hh b (a2 b o e1) e2), MD.In.aloft hh n _ (e3 i hi).2 (a3 _ (List.getElem_mem hi))⟩⟩
theorem eleven_after (w3 : World) (h b : Nat) (h1 : b ≠ h) (h2 : b ≠ h + 1) (q : Nat) (v v0 v1 v2 v3 v4 v5 v6 v7 v8 v9 v10 : Value) :
    ((((((((((((w3.setCell ⟨h, q, none⟩ v).setCell ⟨h + 1, 0, none⟩ v0).setCell ⟨h + 1, 1, none⟩ v1).setCell ⟨h + 1, 2, none⟩ v2).setCell ⟨h + 1, 3, none⟩ v3).setCell ⟨h + 1, 4, none⟩ v4).setCell ⟨h + 1, 5, none⟩ v5).setCell ⟨h + 1, 6, none⟩ v6).setCell ⟨h + 1, 7, none⟩ v7).setCell ⟨h + 1, 8, none⟩ v8).setCell ⟨h + 1, 9, none⟩ v9).setCell ⟨h + 1, 10, none⟩ v10).heap[b]? = w3.heap[b]? := by
  rw [heap_setCell_other _ _ _ _ _ h2, heap_setCell_other _ _ _ _ _ h2, heap_setCell_other _ _ _ _ _ h2, heap_setCell_other _ _ _ _ _ h2, heap_setCell_other _ _ _ _ _ h2, heap_setCell_other _ _ _ _ _ h2, heap_setCell_other _ _ _ _ _ h2, heap_setCell_other _ _ _ _ _ h2, heap_setCell_other _ _ _ _ _ h2, heap_setCell_other _ _ _ _ _ h2, heap_setCell_other _ _ _ _ _ h2, heap_setCell_other _ _ _ _ _ h1]
theorem old_cells {w : World} {g k m : Nat} (h : w.there g 0 m) (hk : k * 11 + 11 ≤ m) : ∃ u0 u1 u2 u3 u4 u5 u6 u7 u8 u9 u10 : Value, (w.cell? ⟨g, k * 11, none⟩ = some u0 ∧ w.cell? ⟨g, k * 11 + 1, none⟩ = some u1 ∧ w.cell? ⟨g, k * 11 + 2, none⟩ = some u2 ∧ w.cell? ⟨g, k * 11 + 3, none⟩ = some u3 ∧ w.cell? ⟨g, k * 11 + 4, none⟩ = some u4 ∧ w.cell? ⟨g, k * 11 + 5, none⟩ = some u5 ∧ w.cell? ⟨g, k * 11 + 6, none⟩ = some u6 ∧ w.cell? ⟨g, k * 11 + 7, none⟩ = some u7 ∧ w.cell? ⟨g, k * 11 + 8, none⟩ = some u8 ∧ w.cell? ⟨g, k * 11 + 9, none⟩ = some u9 ∧ w.cell? ⟨g, k * 11 + 10, none⟩ = some u10) ∧
    (w.frozen? ⟨g, k * 11, none⟩ = false ∧ w.frozen? ⟨g, k * 11 + 1, none⟩ = false ∧ w.frozen? ⟨g, k * 11 + 2, none⟩ = false ∧ w.frozen? ⟨g, k * 11 + 3, none⟩ = false ∧ w.frozen? ⟨g, k * 11 + 4, none⟩ = false ∧ w.frozen? ⟨g, k * 11 + 5, none⟩ = false ∧ w.frozen? ⟨g, k * 11 + 6, none⟩ = false ∧ w.frozen? ⟨g, k * 11 + 7, none⟩ = false ∧ w.frozen? ⟨g, k * 11 + 8, none⟩ = false ∧ w.frozen? ⟨g, k * 11 + 9, none⟩ = false ∧ w.frozen? ⟨g, k * 11 + 10, none⟩ = false) := by
  have key := there_part h hk
  have get : ∀ j, j < 11 → ∃ u, w.cell? ⟨g, k * 11 + j, none⟩ = some u := fun j hj => Option.isSome_iff_exists.1 (key j hj).1
  obtain ⟨u0, e0⟩ := get 0 (by omega)
  obtain ⟨u1, e1⟩ := get 1 (by omega)
  obtain ⟨u2, e2⟩ := get 2 (by omega)
  obtain ⟨u3, e3⟩ := get 3 (by omega)
  obtain ⟨u4, e4⟩ := get 4 (by omega)
  obtain ⟨u5, e5⟩ := get 5 (by omega)
  obtain ⟨u6, e6⟩ := get 6 (by omega)
  obtain ⟨u7, e7⟩ := get 7 (by omega)
  obtain ⟨u8, e8⟩ := get 8 (by omega)
  obtain ⟨u9, e9⟩ := get 9 (by omega)
  obtain ⟨u10, e10⟩ := get 10 (by omega)
  exact ⟨u0, u1, u2, u3, u4, u5, u6, u7, u8, u9, u10, ⟨e0, e1, e2, e3, e4, e5, e6, e7, e8, e9, e10⟩, (key 0 (by omega)).2, (key 1 (by omega)).2, (key 2 (by omega)).2, (key 3 (by omega)).2, (key 4 (by omega)).2, (key 5 (by omega)).2, (key 6 (by omega)).2, (key 7 (by omega)).2, (key 8 (by omega)).2, (key 9 (by omega)).2, (key 10 (by omega)).2⟩
end Go.Proofs.YtnhbpcmiolkllabDoor
