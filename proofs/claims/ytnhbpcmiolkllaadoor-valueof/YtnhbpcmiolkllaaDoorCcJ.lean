/-
  Data in new memory: what lies at or above a block is left alone by what is done with that block.
  The document's copy of a datum.
  The document's copy of a datum that has Items.
-/
import Derived.Test.YtnhbpcmiolkllaaDoorSbJ
import Derived.Test.YtnhbpcmiolkllaaDoorRa
import Derived.Deep.MidRow
import Derived.Deep.Upon
import Derived.Laws.MakeOwn
import Derived.WalkSpells
import Derived.OwnWalk
namespace Go.Proofs.YtnhbpcmiolkllaaDoor
open Go.RowKit

/-- All that a datum leads to lies at or above lo. -/
def MD.Above (lo : Nat) : Nat → MD → Prop
  | 0, _ => True
  | n + 1, d => (∀ b o, d.h.pp = some ⟨b, o, none⟩ → lo ≤ b) ∧ (∀ b o, d.ip = some ⟨b, o, none⟩ → lo ≤ b) ∧ ∀ x ∈ d.items, MD.Above lo n x
theorem MD.Above.mono {lo lo' : Nat} (h : lo' ≤ lo) : ∀ (n : Nat) (d : MD), MD.Above lo n d → MD.Above lo' n d
  | 0, _, _ => trivial
  | n + 1, _, ⟨h1, h2, h3⟩ => ⟨fun b o e => Nat.le_trans h (h1 b o e), fun b o e => Nat.le_trans h (h2 b o e), fun x hx => MD.Above.mono h n x (h3 x hx)⟩

theorem MD.CellsAt.other {w w' : World} {b o : Nat} {d : MD} (h : MD.CellsAt w b o d) (e : w'.heap[b]? = w.heap[b]?) : MD.CellsAt w' b o d := fun j hj => (World.cell?_of_block (a := ⟨b, o + j, none⟩) e).trans (h j hj)
theorem MD.In.other {B g : Nat} {w w' : World} (hh : ∀ b, b ≠ g → b < B → w'.heap[b]? = w.heap[b]?) : ∀ (n : Nat) (d : MD), MD.In B w n d → MD.Above (g + 1) n d → MD.In B w' n d
  | 0, _, h, _ => h
  | n + 1, d, ⟨h1, h2, h3, h4, h5⟩, ⟨a1, a2, a3⟩ => by
    refine ⟨h1, ⟨h2.1, ?_⟩, h3, h4, ?_⟩
    · rcases h2.2 with e | ⟨b, o, e1, e2, e3⟩
      · exact .inl e
      · have := a1 b o e1
        exact .inr ⟨b, o, e1, e2, fun i hi => (World.cell?_of_block (a := ⟨b, o + i, none⟩) (hh b (by omega) e2)).trans (e3 i hi)⟩
    · rcases h5 with e | ⟨b, o, e1, e2, e3⟩
      · exact .inl e
      · have := a2 b o e1
        exact .inr ⟨b, o, e1, e2, fun i hi => ⟨(e3 i hi).1.other (hh b (by omega) e2), MD.In.other hh n _ (e3 i hi).2 (a3 _ (List.getElem_mem hi))⟩⟩

theorem below_setCells {B : Nat} {a : World} {g : Nat} (hb : B ≤ g) : ∀ (vs : List Value) (o : Nat) (w : World), Below B a w → Below B a (w.setCells g o vs)
  | [], _, _, h => h
  | v :: r, o, _, h => below_setCells hb r (o + 1) _ (h.setCell (p := ⟨g, o, none⟩) hb v)
theorem size_setCells' (g : Nat) : ∀ (vs : List Value) (o : Nat) (w : World), (w.setCells g o vs).heap.size = w.heap.size
  | [], _, _ => rfl
  | v :: r, o, w => by
    show ((w.setCell ⟨g, o, none⟩ v).setCells g (o + 1) r).heap.size = _
    rw [size_setCells' g r (o + 1)]; simp

theorem info28z : (Tryd.prog.info? 28).map (fun i => (i.zero, i.size, i.bytes)) = some (some (.agg zeros), 11, 136) := by kernel_rfl
theorem info3z : (Tryd.prog.info? 3).map (fun i => (i.zero, i.size, i.bytes)) = some (some (.int .i64 0), 1, 8) := by kernel_rfl

theorem there_below {w w' : World} {B g m : Nat} (h : w.there g 0 m) (hg : g < B) (hb : Below B w w') : w'.there g 0 m := fun j hj => by
  rw [hb.cell (p := ⟨g, 0 + j, none⟩) hg, hb.frozen (p := ⟨g, 0 + j, none⟩) hg]; exact h j hj
theorem there_part {w : World} {g m k n : Nat} (h : w.there g 0 m) (hk : k + n ≤ m) : w.there g k n := fun j hj => by
  have := h (k + j) (by omega)
  rwa [Nat.zero_add] at this
theorem MD.cells_one (d : MD) : ∀ v ∈ d.cells.toList, v.oneCell' = true := by
  intro v hv
  simp [MD.cells] at hv
  rcases hv with rfl | rfl | rfl | rfl | rfl | rfl | rfl | rfl | rfl | rfl | rfl <;> rfl
theorem rangeAt_cells {w : World} {b o : Nat} {d : MD} : MD.CellsAt w b o d ↔ w.rangeAt b o d.cells.toList := by
  constructor
  · intro h j v hj
    have hj' : d.cells[j]? = some v := by rw [← Array.getElem?_toList]; exact hj
    have : j < 11 := (Array.getElem?_eq_some_iff.1 hj').1
    rw [h j this, hj']
  · intro h j hj
    obtain ⟨v, hv⟩ : ∃ v, d.cells[j]? = some v := ⟨d.cells[j]'hj, Array.getElem?_eq_getElem hj⟩
    rw [hv]
    exact h j v (by rw [Array.getElem?_toList]; exact hv)
/-- Rows of copies: the first k lie in row g. -/
def CopyRel (n : Nat) (items : List MD) (W : World) (g : Nat) (i : Value) (wr : World) : Prop :=
  ∃ (k : Nat) (ds : List MD), k ≤ items.length ∧ i = .int .i64 k ∧ ds.length = k ∧ Below W.heap.size W wr ∧ g < wr.heap.size ∧ wr.there g 0 (items.length * 11) ∧
    (∀ (i : Nat) (hi : i < ds.length), MD.CellsAt wr g (i * 11) ds[i] ∧ MD.In wr.heap.size wr n ds[i] ∧ MD.Above (g + 1) n ds[i]) ∧ all2 (MD.same n) (items.take k) ds = true
theorem all2_snoc' {α : Type} (p : α → α → Bool) : ∀ (xs ys : List α) (k : Nat) (hx : k < xs.length) (_ : ys.length = k) (y : α), all2 p (xs.take (k + 1)) (ys ++ [y]) = (all2 p (xs.take k) ys && p xs[k] y)
  | x :: xs, [], 0, _, _, y => by simp [all2]
  | x :: xs, z :: ys, 0, _, hy, y => by simp at hy
  | x :: xs, [], k + 1, _, hy, y => by simp at hy
  | x :: xs, z :: ys, k + 1, hx, hy, y => by
    have := all2_snoc' p xs ys k (by simpa using hx) (by simpa using hy) y
    simp only [List.take_succ_cons, List.getElem_cons_succ, List.cons_append, all2]
    rw [this, Bool.and_assoc]
/-- One copy more. -/
theorem CopyRel.next {n : Nat} {items : List MD} {W : World} {g k : Nat} {ds : List MD} {wr w9 : World} {d : MD} (hk : k < items.length) (hds : ds.length = k) (hB : Below W.heap.size W wr) (hWg : W.heap.size ≤ g) (hg : g < wr.heap.size)
    (hth : wr.there g 0 (items.length * 11)) (hc : ∀ (i : Nat) (hi : i < ds.length), MD.CellsAt wr g (i * 11) ds[i] ∧ MD.In wr.heap.size wr n ds[i] ∧ MD.Above (g + 1) n ds[i]) (ha : all2 (MD.same n) (items.take k) ds = true)
    (h9 : Below wr.heap.size wr w9) (hd : MD.In w9.heap.size w9 n d) (hda : MD.Above wr.heap.size n d) (hs : MD.same n items[k] d = true) :
    CopyRel n items W g (.int .i64 ((k : Int) + 1)) (w9.setCells g (k * 11) d.cells.toList) := by
  have hth9 := there_below hth hg h9
  have hg9 : g < w9.heap.size := Nat.lt_of_lt_of_le hg h9.size
  have hoth : ∀ b, b ≠ g → b < w9.heap.size → (w9.setCells g (k * 11) d.cells.toList).heap[b]? = w9.heap[b]? := fun b hb hb2 => World.heap_setCells_other _ _ _ _ hb2 hb
  refine ⟨k + 1, ds ++ [d], hk, by simp, by simp [hds], below_setCells hWg _ _ _ (hB.trans (h9.mono hB.size)), by rw [size_setCells']; exact hg9, World.there_setCells hth9 _ _ _, fun i hi => ?_, ?_⟩
  · rw [size_setCells']
    by_cases hik : i < k
    · have hi' : i < ds.length := by omega
      rw [List.getElem_append_left hi']
      obtain ⟨q1, q2, q3⟩ := hc i hi'
      refine ⟨?_, MD.In.other hoth n _ (q2.later (Nat.le_refl _) h9) q3, q3⟩
      rw [rangeAt_cells]
      refine World.rangeAt_setCells_apart (rangeAt_cells.1 (q1.below hg h9)) _ _ _ (.inr (.inl ?_))
      show i * 11 + 11 ≤ k * 11
      omega
    · obtain rfl : i = ds.length := by simp at hi; omega
      rw [List.getElem_append_right (Nat.le_refl _)]
      simp only [Nat.sub_self, List.getElem_cons_zero]
      refine ⟨?_, MD.In.other hoth n _ hd (MD.Above.mono (by omega) n d hda), MD.Above.mono (by omega) n d hda⟩
      rw [rangeAt_cells, hds]
      refine World.rangeAt_setCells_same _ _ _ _ (there_part hth9 ?_)
      show k * 11 + 11 ≤ _
      omega
  · rw [all2_snoc' _ _ _ _ hk hds, ha, hs]; rfl
end Go.Proofs.YtnhbpcmiolkllaaDoor
namespace Go.Proofs.YtnhbpcmiolkllaaDoor
open Go.RowKit
attribute [local go_sem] refold2 cell3_0 cell3_1 b28_0 b28_01

def CopyP (n : Nat) (d : MD) (w : World) (r : Ending) (w' : World) : Prop := ∃ d' : MD, r = .returned d'.val ∧ MD.In w'.heap.size w' n d' ∧ MD.Above w.heap.size n d' ∧ MD.same n d d' = true ∧ Below w.heap.size w w'
theorem nz26 (a : Option Addr) (n c : Nat) (W : World) : (binOp .neq 26 (.slice a n c) (.slice none 0 0)).run Tryd.prog W = .ok (.bool a.isSome) W := (run_neq_slice_nil_any W 26 28 a n c 0 0 Tryd.underlying26).trans (by cases a <;> rfl)
theorem nz23 (a : Option Addr) (n c : Nat) (W : World) : (binOp .neq 23 (.slice a n c) (.slice none 0 0)).run Tryd.prog W = .ok (.bool a.isSome) W := (run_neq_slice_nil_any W 23 3 a n c 0 0 Tryd.underlying23).trans (by cases a <;> rfl)
attribute [local go_sem] nz26 nz23
/-- Put together. -/
theorem copy_done {n : Nat} {w F : World} {k : Int} {t : ByteArray} {a f : Int} {s : ByteArray} {r0 r1 r2 r3 : Int} {pp : Option Addr} {path : List Int} {pc : Nat} {ip : Option Addr} {ic : Nat} {items : List MD} (pp2 : Option Addr) (pc2 : Nat) (ip2 : Option Addr) (ic2 : Nat) (items2 : List MD)
    (hB : Below w.heap.size w F) (hF : MD.Fine ⟨k, t, a, f, s, r0, r1, r2, r3, pp, path, pc⟩) (hb : ∀ x ∈ path, -9223372036854775808 ≤ x ∧ x ≤ 9223372036854775807) (hp1 : path.length ≤ pc2) (hp2 : pc2 ≤ maxLen)
    (hP : (path = [] ∨ ∃ b o, pp2 = some ⟨b, o, none⟩ ∧ b < F.heap.size ∧ ∀ (i : Nat) (hi : i < path.length), F.cell? ⟨b, o + i, none⟩ = some (.int .i64 path[i])) ∧ ∀ b o, pp2 = some ⟨b, o, none⟩ → w.heap.size ≤ b)
    (hil : items2.length = items.length) (hi1 : items.length ≤ ic2) (hi2 : ic2 ≤ maxLen)
    (hI : items2 = [] ∨ ∃ b o, ip2 = some ⟨b, o, none⟩ ∧ b < F.heap.size ∧ ∀ (i : Nat) (hi : i < items2.length), MD.CellsAt F b (o + i * 11) items2[i] ∧ MD.In F.heap.size F n items2[i])
    (hA : (∀ b o, ip2 = some ⟨b, o, none⟩ → w.heap.size ≤ b) ∧ ∀ x ∈ items2, MD.Above w.heap.size n x) (hs : all2 (MD.same n) items items2 = true) :
    CopyP (n + 1) ⟨⟨k, t, a, f, s, r0, r1, r2, r3, pp, path, pc⟩, ip, ic, items⟩ w (.returned (.agg #[.int .i64 k, .string t, .int .i64 a, .int .u64 f, .string s, .int .i64 r0, .int .i64 r1, .int .i64 r2, .int .i64 r3, .slice pp2 path.length pc2, .slice ip2 items.length ic2])) F := by
  refine ⟨⟨⟨k, t, a, f, s, r0, r1, r2, r3, pp2, path, pc2⟩, ip2, ic2, items2⟩, ?_, ⟨⟨hF.k0, hF.k1, hF.n0, hF.n1, hF.f0, hF.f1, hF.o0, hF.o1, hF.a0, hF.a1, hF.b0, hF.b1, hF.c0, hF.c1, hF.t0, hF.s0, hp1, hp2⟩, ⟨hb, hP.1⟩, by rw [hil]; exact hi1, hi2, hI⟩, ⟨hP.2, hA.1, hA.2⟩, ?_, hB⟩
  · simp only [MD.val, D]; rw [hil]
  · show (sameH _ _ _ _ && _ && _) = true
    have e1 : sameH ⟨k, t, a, f, s, r0, r1, r2, r3, pp, path, pc⟩ ⟨k, t, a, f, s, r0, r1, r2, r3, pp2, path, pc2⟩ items.length items2.length = true := decide_eq_true ⟨rfl, rfl, rfl, rfl, rfl, rfl, rfl, rfl, rfl, rfl, hil.symm⟩
    rw [e1, hs, decide_eq_true (show path = path from rfl)]; rfl

theorem heap_setCell_other (w : World) (g o b : Nat) (v : Value) (h : b ≠ g) : (w.setCell ⟨g, o, none⟩ v).heap[b]? = w.heap[b]? := by
  have := World.heap_setCells_other w g o [v] (i := b)
  by_cases hb : b < w.heap.size
  · exact this hb h
  · rw [Array.getElem?_eq_none (by simp; omega), Array.getElem?_eq_none (by omega)]
theorem numsOf (path : List Int) : ∀ u ∈ path.map (Value.int .i64), u.oneCell' = true := by
  intro u hu
  obtain ⟨z, _, rfl⟩ := List.mem_map.1 hu
  rfl

/-- The path's cells, wherever they are asked. -/
theorem path_cells {w : World} {pa : Addr} {path : List Int} (h : path = [] ∨ ∃ b o, some pa = some ⟨b, o, none⟩ ∧ b < w.heap.size ∧ ∀ (i : Nat) (hi : i < path.length), w.cell? ⟨b, o + i, none⟩ = some (.int .i64 path[i])) (W : World) (hW : ∀ b, b < w.heap.size → W.heap[b]? = w.heap[b]?) :
    ∀ (j : Nat) (u : Value), (path.map (Value.int .i64))[j]? = some u → W.cell? (pa.add j) = some u := by
  intro j u hu
  rw [List.getElem?_map] at hu
  obtain ⟨z, hz, rfl⟩ := Option.map_eq_some_iff.1 hu
  obtain ⟨hj, rfl⟩ := List.getElem?_eq_some_iff.1 hz
  rcases h with e | ⟨b, o, e1, e2, e3⟩
  · subst e; simp at hj
  · obtain rfl : pa = ⟨b, o, none⟩ := Option.some.inj e1
    rw [Addr.add_mid]
    exact (World.cell?_of_block (a := ⟨b, o + j, none⟩) (hW b e2)).trans (e3 j hj)
end Go.Proofs.YtnhbpcmiolkllaaDoor
namespace Go.Proofs.YtnhbpcmiolkllaaDoor
open Go.RowKit
attribute [local go_sem] refold2 cell3_0 cell3_1 b28_0 b28_01 nz26 nz23

theorem MD.In.aloft {B lo : Nat} {w w' : World} (hh : ∀ b, lo ≤ b → b < B → w'.heap[b]? = w.heap[b]?) : ∀ (n : Nat) (d : MD), MD.In B w n d → MD.Above lo n d → MD.In B w' n d
  | 0, _, h, _ => h
  | n + 1, d, ⟨h1, h2, h3, h4, h5⟩, ⟨a1, a2, a3⟩ => by
    refine ⟨h1, ⟨h2.1, ?_⟩, h3, h4, ?_⟩
    · rcases h2.2 with e | ⟨b, o, e1, e2, e3⟩
      · exact .inl e
      · exact .inr ⟨b, o, e1, e2, fun i hi => (World.cell?_of_block (a := ⟨b, o + i, none⟩) (hh b (a1 b o e1) e2)).trans (e3 i hi)⟩
    · rcases h5 with e | ⟨b, o, e1, e2, e3⟩
      · exact .inl e
      · exact .inr ⟨b, o, e1, e2, fun i hi => ⟨(e3 i hi).1.other (hh b (a2 b o e1) e2), MD.In.aloft hh n _ (e3 i hi).2 (a3 _ (List.getElem_mem hi))⟩⟩
theorem eleven_after (w3 : World) (h b : Nat) (h1 : b ≠ h) (h2 : b ≠ h + 1) (q : Nat) (v v0 v1 v2 v3 v4 v5 v6 v7 v8 v9 v10 : Value) :
    ((((((((((((w3.setCell ⟨h, q, none⟩ v).setCell ⟨h + 1, 0, none⟩ v0).setCell ⟨h + 1, 1, none⟩ v1).setCell ⟨h + 1, 2, none⟩ v2).setCell ⟨h + 1, 3, none⟩ v3).setCell ⟨h + 1, 4, none⟩ v4).setCell ⟨h + 1, 5, none⟩ v5).setCell ⟨h + 1, 6, none⟩ v6).setCell ⟨h + 1, 7, none⟩ v7).setCell ⟨h + 1, 8, none⟩ v8).setCell ⟨h + 1, 9, none⟩ v9).setCell ⟨h + 1, 10, none⟩ v10).heap[b]? = w3.heap[b]? := by
  rw [heap_setCell_other _ _ _ _ _ h2, heap_setCell_other _ _ _ _ _ h2, heap_setCell_other _ _ _ _ _ h2, heap_setCell_other _ _ _ _ _ h2, heap_setCell_other _ _ _ _ _ h2, heap_setCell_other _ _ _ _ _ h2, heap_setCell_other _ _ _ _ _ h2, heap_setCell_other _ _ _ _ _ h2, heap_setCell_other _ _ _ _ _ h2, heap_setCell_other _ _ _ _ _ h2, heap_setCell_other _ _ _ _ _ h2, heap_setCell_other _ _ _ _ _ h1]
theorem old_cells {w : World} {g k m : Nat} (h : w.there g 0 m) (hk : k * 11 + 11 ≤ m) : ∃ u0 u1 u2 u3 u4 u5 u6 u7 u8 u9 u10 : Value, (w.cell? ⟨g, k * 11, none⟩ = some u0 ∧ w.cell? ⟨g, k * 11 + 1, none⟩ = some u1 ∧ w.cell? ⟨g, k * 11 + 2, none⟩ = some u2 ∧ w.cell? ⟨g, k * 11 + 3, none⟩ = some u3 ∧ w.cell? ⟨g, k * 11 + 4, none⟩ = some u4 ∧ w.cell? ⟨g, k * 11 + 5, none⟩ = some u5 ∧ w.cell? ⟨g, k * 11 + 6, none⟩ = some u6 ∧ w.cell? ⟨g, k * 11 + 7, none⟩ = some u7 ∧ w.cell? ⟨g, k * 11 + 8, none⟩ = some u8 ∧ w.cell? ⟨g, k * 11 + 9, none⟩ = some u9 ∧ w.cell? ⟨g, k * 11 + 10, none⟩ = some u10) ∧
    (w.frozen? ⟨g, k * 11, none⟩ = false ∧ w.frozen? ⟨g, k * 11 + 1, none⟩ = false ∧ w.frozen? ⟨g, k * 11 + 2, none⟩ = false ∧ w.frozen? ⟨g, k * 11 + 3, none⟩ = false ∧ w.frozen? ⟨g, k * 11 + 4, none⟩ = false ∧ w.frozen? ⟨g, k * 11 + 5, none⟩ = false ∧ w.frozen? ⟨g, k * 11 + 6, none⟩ = false ∧ w.frozen? ⟨g, k * 11 + 7, none⟩ = false ∧ w.frozen? ⟨g, k * 11 + 8, none⟩ = false ∧ w.frozen? ⟨g, k * 11 + 9, none⟩ = false ∧ w.frozen? ⟨g, k * 11 + 10, none⟩ = false) := by
  have key := there_part h hk
  have get : ∀ j, j < 11 → ∃ u, w.cell? ⟨g, k * 11 + j, none⟩ = some u := fun j hj => Option.isSome_iff_exists.1 (key j hj).1
  obtain ⟨u0, e0⟩ := get 0 (by omega)
  obtain ⟨u1, e1⟩ := get 1 (by omega)
  obtain ⟨u2, e2⟩ := get 2 (by omega)
  obtain ⟨u3, e3⟩ := get 3 (by omega)
  obtain ⟨u4, e4⟩ := get 4 (by omega)
  obtain ⟨u5, e5⟩ := get 5 (by omega)
  obtain ⟨u6, e6⟩ := get 6 (by omega)
  obtain ⟨u7, e7⟩ := get 7 (by omega)
  obtain ⟨u8, e8⟩ := get 8 (by omega)
  obtain ⟨u9, e9⟩ := get 9 (by omega)
  obtain ⟨u10, e10⟩ := get 10 (by omega)
  exact ⟨u0, u1, u2, u3, u4, u5, u6, u7, u8, u9, u10, ⟨e0, e1, e2, e3, e4, e5, e6, e7, e8, e9, e10⟩, (key 0 (by omega)).2, (key 1 (by omega)).2, (key 2 (by omega)).2, (key 3 (by omega)).2, (key 4 (by omega)).2, (key 5 (by omega)).2, (key 6 (by omega)).2, (key 7 (by omega)).2, (key 8 (by omega)).2, (key 9 (by omega)).2, (key 10 (by omega)).2⟩
theorem wd_item {n : Nat} {items : List MD} {k : Nat} (hk : k < items.length) : MD.wd n items[k] ≤ (items.map (MD.wd n)).sum := by
  have h1 := sum_take_succ (MD.wd n) items k hk
  have h2 := sum_take_le (MD.wd n) items (k + 1)
  omega
theorem len_le_wd (n : Nat) : ∀ l : List MD, l.length ≤ (l.map (MD.wd n)).sum
  | [] => by simp
  | d :: l => by
    have h1 := len_le_wd n l
    have h2 := MD.wd_pos n d
    simp only [List.length_cons, List.map_cons, List.sum_cons]; omega
theorem set10 {w : World} {g : Nat} {v0 v1 v2 v3 v4 v5 v6 v7 v8 v9 v10 v : Value} (h : w.heap[g]? = some (.cells #[v0, v1, v2, v3, v4, v5, v6, v7, v8, v9, v10] 28 (0, 0))) : (w.setCell ⟨g, 10, none⟩ v).heap[g]? = some (.cells #[v0, v1, v2, v3, v4, v5, v6, v7, v8, v9, v] 28 (0, 0)) := by
  have hlt := (Array.getElem?_eq_some_iff.1 h).1
  show (w.heap.modify g _)[g]? = _
  rw [Array.getElem?_eq_getElem (by rw [Array.size_modify]; exact hlt), Array.getElem_modify_self]
  have := (Array.getElem?_eq_some_iff.1 h).2
  rw [this]; rfl

end Go.Proofs.YtnhbpcmiolkllaaDoor
