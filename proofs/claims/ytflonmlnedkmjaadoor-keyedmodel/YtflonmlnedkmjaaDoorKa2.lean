/-
  Data in memory of the call's own: rows that may be written over, and what stands behind them.
-/
import Derived.Test.YtflonmlnedkmjaaDoorIa2J
import Derived.Test.YtflonmlnedkmjaaDoorHd2J
import Derived.Test.YtflonmlnedkmjaaDoorIJ
namespace Go.Proofs.YtflonmlnedkmjaaDoor
open Go.RowKit

/-- A datum whose rows lie from lo to hi, each a row of its own kind, that may be written. -/
def Good (lo hi : Nat) (w : World) : Nat → MD → Prop
  | 0, _ => False
  | n + 1, d => (d.h.path.length ≤ d.h.pc ∧ d.h.pc ≤ maxLen) ∧ (d.items.length ≤ d.ic ∧ d.ic ≤ maxLen) ∧
    (d.h.path.length = 0 ∨ ∃ g cur, d.h.pp = some ⟨g, 0, none⟩ ∧ lo ≤ g ∧ g < hi ∧ w.heap[g]? = some (.cells cur 3 (0, 0)) ∧ d.h.path.length ≤ cur.size) ∧
    (d.items.length = 0 ∨ ∃ g cur, d.ip = some ⟨g, 0, none⟩ ∧ lo ≤ g ∧ g < hi ∧ w.heap[g]? = some (.cells cur 39 (0, 0)) ∧ d.items.length * 11 ≤ cur.size ∧ ∀ i, i < d.items.length → ∃ x, MD.CellsAt w g (i * 11) x ∧ Good lo hi w n x)
theorem Good.mono {lo hi lo' hi' : Nat} {w : World} (h1 : lo' ≤ lo) (h2 : hi ≤ hi') : ∀ (n : Nat) (d : MD), Good lo hi w n d → Good lo' hi' w n d
  | 0, _, h => h
  | n + 1, d, ⟨a, b, p, q⟩ => by
    refine ⟨a, b, ?_, ?_⟩
    · rcases p with e | ⟨g, cur, e1, e2, e3, e4, e5⟩
      · exact .inl e
      · exact .inr ⟨g, cur, e1, by omega, by omega, e4, e5⟩
    · rcases q with e | ⟨g, cur, e1, e2, e3, e4, e5, e6⟩
      · exact .inl e
      · exact .inr ⟨g, cur, e1, by omega, by omega, e4, e5, fun i hi => by
          obtain ⟨x, y1, y2⟩ := e6 i hi
          exact ⟨x, y1, Good.mono h1 h2 n x y2⟩⟩
theorem Good.same {lo hi : Nat} {w w' : World} (hh : ∀ b, lo ≤ b → b < hi → w'.heap[b]? = w.heap[b]?) : ∀ (n : Nat) (d : MD), Good lo hi w n d → Good lo hi w' n d
  | 0, _, h => h
  | n + 1, d, ⟨a, b, p, q⟩ => by
    refine ⟨a, b, ?_, ?_⟩
    · rcases p with e | ⟨g, cur, e1, e2, e3, e4, e5⟩
      · exact .inl e
      · exact .inr ⟨g, cur, e1, e2, e3, (hh g e2 e3).trans e4, e5⟩
    · rcases q with e | ⟨g, cur, e1, e2, e3, e4, e5, e6⟩
      · exact .inl e
      · exact .inr ⟨g, cur, e1, e2, e3, (hh g e2 e3).trans e4, e5, fun i hi => by
          obtain ⟨x, y1, y2⟩ := e6 i hi
          exact ⟨x, y1.other (hh g e2 e3), Good.same hh n x y2⟩⟩
/-- A row stays a row. -/
theorem row_setCells {g : Nat} {t : TypeId} : ∀ (vs : List Value) (o : Nat) (w : World) (cur : Array Value), w.heap[g]? = some (.cells cur t (0, 0)) → ∃ cur', (w.setCells g o vs).heap[g]? = some (.cells cur' t (0, 0)) ∧ cur'.size = cur.size
  | [], _, _, cur, h => ⟨cur, h, rfl⟩
  | v :: r, o, w, cur, h => by
    obtain ⟨c, h1, h2⟩ := row_setCells r (o + 1) (w.setCell ⟨g, o, none⟩ v) _ (row_set h o v)
    exact ⟨c, h1, h2.trans (by simp)⟩
theorem good_path {lo hi g o : Nat} {w : World} {cur : Array Value} {v : Value} (hg : w.heap[g]? = some (.cells cur 3 (0, 0))) : ∀ (n : Nat) (d : MD), Good lo hi w n d → Good lo hi (w.setCell ⟨g, o, none⟩ v) n d
  | 0, _, h => False.elim h
  | n + 1, d, ⟨a, b, p, q⟩ => by
    refine ⟨a, b, ?_, ?_⟩
    · rcases p with e | ⟨g', c, e1, e2, e3, e4, e5⟩
      · exact .inl e
      · by_cases hgg : g' = g
        · subst hgg
          rw [hg] at e4
          obtain rfl : cur = c := by injection e4 with e4; injection e4
          exact .inr ⟨g', _, e1, e2, e3, row_set hg o v, by simpa using e5⟩
        · exact .inr ⟨g', c, e1, e2, e3, (heap_setCell_other _ _ _ _ _ hgg).trans e4, e5⟩
    · rcases q with e | ⟨g', c, e1, e2, e3, e4, e5, e6⟩
      · exact .inl e
      · have hgg : g' ≠ g := fun e => by
          subst e
          rw [hg] at e4
          injection e4 with e4
          injection e4 with _ e4
          exact absurd e4 (by decide)
        have hk := heap_setCell_other w g o g' v hgg
        exact .inr ⟨g', c, e1, e2, e3, hk.trans e4, e5, fun i hi => by
          obtain ⟨x, y1, y2⟩ := e6 i hi
          exact ⟨x, y1.other hk, good_path hg n x y2⟩⟩
/-- Only rows from lo to hi have changed, and what may be written over may be so still. -/
structure Sp (lo hi : Nat) (w w' : World) : Prop where
  os : w'.os = w.os
  tape : w'.tape = w.tape
  output : w'.output = w.output
  size : w.heap.size ≤ w'.heap.size
  block : ∀ b, b < w.heap.size → b < lo ∨ hi ≤ b → w'.heap[b]? = w.heap[b]?
  good : ∀ n d, Good lo hi w n d → Good lo hi w' n d
theorem Sp.refl (lo hi : Nat) (w : World) : Sp lo hi w w := ⟨rfl, rfl, rfl, Nat.le_refl _, fun _ _ _ => rfl, fun _ _ h => h⟩
theorem Sp.trans {lo hi : Nat} {a b c : World} (h : Sp lo hi a b) (k : Sp lo hi b c) : Sp lo hi a c :=
  ⟨k.os.trans h.os, k.tape.trans h.tape, k.output.trans h.output, Nat.le_trans h.size k.size, fun i hi hh => (k.block i (Nat.lt_of_lt_of_le hi h.size) hh).trans (h.block i hi hh), fun n d hd => k.good n d (h.good n d hd)⟩
theorem Sp.below {lo hi : Nat} {w a b : World} (h : Sp lo hi w a) (hh : hi ≤ w.heap.size) (hb : Below w.heap.size a b) : Sp lo hi w b :=
  ⟨hb.os.trans h.os, hb.tape.trans h.tape, hb.output.trans h.output, Nat.le_trans h.size hb.size, fun i hi h' => (hb.block i hi).trans (h.block i hi h'), fun n d hd => Good.same (fun i _ h2 => hb.block i (by omega)) n d (h.good n d hd)⟩
theorem Sp.path {lo hi g o : Nat} {w a : World} {cur : Array Value} {v : Value} (h : Sp lo hi w a) (h1 : lo ≤ g) (h2 : g < hi) (hg : a.heap[g]? = some (.cells cur 3 (0, 0))) : Sp lo hi w (a.setCell ⟨g, o, none⟩ v) :=
  h.trans ⟨rfl, rfl, rfl, by simp, fun b _ hb => heap_setCell_other _ _ _ _ _ (by omega), fun n d => good_path hg n d⟩
/-- Two marked cells stand behind each row. -/
def Marks (w : World) : Nat → MD → Prop
  | 0, _ => True
  | n + 1, o => (o.h.pp = none ∨ ∃ g, o.h.pp = some ⟨g, 0, none⟩ ∧ o.h.pc = o.h.path.length + 2 ∧ w.cell? ⟨g, o.h.path.length, none⟩ = some (.int .i64 (-71)) ∧ w.cell? ⟨g, o.h.path.length + 1, none⟩ = some (.int .i64 (-72))) ∧
    (o.ip = none ∨ ∃ g, o.ip = some ⟨g, 0, none⟩ ∧ o.ic = o.items.length + 2 ∧ w.cell? ⟨g, o.items.length * 11, none⟩ = some (.int .i64 (-71)) ∧ w.cell? ⟨g, (o.items.length + 1) * 11, none⟩ = some (.int .i64 (-72))) ∧ ∀ x ∈ o.items, Marks w n x
theorem Marks.aloft {lo : Nat} {w w' : World} (hh : ∀ b, lo ≤ b → b < w.heap.size → w'.heap[b]? = w.heap[b]?) : ∀ (n : Nat) (d : MD), Marks w n d → MD.Above lo n d → Marks w' n d
  | 0, _, _, _ => trivial
  | n + 1, d, ⟨p, q, r⟩, ⟨a1, a2, a3⟩ => by
    refine ⟨?_, ?_, fun x hx => Marks.aloft hh n x (r x hx) (a3 x hx)⟩
    · rcases p with e | ⟨g, e1, e2, e3, e4⟩
      · exact .inl e
      · have hk := hh g (a1 _ _ e1) (block_of_cell e3)
        exact .inr ⟨g, e1, e2, (World.cell?_of_block (a := ⟨g, _, none⟩) hk).trans e3, (World.cell?_of_block (a := ⟨g, _, none⟩) hk).trans e4⟩
    · rcases q with e | ⟨g, e1, e2, e3, e4⟩
      · exact .inl e
      · have hk := hh g (a2 _ _ e1) (block_of_cell e3)
        exact .inr ⟨g, e1, e2, (World.cell?_of_block (a := ⟨g, _, none⟩) hk).trans e3, (World.cell?_of_block (a := ⟨g, _, none⟩) hk).trans e4⟩
theorem above_zero : ∀ (n : Nat) (d : MD), MD.Above 0 n d
  | 0, _ => trivial
  | n + 1, _ => ⟨fun _ _ _ => Nat.zero_le _, fun _ _ _ => Nat.zero_le _, fun x _ => above_zero n x⟩
theorem Marks.later {w w' : World} {n : Nat} {d : MD} (h : Marks w n d) (hb : Below w.heap.size w w') : Marks w' n d := Marks.aloft (lo := 0) (fun b _ h2 => hb.block b h2) n d h (above_zero n d)

/-- Rows of copies: the first k lie in row g, in memory of their own. -/
def GRel (mk : Prop) (m n : Nat) (items : List MD) (W : World) (g : Nat) (i : Value) (wr : World) : Prop :=
  ∃ (k : Nat) (ds : List MD), k ≤ items.length ∧ i = .int .i64 k ∧ ds.length = k ∧ Below W.heap.size W wr ∧ g < wr.heap.size ∧ (∃ cur, wr.heap[g]? = some (.cells cur 39 (0, 0)) ∧ cur.size = m) ∧
    (∀ (i : Nat) (hi : i < ds.length), MD.CellsAt wr g (i * 11) ds[i] ∧ MD.In wr.heap.size wr n ds[i] ∧ MD.Above (g + 1) n ds[i] ∧ Good (g + 1) wr.heap.size wr n ds[i] ∧ (mk → Marks wr n ds[i])) ∧ all2 (MD.same n) (items.take k) ds = true
theorem GRel.next {mk : Prop} {m n : Nat} {items : List MD} {W : World} {g k : Nat} {ds : List MD} {wr w9 : World} {d : MD} (hk : k < items.length) (hm : items.length * 11 ≤ m) (hds : ds.length = k) (hB : Below W.heap.size W wr) (hWg : W.heap.size ≤ g) (hg : g < wr.heap.size)
    (hrow : ∃ cur, wr.heap[g]? = some (.cells cur 39 (0, 0)) ∧ cur.size = m) (hc : ∀ (i : Nat) (hi : i < ds.length), MD.CellsAt wr g (i * 11) ds[i] ∧ MD.In wr.heap.size wr n ds[i] ∧ MD.Above (g + 1) n ds[i] ∧ Good (g + 1) wr.heap.size wr n ds[i] ∧ (mk → Marks wr n ds[i])) (ha : all2 (MD.same n) (items.take k) ds = true)
    (h9 : Below wr.heap.size wr w9) (hd : MD.In w9.heap.size w9 n d) (hda : MD.Above wr.heap.size n d) (hs : MD.same n items[k] d = true) (hdg : Good wr.heap.size w9.heap.size w9 n d) (hdm : mk → Marks w9 n d) :
    GRel mk m n items W g (.int .i64 ((k : Int) + 1)) (w9.setCells g (k * 11) d.cells.toList) := by
  obtain ⟨cur, hcur, hcs⟩ := hrow
  have hcur9 : w9.heap[g]? = some (.cells cur 39 (0, 0)) := (h9.block g hg).trans hcur
  have hth9 : w9.there g 0 m := there_at hcur9 (Nat.le_of_eq hcs.symm)
  have hg9 : g < w9.heap.size := Nat.lt_of_lt_of_le hg h9.size
  have hoth : ∀ b, b ≠ g → b < w9.heap.size → (w9.setCells g (k * 11) d.cells.toList).heap[b]? = w9.heap[b]? := fun b hb hb2 => World.heap_setCells_other _ _ _ _ hb2 hb
  obtain ⟨c', hc', hs'⟩ := row_setCells d.cells.toList (k * 11) w9 cur hcur9
  refine ⟨k + 1, ds ++ [d], hk, by simp, by simp [hds], below_setCells hWg _ _ _ (hB.trans (h9.mono hB.size)), by rw [size_setCells']; exact hg9, ⟨c', hc', hs'.trans hcs⟩, fun i hi => ?_, ?_⟩
  · rw [size_setCells']
    by_cases hik : i < k
    · have hi' : i < ds.length := by omega
      rw [List.getElem_append_left hi']
      obtain ⟨q1, q2, q3, q4, q5⟩ := hc i hi'
      refine ⟨?_, MD.In.other hoth n _ (q2.later (Nat.le_refl _) h9) q3, q3, Good.mono (Nat.le_refl _) h9.size n _ (Good.same (fun b hb1 hb2 => (hoth b (by omega) (Nat.lt_of_lt_of_le hb2 h9.size)).trans (h9.block b hb2)) n _ q4), fun hmk => Marks.aloft (fun b hb1 hb2 => (hoth b (by omega) (Nat.lt_of_lt_of_le hb2 h9.size)).trans (h9.block b hb2)) n _ (q5 hmk) q3⟩
      rw [rangeAt_cells]
      refine World.rangeAt_setCells_apart (rangeAt_cells.1 (q1.below hg h9)) _ _ _ (.inr (.inl ?_))
      show i * 11 + 11 ≤ k * 11
      omega
    · obtain rfl : i = ds.length := by simp at hi; omega
      rw [List.getElem_append_right (Nat.le_refl _)]
      simp only [Nat.sub_self, List.getElem_cons_zero]
      have hda' := MD.Above.mono (show g + 1 ≤ wr.heap.size from hg) n d hda
      refine ⟨?_, MD.In.other hoth n _ hd hda', hda', Good.mono hg (Nat.le_refl _) n _ (Good.same (fun b hb1 hb2 => hoth b (by omega) hb2) n _ hdg), fun hmk => Marks.aloft (fun b hb1 hb2 => hoth b (by omega) hb2) n _ (hdm hmk) hda'⟩
      rw [rangeAt_cells, hds]
      refine World.rangeAt_setCells_same _ _ _ _ (there_part hth9 ?_)
      show k * 11 + 11 ≤ _
      omega
  · rw [all2_snoc' _ _ _ _ hk hds, ha, hs]; rfl
/-- A copy in memory of its own. -/
def CopyG (n : Nat) (d : MD) (w : World) (r : Ending) (w' : World) : Prop := ∃ d' : MD, r = .returned d'.val ∧ MD.In w'.heap.size w' n d' ∧ MD.Above w.heap.size n d' ∧ MD.same n d d' = true ∧ Below w.heap.size w w' ∧ Good w.heap.size w'.heap.size w' n d'
end Go.Proofs.YtflonmlnedkmjaaDoor
