/-
  Data in memory of the call's own: rows that may be written over, and what stands behind them.
  A datum is written over.
-/
import Derived.Test.YtnhbpcmiolkllaaDoorHJ
import Derived.Test.YtnhbpcmiolkllaaDoorHc2
import Derived.Test.YtnhbpcmiolkllaaDoorI
namespace Go.Proofs.YtnhbpcmiolkllaaDoor
open Go.RowKit

/-- A datum whose rows lie from lo to hi, each a row of its own kind, that may be written. -/
def Good (lo hi : Nat) (w : World) : Nat → MD → Prop
  | 0, _ => False
  | n + 1, d => (d.h.path.length ≤ d.h.pc ∧ d.h.pc ≤ maxLen) ∧ (d.items.length ≤ d.ic ∧ d.ic ≤ maxLen) ∧
    (d.h.path.length = 0 ∨ ∃ g cur, d.h.pp = some ⟨g, 0, none⟩ ∧ lo ≤ g ∧ g < hi ∧ w.heap[g]? = some (.cells cur 3 (0, 0)) ∧ d.h.path.length ≤ cur.size) ∧
    (d.items.length = 0 ∨ ∃ g cur, d.ip = some ⟨g, 0, none⟩ ∧ lo ≤ g ∧ g < hi ∧ w.heap[g]? = some (.cells cur 28 (0, 0)) ∧ d.items.length * 11 ≤ cur.size ∧ ∀ i, i < d.items.length → ∃ x, MD.CellsAt w g (i * 11) x ∧ Good lo hi w n x)
theorem Good.mono {lo hi lo' hi' : Nat} {w : World} (h1 : lo' ≤ lo) (h2 : hi ≤ hi') : ∀ (n : Nat) (d : MD), Good lo hi w n d → Good lo' hi' w n d
  | 0, _, h => h
  | n + 1, d, ⟨a, b, p, q⟩ => by
    refine ⟨a, b, ?_, ?_⟩
    · rcases p with e | ⟨g, cur, e1, e2, e3, e4, e5⟩
      · exact .inl e
      · exact .inr ⟨g, cur, e1, by omega, by omega, e4, e5⟩
    · rcases q with e | ⟨g, cur, e1, e2, e3, e4, e5, e6⟩
      · exact .inl e
      · exact .inr ⟨g, cur, e1, by omega, by omega, e4, e5, fun i hi => by
          obtain ⟨x, y1, y2⟩ := e6 i hi
          exact ⟨x, y1, Good.mono h1 h2 n x y2⟩⟩
theorem Good.same {lo hi : Nat} {w w' : World} (hh : ∀ b, lo ≤ b → b < hi → w'.heap[b]? = w.heap[b]?) : ∀ (n : Nat) (d : MD), Good lo hi w n d → Good lo hi w' n d
  | 0, _, h => h
  | n + 1, d, ⟨a, b, p, q⟩ => by
    refine ⟨a, b, ?_, ?_⟩
    · rcases p with e | ⟨g, cur, e1, e2, e3, e4, e5⟩
      · exact .inl e
      · exact .inr ⟨g, cur, e1, e2, e3, (hh g e2 e3).trans e4, e5⟩
    · rcases q with e | ⟨g, cur, e1, e2, e3, e4, e5, e6⟩
      · exact .inl e
      · exact .inr ⟨g, cur, e1, e2, e3, (hh g e2 e3).trans e4, e5, fun i hi => by
          obtain ⟨x, y1, y2⟩ := e6 i hi
          exact ⟨x, y1.other (hh g e2 e3), Good.same hh n x y2⟩⟩
/-- What is written over a datum. -/
def nine : MD := ⟨⟨-9, ⟨#[]⟩, 0, 0, ⟨#[]⟩, 0, 0, 0, 0, none, [], 0⟩, none, 0, []⟩
theorem nine_good (lo hi : Nat) (w : World) (n : Nat) : Good lo hi w (n + 1) nine := ⟨⟨Nat.le_refl _, Nat.zero_le _⟩, ⟨Nat.le_refl _, Nat.zero_le _⟩, .inl rfl, .inl rfl⟩

/-- A row stays a row. -/
theorem row_setCells {g : Nat} {t : TypeId} : ∀ (vs : List Value) (o : Nat) (w : World) (cur : Array Value), w.heap[g]? = some (.cells cur t (0, 0)) → ∃ cur', (w.setCells g o vs).heap[g]? = some (.cells cur' t (0, 0)) ∧ cur'.size = cur.size
  | [], _, _, cur, h => ⟨cur, h, rfl⟩
  | v :: r, o, w, cur, h => by
    obtain ⟨c, h1, h2⟩ := row_setCells r (o + 1) (w.setCell ⟨g, o, none⟩ v) _ (row_set h o v)
    exact ⟨c, h1, h2.trans (by simp)⟩
theorem good_path {lo hi g o : Nat} {w : World} {cur : Array Value} {v : Value} (hg : w.heap[g]? = some (.cells cur 3 (0, 0))) : ∀ (n : Nat) (d : MD), Good lo hi w n d → Good lo hi (w.setCell ⟨g, o, none⟩ v) n d
  | 0, _, h => False.elim h
  | n + 1, d, ⟨a, b, p, q⟩ => by
    refine ⟨a, b, ?_, ?_⟩
    · rcases p with e | ⟨g', c, e1, e2, e3, e4, e5⟩
      · exact .inl e
      · by_cases hgg : g' = g
        · subst hgg
          rw [hg] at e4
          obtain rfl : cur = c := by injection e4 with e4; injection e4
          exact .inr ⟨g', _, e1, e2, e3, row_set hg o v, by simpa using e5⟩
        · exact .inr ⟨g', c, e1, e2, e3, (heap_setCell_other _ _ _ _ _ hgg).trans e4, e5⟩
    · rcases q with e | ⟨g', c, e1, e2, e3, e4, e5, e6⟩
      · exact .inl e
      · have hgg : g' ≠ g := fun e => by
          subst e
          rw [hg] at e4
          injection e4 with e4
          injection e4 with _ e4
          exact absurd e4 (by decide)
        have hk := heap_setCell_other w g o g' v hgg
        exact .inr ⟨g', c, e1, e2, e3, hk.trans e4, e5, fun i hi => by
          obtain ⟨x, y1, y2⟩ := e6 i hi
          exact ⟨x, y1.other hk, good_path hg n x y2⟩⟩
theorem good_nine {lo hi g k : Nat} {w : World} {cur : Array Value} (hg : w.heap[g]? = some (.cells cur 28 (0, 0))) (hk : k * 11 + 11 ≤ cur.size) : ∀ (n : Nat) (d : MD), Good lo hi w n d → Good lo hi (w.setCells g (k * 11) nine.cells.toList) n d
  | 0, _, h => False.elim h
  | n + 1, d, ⟨a, b, p, q⟩ => by
    refine ⟨a, b, ?_, ?_⟩
    · rcases p with e | ⟨g', c, e1, e2, e3, e4, e5⟩
      · exact .inl e
      · have hgg : g' ≠ g := fun e => by
          subst e
          rw [hg] at e4
          injection e4 with e4
          injection e4 with _ e4
          exact absurd e4 (by decide)
        exact .inr ⟨g', c, e1, e2, e3, (World.heap_setCells_other _ _ _ _ (row_ltT e4) hgg).trans e4, e5⟩
    · rcases q with e | ⟨g', c, e1, e2, e3, e4, e5, e6⟩
      · exact .inl e
      · by_cases hgg : g' = g
        · subst hgg
          rw [hg] at e4
          obtain rfl : cur = c := by injection e4 with e4; injection e4
          obtain ⟨c', hc', hs'⟩ := row_setCells nine.cells.toList (k * 11) w cur hg
          refine .inr ⟨g', c', e1, e2, e3, hc', by omega, fun i hi => ?_⟩
          obtain ⟨x, y1, y2⟩ := e6 i hi
          by_cases hik : i = k
          · subst hik
            refine ⟨nine, ?_, ?_⟩
            · rw [rangeAt_cells]
              exact World.rangeAt_setCells_same _ _ _ _ (there_part (there_at hg (Nat.le_refl _)) hk)
            · cases n with
              | zero => exact y2.elim
              | succ n => exact nine_good _ _ _ n
          · refine ⟨x, ?_, good_nine hg hk n x y2⟩
            rw [rangeAt_cells]
            refine World.rangeAt_setCells_apart (rangeAt_cells.1 y1) _ _ _ ?_
            rcases Nat.lt_or_gt_of_ne hik with h | h
            · refine .inr (.inl ?_)
              show i * 11 + 11 ≤ k * 11
              omega
            · refine .inr (.inr ?_)
              show k * 11 + 11 ≤ i * 11
              omega
        · have hkk := World.heap_setCells_other w g (k * 11) nine.cells.toList (row_ltT e4) hgg
          exact .inr ⟨g', c, e1, e2, e3, hkk.trans e4, e5, fun i hi => by
            obtain ⟨x, y1, y2⟩ := e6 i hi
            exact ⟨x, y1.other hkk, good_nine hg hk n x y2⟩⟩

/-- Only rows from lo to hi have changed, and what may be written over may be so still. -/
structure Sp (lo hi : Nat) (w w' : World) : Prop where
  os : w'.os = w.os
  tape : w'.tape = w.tape
  output : w'.output = w.output
  size : w.heap.size ≤ w'.heap.size
  block : ∀ b, b < w.heap.size → b < lo ∨ hi ≤ b → w'.heap[b]? = w.heap[b]?
  good : ∀ n d, Good lo hi w n d → Good lo hi w' n d
theorem Sp.refl (lo hi : Nat) (w : World) : Sp lo hi w w := ⟨rfl, rfl, rfl, Nat.le_refl _, fun _ _ _ => rfl, fun _ _ h => h⟩
theorem Sp.trans {lo hi : Nat} {a b c : World} (h : Sp lo hi a b) (k : Sp lo hi b c) : Sp lo hi a c :=
  ⟨k.os.trans h.os, k.tape.trans h.tape, k.output.trans h.output, Nat.le_trans h.size k.size, fun i hi hh => (k.block i (Nat.lt_of_lt_of_le hi h.size) hh).trans (h.block i hi hh), fun n d hd => k.good n d (h.good n d hd)⟩
theorem Sp.below {lo hi : Nat} {w a b : World} (h : Sp lo hi w a) (hh : hi ≤ w.heap.size) (hb : Below w.heap.size a b) : Sp lo hi w b :=
  ⟨hb.os.trans h.os, hb.tape.trans h.tape, hb.output.trans h.output, Nat.le_trans h.size hb.size, fun i hi h' => (hb.block i hi).trans (h.block i hi h'), fun n d hd => Good.same (fun i _ h2 => hb.block i (by omega)) n d (h.good n d hd)⟩
theorem Sp.low {lo hi : Nat} {w w' : World} (h : Sp lo hi w w') (hl : lo ≤ w.heap.size) : Below lo w w' := ⟨h.os, h.tape, h.output, h.size, fun k hk => h.block k (by omega) (.inl hk)⟩
theorem Sp.path {lo hi g o : Nat} {w a : World} {cur : Array Value} {v : Value} (h : Sp lo hi w a) (h1 : lo ≤ g) (h2 : g < hi) (hg : a.heap[g]? = some (.cells cur 3 (0, 0))) : Sp lo hi w (a.setCell ⟨g, o, none⟩ v) :=
  h.trans ⟨rfl, rfl, rfl, by simp, fun b _ hb => heap_setCell_other _ _ _ _ _ (by omega), fun n d => good_path hg n d⟩
theorem os_setCells (g : Nat) : ∀ (vs : List Value) (o : Nat) (w : World), (w.setCells g o vs).os = w.os ∧ (w.setCells g o vs).tape = w.tape ∧ (w.setCells g o vs).output = w.output
  | [], _, _ => ⟨rfl, rfl, rfl⟩
  | v :: r, o, w => os_setCells g r (o + 1) (w.setCell ⟨g, o, none⟩ v)
theorem Sp.nine {lo hi g k : Nat} {w a : World} {cur : Array Value} (h : Sp lo hi w a) (h1 : lo ≤ g) (h2 : g < hi) (hg : a.heap[g]? = some (.cells cur 28 (0, 0))) (hk : k * 11 + 11 ≤ cur.size) : Sp lo hi w (a.setCells g (k * 11) nine.cells.toList) :=
  h.trans ⟨(os_setCells _ _ _ _).1, (os_setCells _ _ _ _).2.1, (os_setCells _ _ _ _).2.2, by rw [size_setCells']; exact Nat.le_refl _, fun b hb hb2 => World.heap_setCells_other _ _ _ _ hb (by omega), fun n d => good_nine hg hk n d⟩

/-- Two marked cells stand behind each row. -/
def Marks (w : World) : Nat → MD → Prop
  | 0, _ => True
  | n + 1, o => (o.h.pp = none ∨ ∃ g, o.h.pp = some ⟨g, 0, none⟩ ∧ o.h.pc = o.h.path.length + 2 ∧ w.cell? ⟨g, o.h.path.length, none⟩ = some (.int .i64 (-71)) ∧ w.cell? ⟨g, o.h.path.length + 1, none⟩ = some (.int .i64 (-72))) ∧
    (o.ip = none ∨ ∃ g, o.ip = some ⟨g, 0, none⟩ ∧ o.ic = o.items.length + 2 ∧ w.cell? ⟨g, o.items.length * 11, none⟩ = some (.int .i64 (-71)) ∧ w.cell? ⟨g, (o.items.length + 1) * 11, none⟩ = some (.int .i64 (-72))) ∧ ∀ x ∈ o.items, Marks w n x
theorem Marks.aloft {lo : Nat} {w w' : World} (hh : ∀ b, lo ≤ b → b < w.heap.size → w'.heap[b]? = w.heap[b]?) : ∀ (n : Nat) (d : MD), Marks w n d → MD.Above lo n d → Marks w' n d
  | 0, _, _, _ => trivial
  | n + 1, d, ⟨p, q, r⟩, ⟨a1, a2, a3⟩ => by
    refine ⟨?_, ?_, fun x hx => Marks.aloft hh n x (r x hx) (a3 x hx)⟩
    · rcases p with e | ⟨g, e1, e2, e3, e4⟩
      · exact .inl e
      · have hk := hh g (a1 _ _ e1) (block_of_cell e3)
        exact .inr ⟨g, e1, e2, (World.cell?_of_block (a := ⟨g, _, none⟩) hk).trans e3, (World.cell?_of_block (a := ⟨g, _, none⟩) hk).trans e4⟩
    · rcases q with e | ⟨g, e1, e2, e3, e4⟩
      · exact .inl e
      · have hk := hh g (a2 _ _ e1) (block_of_cell e3)
        exact .inr ⟨g, e1, e2, (World.cell?_of_block (a := ⟨g, _, none⟩) hk).trans e3, (World.cell?_of_block (a := ⟨g, _, none⟩) hk).trans e4⟩
theorem above_zero : ∀ (n : Nat) (d : MD), MD.Above 0 n d
  | 0, _ => trivial
  | n + 1, _ => ⟨fun _ _ _ => Nat.zero_le _, fun _ _ _ => Nat.zero_le _, fun x _ => above_zero n x⟩
theorem Marks.later {w w' : World} {n : Nat} {d : MD} (h : Marks w n d) (hb : Below w.heap.size w w') : Marks w' n d := Marks.aloft (lo := 0) (fun b _ h2 => hb.block b h2) n d h (above_zero n d)

/-- Rows of copies: the first k lie in row g, in memory of their own. -/
def GRel (mk : Prop) (m n : Nat) (items : List MD) (W : World) (g : Nat) (i : Value) (wr : World) : Prop :=
  ∃ (k : Nat) (ds : List MD), k ≤ items.length ∧ i = .int .i64 k ∧ ds.length = k ∧ Below W.heap.size W wr ∧ g < wr.heap.size ∧ (∃ cur, wr.heap[g]? = some (.cells cur 28 (0, 0)) ∧ cur.size = m) ∧
    (∀ (i : Nat) (hi : i < ds.length), MD.CellsAt wr g (i * 11) ds[i] ∧ MD.In wr.heap.size wr n ds[i] ∧ MD.Above (g + 1) n ds[i] ∧ Good (g + 1) wr.heap.size wr n ds[i] ∧ (mk → Marks wr n ds[i])) ∧ all2 (MD.same n) (items.take k) ds = true
theorem GRel.next {mk : Prop} {m n : Nat} {items : List MD} {W : World} {g k : Nat} {ds : List MD} {wr w9 : World} {d : MD} (hk : k < items.length) (hm : items.length * 11 ≤ m) (hds : ds.length = k) (hB : Below W.heap.size W wr) (hWg : W.heap.size ≤ g) (hg : g < wr.heap.size)
    (hrow : ∃ cur, wr.heap[g]? = some (.cells cur 28 (0, 0)) ∧ cur.size = m) (hc : ∀ (i : Nat) (hi : i < ds.length), MD.CellsAt wr g (i * 11) ds[i] ∧ MD.In wr.heap.size wr n ds[i] ∧ MD.Above (g + 1) n ds[i] ∧ Good (g + 1) wr.heap.size wr n ds[i] ∧ (mk → Marks wr n ds[i])) (ha : all2 (MD.same n) (items.take k) ds = true)
    (h9 : Below wr.heap.size wr w9) (hd : MD.In w9.heap.size w9 n d) (hda : MD.Above wr.heap.size n d) (hs : MD.same n items[k] d = true) (hdg : Good wr.heap.size w9.heap.size w9 n d) (hdm : mk → Marks w9 n d) :
    GRel mk m n items W g (.int .i64 ((k : Int) + 1)) (w9.setCells g (k * 11) d.cells.toList) := by
  obtain ⟨cur, hcur, hcs⟩ := hrow
  have hcur9 : w9.heap[g]? = some (.cells cur 28 (0, 0)) := (h9.block g hg).trans hcur
  have hth9 : w9.there g 0 m := there_at hcur9 (Nat.le_of_eq hcs.symm)
  have hg9 : g < w9.heap.size := Nat.lt_of_lt_of_le hg h9.size
  have hoth : ∀ b, b ≠ g → b < w9.heap.size → (w9.setCells g (k * 11) d.cells.toList).heap[b]? = w9.heap[b]? := fun b hb hb2 => World.heap_setCells_other _ _ _ _ hb2 hb
  obtain ⟨c', hc', hs'⟩ := row_setCells d.cells.toList (k * 11) w9 cur hcur9
  refine ⟨k + 1, ds ++ [d], hk, by simp, by simp [hds], below_setCells hWg _ _ _ (hB.trans (h9.mono hB.size)), by rw [size_setCells']; exact hg9, ⟨c', hc', hs'.trans hcs⟩, fun i hi => ?_, ?_⟩
  · rw [size_setCells']
    by_cases hik : i < k
    · have hi' : i < ds.length := by omega
      rw [List.getElem_append_left hi']
      obtain ⟨q1, q2, q3, q4, q5⟩ := hc i hi'
      refine ⟨?_, MD.In.other hoth n _ (q2.later (Nat.le_refl _) h9) q3, q3, Good.mono (Nat.le_refl _) h9.size n _ (Good.same (fun b hb1 hb2 => (hoth b (by omega) (Nat.lt_of_lt_of_le hb2 h9.size)).trans (h9.block b hb2)) n _ q4), fun hmk => Marks.aloft (fun b hb1 hb2 => (hoth b (by omega) (Nat.lt_of_lt_of_le hb2 h9.size)).trans (h9.block b hb2)) n _ (q5 hmk) q3⟩
      rw [rangeAt_cells]
      refine World.rangeAt_setCells_apart (rangeAt_cells.1 (q1.below hg h9)) _ _ _ (.inr (.inl ?_))
      show i * 11 + 11 ≤ k * 11
      omega
    · obtain rfl : i = ds.length := by simp at hi; omega
      rw [List.getElem_append_right (Nat.le_refl _)]
      simp only [Nat.sub_self, List.getElem_cons_zero]
      have hda' := MD.Above.mono (show g + 1 ≤ wr.heap.size from hg) n d hda
      refine ⟨?_, MD.In.other hoth n _ hd hda', hda', Good.mono hg (Nat.le_refl _) n _ (Good.same (fun b hb1 hb2 => hoth b (by omega) hb2) n _ hdg), fun hmk => Marks.aloft (fun b hb1 hb2 => hoth b (by omega) hb2) n _ (hdm hmk) hda'⟩
      rw [rangeAt_cells, hds]
      refine World.rangeAt_setCells_same _ _ _ _ (there_part hth9 ?_)
      show k * 11 + 11 ≤ _
      omega
  · rw [all2_snoc' _ _ _ _ hk hds, ha, hs]; rfl
/-- A copy in memory of its own. -/
def CopyG (n : Nat) (d : MD) (w : World) (r : Ending) (w' : World) : Prop := ∃ d' : MD, r = .returned d'.val ∧ MD.In w'.heap.size w' n d' ∧ MD.Above w.heap.size n d' ∧ MD.same n d d' = true ∧ Below w.heap.size w w' ∧ Good w.heap.size w'.heap.size w' n d'
end Go.Proofs.YtnhbpcmiolkllaaDoor
namespace Go.Proofs.YtnhbpcmiolkllaaDoor
open Go.RowKit
attribute [local go_sem] refold2 cell3_0 cell3_1 b28_0 b28_01

def SpoilC (n : Nat) : Prop := ∀ (lo hi : Nat) (d : MD) (w : World), hi ≤ w.heap.size → Good lo hi w n d → Calls Tryd.prog 17 #[d.val] w fun r w' => (∃ u, r = .returned u) ∧ Sp lo hi w w'
/-- The item at k, and its row. -/
theorem Good.item {lo hi n k : Nat} {w : World} {d : MD} (h : Good lo hi w (n + 1) d) (hk : k < d.items.length) : ∃ g cur, d.ip = some ⟨g, 0, none⟩ ∧ lo ≤ g ∧ g < hi ∧ w.heap[g]? = some (.cells cur 28 (0, 0)) ∧ d.items.length * 11 ≤ cur.size ∧ ∃ x, MD.CellsAt w g (k * 11) x ∧ Good lo hi w n x := by
  obtain ⟨_, _, _, q⟩ := h
  rcases q with e | ⟨g, cur, e1, e2, e3, e4, e5, e6⟩
  · omega
  · exact ⟨g, cur, e1, e2, e3, e4, e5, e6 k hk⟩
theorem Good.step {lo hi n k : Nat} {w : World} {d : MD} (h : Good lo hi w (n + 1) d) (hk : k < d.h.path.length) : ∃ g cur, d.h.pp = some ⟨g, 0, none⟩ ∧ lo ≤ g ∧ g < hi ∧ w.heap[g]? = some (.cells cur 3 (0, 0)) ∧ d.h.path.length ≤ cur.size := by
  obtain ⟨_, _, p, _⟩ := h
  rcases p with e | ⟨g, cur, e1, e2, e3, e4, e5⟩
  · omega
  · exact ⟨g, cur, e1, e2, e3, e4, e5⟩

set_option maxRecDepth 100000 in
set_option maxHeartbeats 4000000 in
theorem spoil_step (n : Nat) (hI : SpoilC n) : SpoilC (n + 1) := by
  intro lo hi d w hh hG
  have hG2 := hG
  obtain ⟨hpl, hil, -, -⟩ := hG2
  have hl1 : d.items.length ≤ 9223372036854775807 := by have := hil.1; have := hil.2; unfold maxLen at *; simp at *; omega
  have hl2 : d.h.path.length ≤ 9223372036854775807 := by have := hpl.1; have := hpl.2; unfold maxLen at *; simp at *; omega
  obtain ⟨⟨k, t, a, f, s, r0, r1, r2, r3, pp, path, pc⟩, ip, ic, items⟩ := d
  simp only at hl1 hl2
  obtain ⟨W1, hW1⟩ : ∃ W1, W1 = w.alloc (.cells #[.int .i64 k, .string t, .int .i64 a, .int .u64 f, .string s, .int .i64 r0, .int .i64 r1, .int .i64 r2, .int .i64 r3, .slice pp path.length pc, .slice ip items.length ic] 28) := ⟨_, rfl⟩
  have hB1 : Below w.heap.size w W1 := by rw [hW1]; exact below1 _ _
  have hz1 : W1.heap.size = w.heap.size + 1 := by rw [hW1]; simp
  have HS1 : Hid (Sp lo hi w W1) := (Sp.refl lo hi w).below hh hB1
  have HG1 : Hid (Good lo hi W1 (n + 1) ⟨⟨k, t, a, f, s, r0, r1, r2, r3, pp, path, pc⟩, ip, ic, items⟩) := HS1.out.good _ _ hG
  have HK : Hid (∀ W, Sp lo hi W1 W → W.heap[w.heap.size]? = some (.cells #[.int .i64 k, .string t, .int .i64 a, .int .u64 f, .string s, .int .i64 r0, .int .i64 r1, .int .i64 r2, .int .i64 r3, .slice pp path.length pc, .slice ip items.length ic] 28 (0, 0))) := fun W hW => (hW.block _ (by omega) (.inr hh)).trans (by rw [hW1]; exact heap_alloc_new _ _)
  have HI : Hid (SpoilC n) := hI
  clear hI hG hB1 hpl hil
  simp only [MD.val, D]
  go_enter Tryd.func17, Tryd.ntmps17
  go_wp2_with fail
  rw [← hW1]
  clear hW1
  go_loopw [2] (fun i wr => ∃ j : Nat, j ≤ items.length ∧ i = .int .i64 j ∧ Hid (Sp lo hi W1 wr)) (fun i _ => items.length - (intOf i).toNat)
  case atStart => exact ⟨0, Nat.zero_le _, rfl, Sp.refl _ _ _⟩
  case round =>
    obtain ⟨j, hj, rfl, HS⟩ := hrel
    have hc := row_at (HK.out wr HS.out)
    have hz := HS.out.size
    by_cases hlt : j < items.length
    · have i1 : (j : Int) < items.length := by omega
      obtain ⟨g, cur, e1, hg1, hg2, hg3, hg4, x, hC, hX⟩ := Good.item (HS.out.good _ _ HG1.out) hlt
      simp only at e1 hg4
      subst e1
      obtain ⟨⟨k0, k1, k2, k3, k4, k5, k6, k7, k8, kp, kpath, kpc⟩, kip, kic, kit⟩ := x
      have c0 : wr.cell? ⟨g, j * 11, none⟩ = some (.int .i64 k0) := hC 0 (by omega)
      have c1 : wr.cell? ⟨g, j * 11 + 1, none⟩ = some (.string k1) := hC 1 (by omega)
      have c2 : wr.cell? ⟨g, j * 11 + 2, none⟩ = some (.int .i64 k2) := hC 2 (by omega)
      have c3 : wr.cell? ⟨g, j * 11 + 3, none⟩ = some (.int .u64 k3) := hC 3 (by omega)
      have c4 : wr.cell? ⟨g, j * 11 + 4, none⟩ = some (.string k4) := hC 4 (by omega)
      have c5 : wr.cell? ⟨g, j * 11 + 5, none⟩ = some (.int .i64 k5) := hC 5 (by omega)
      have c6 : wr.cell? ⟨g, j * 11 + 6, none⟩ = some (.int .i64 k6) := hC 6 (by omega)
      have c7 : wr.cell? ⟨g, j * 11 + 7, none⟩ = some (.int .i64 k7) := hC 7 (by omega)
      have c8 : wr.cell? ⟨g, j * 11 + 8, none⟩ = some (.int .i64 k8) := hC 8 (by omega)
      have c9 : wr.cell? ⟨g, j * 11 + 9, none⟩ = some (.slice kp kpath.length kpc) := hC 9 (by omega)
      have c10 : wr.cell? ⟨g, j * 11 + 10, none⟩ = some (.slice kip kit.length kic) := hC 10 (by omega)
      have HC : Hid (Calls Tryd.prog 17 #[.agg #[.int .i64 k0, .string k1, .int .i64 k2, .int .u64 k3, .string k4, .int .i64 k5, .int .i64 k6, .int .i64 k7, .int .i64 k8, .slice kp kpath.length kpc, .slice kip kit.length kic]] wr fun r w' => (∃ u, r = .returned u) ∧ Sp lo hi wr w') := HI.out lo hi ⟨⟨k0, k1, k2, k3, k4, k5, k6, k7, k8, kp, kpath, kpc⟩, kip, kic, kit⟩ wr (by omega) hX
      have HN : Hid (∀ w9, Sp lo hi wr w9 → (∀ q, w9.cell? ⟨w.heap.size, q, none⟩ = (#[.int .i64 k, .string t, .int .i64 a, .int .u64 f, .string s, .int .i64 r0, .int .i64 r1, .int .i64 r2, .int .i64 r3, .slice pp path.length pc, .slice (some ⟨g, 0, none⟩) items.length ic] : Array Value)[q]?) ∧ w9.there g 0 (items.length * 11) ∧ Sp lo hi W1 (w9.setCells g (j * 11) nine.cells.toList)) := fun w9 h9 => by
        have h19 := HS.out.trans h9
        obtain ⟨g', cur', y1, _, _, y4, y5, _⟩ := Good.item (h19.good _ _ HG1.out) hlt
        simp only [Option.some.injEq, Addr.mk.injEq, and_true] at y1 y5
        subst y1
        exact ⟨row_at (HK.out w9 h19), there_at y4 y5, h19.nine hg1 hg2 y4 (by omega)⟩
      clear hC hX hg3 hg4 HS HI
      go_wp2_with (go_at_call 17; refine HC.out.mono ?_; rintro r w9 ⟨⟨u, rfl⟩, h9⟩; obtain ⟨hc9, hth, HR⟩ := HN.out w9 h9; have HR2 : Hid _ := HR; obtain ⟨u0, u1, u2, u3, u4, u5, u6, u7, u8, u9, u10, ⟨e0, e1, e2, e3, e4, e5, e6, e7, e8, e9, e10⟩, f0, f1, f2, f3, f4, f5, f6, f7, f8, f9, f10⟩ := old_cells hth (show j * 11 + 11 ≤ items.length * 11 by omega); clear HR hth h9)
      exact ⟨⟨j + 1, hlt, by go_num, HR2⟩, by simp [intOf]; omega⟩
    · have i1 : ¬ (j : Int) < items.length := by omega
      clear HI hlt
      go_wp2_with fail
      go_loopw [3] (fun i wr => ∃ j : Nat, j ≤ path.length ∧ i = .int .i64 j ∧ Hid (Sp lo hi W1 wr)) (fun i _ => path.length - (intOf i).toNat)
      case atStart => exact ⟨0, Nat.zero_le _, rfl, HS⟩
      case round =>
        obtain ⟨j', hj', rfl, HS'⟩ := hrel
        have hc' := row_at (HK.out wr HS'.out)
        have hz' := HS'.out.size
        by_cases hlt : j' < path.length
        · have i2 : (j' : Int) < path.length := by omega
          obtain ⟨g, cur, e1, hg1, hg2, hg3, hg4⟩ := Good.step (HS'.out.good _ _ HG1.out) hlt
          simp only at e1 hg4
          subst e1
          have HN : Hid (Sp lo hi W1 (wr.setCell ⟨g, j', none⟩ (.int .i64 (-9)))) := HS'.out.path hg1 hg2 hg3
          obtain ⟨v0, c0⟩ : ∃ v, wr.cell? ⟨g, j', none⟩ = some v := ⟨_, (row_at hg3 j').trans (Array.getElem?_eq_getElem (Nat.lt_of_lt_of_le hlt hg4))⟩
          have f0 := fz _ _ _ _ j' hg3
          clear hg3 hg4 HS' HS
          go_wp2_with fail
          exact ⟨⟨j' + 1, hlt, by go_num, HN⟩, by simp [intOf]; omega⟩
        · have i2 : ¬ (j' : Int) < path.length := by omega
          clear hlt
          go_wp2_with fail
          refine bodyPost_end (v := .tuple #[]) (results_none rfl _ _ _) rfl ⟨⟨_, rfl⟩, HS1.out.trans HS'.out⟩
theorem spoil_any : ∀ n, SpoilC n
  | 0 => fun _ _ _ _ _ h => h.elim
  | n + 1 => spoil_step n (spoil_any n)
end Go.Proofs.YtnhbpcmiolkllaaDoor
