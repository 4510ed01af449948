/-
  A datum is lent: a copy with two marked cells behind each row.
-/
import Derived.Test.YtnhbpcmiolkllaaDoorKc2J
import Derived.Laws.CopyOwn
namespace Go.Proofs.YtnhbpcmiolkllaaDoor
open Go.RowKit
attribute [local go_sem] refold2 cell3_0 cell3_1 b28_0 b28_01 nz26 nz23

def LentP (n : Nat) (d : MD) (w : World) (r : Ending) (w' : World) : Prop := ∃ d' : MD, r = .returned d'.val ∧ MD.In w'.heap.size w' n d' ∧ MD.Above w.heap.size n d' ∧ MD.same n d d' = true ∧ Below w.heap.size w w' ∧ Good w.heap.size w'.heap.size w' n d' ∧ Marks w' n d'
def LentC (n : Nat) : Prop := ∀ (d : MD) (w : World), MD.In w.heap.size w n d → MD.wd n d ≤ 5000 → Calls Tryd.prog 13 #[d.val] w (LentP n d w)
/-- A row of data of the call's own. -/
def RowsG (wr : World) (g m n : Nat) (ds : List MD) : Prop := g < wr.heap.size ∧ (∃ cur, wr.heap[g]? = some (.cells cur 28 (0, 0)) ∧ cur.size = m) ∧
  ∀ (i : Nat) (hi : i < ds.length), MD.CellsAt wr g (i * 11) ds[i] ∧ MD.In wr.heap.size wr n ds[i] ∧ MD.Above (g + 1) n ds[i] ∧ Good (g + 1) wr.heap.size wr n ds[i] ∧ Marks wr n ds[i]
theorem RowsG.kept {wr F : World} {g m n : Nat} {ds : List MD} (h : RowsG wr g m n ds) (hF : ∀ b, g ≤ b → b < wr.heap.size → F.heap[b]? = wr.heap[b]?) (hz : wr.heap.size ≤ F.heap.size) : RowsG F g m n ds := by
  obtain ⟨h1, ⟨cur, h2, h3⟩, h4⟩ := h
  refine ⟨by omega, ⟨cur, (hF g (Nat.le_refl _) h1).trans h2, h3⟩, fun i hi => ?_⟩
  obtain ⟨q1, q2, q3, q4, q5⟩ := h4 i hi
  have hF1 : ∀ b, g + 1 ≤ b → b < wr.heap.size → F.heap[b]? = wr.heap[b]? := fun b h1 h2 => hF b (by omega) h2
  exact ⟨q1.other (hF g (Nat.le_refl _) h1), MD.In.mono hz n _ (MD.In.aloft hF1 n _ q2 q3), q3, Good.mono (Nat.le_refl _) hz n _ (Good.same hF1 n _ q4), Marks.aloft hF1 n _ q5 q3⟩
theorem off_ne {g p q : Nat} (h : p ≠ q) : (⟨g, p, none⟩ : Addr) ≠ ⟨g, q, none⟩ := fun e => h (congrArg Addr.off e)
theorem cellsAt_set {w : World} {g o q : Nat} {d : MD} {v : Value} (h : MD.CellsAt w g o d) (hq : o + 11 ≤ q) : MD.CellsAt (w.setCell ⟨g, q, none⟩ v) g o d := fun j hj => by
  rw [World.cell?_setCell_other _ _ _ _ (off_ne (by omega))]; exact h j hj
theorem cellS {w : World} {g q : Nat} {cur : Array Value} {t : TypeId} {v : Value} (h : w.heap[g]? = some (.cells cur t (0, 0))) (hq : q < cur.size) : (w.setCell ⟨g, q, none⟩ v).cell? ⟨g, q, none⟩ = some v := by
  rw [row_at (row_set h q v) q, Array.getElem?_setIfInBounds_self, if_pos hq]
/-- Two marks are set behind them. -/
theorem RowsG.marks {wr F : World} {g m n p q : Nat} {ds : List MD} {u v : Value} (h : RowsG wr g m n ds) (hp : ds.length * 11 ≤ p) (hq : ds.length * 11 ≤ q) (hpm : p < m) (hqm : q < m) (hpq : p ≠ q) (hz : F.heap.size = wr.heap.size)
    (hF : ∀ b, g ≤ b → F.heap[b]? = ((wr.setCell ⟨g, p, none⟩ u).setCell ⟨g, q, none⟩ v).heap[b]?) : RowsG F g m n ds ∧ F.cell? ⟨g, p, none⟩ = some u ∧ F.cell? ⟨g, q, none⟩ = some v := by
  obtain ⟨h1, ⟨cur, h2, h3⟩, h4⟩ := h
  have r1 := row_set h2 p u
  have r2 := row_set r1 q v
  have hF1 : ∀ b, g + 1 ≤ b → b < wr.heap.size → F.heap[b]? = wr.heap[b]? := fun b b1 _ => by
    rw [hF b (by omega), heap_setCell_other _ _ _ _ _ (by omega), heap_setCell_other _ _ _ _ _ (by omega)]
  refine ⟨⟨by omega, ⟨_, (hF g (Nat.le_refl _)).trans r2, by simpa using h3⟩, fun i hi => ?_⟩, ?_, ?_⟩
  · obtain ⟨q1, q2, q3, q4, q5⟩ := h4 i hi
    refine ⟨MD.CellsAt.other (cellsAt_set (q := q) (v := v) (cellsAt_set (q := p) (v := u) q1 (by omega)) (by omega)) (hF g (Nat.le_refl _)), ?_, q3, ?_, Marks.aloft hF1 n _ q5 q3⟩
    · rw [hz]; exact MD.In.aloft hF1 n _ q2 q3
    · rw [hz]; exact Good.same hF1 n _ q4
  · refine (World.cell?_of_block (a := ⟨g, p, none⟩) (hF g (Nat.le_refl _))).trans ?_
    rw [World.cell?_setCell_other _ _ _ _ (off_ne hpq.symm)]
    exact cellS h2 (by omega)
  · exact (World.cell?_of_block (a := ⟨g, q, none⟩) (hF g (Nat.le_refl _))).trans (cellS r1 (by simp; omega))
def PathPack (lo : Nat) (F : World) (path : List Int) (pp2 : Option Addr) (pc2 : Nat) : Prop := (path = [] ∧ pp2 = none ∧ pc2 ≤ maxLen) ∨
  ∃ g cur, pp2 = some ⟨g, 0, none⟩ ∧ pc2 = path.length + 2 ∧ pc2 ≤ maxLen ∧ lo ≤ g ∧ g < F.heap.size ∧ F.heap[g]? = some (.cells cur 3 (0, 0)) ∧ cur.size = path.length + 2 ∧ (∀ (i : Nat) (hi : i < path.length), F.cell? ⟨g, 0 + i, none⟩ = some (.int .i64 path[i])) ∧ F.cell? ⟨g, path.length, none⟩ = some (.int .i64 (-71)) ∧ F.cell? ⟨g, path.length + 1, none⟩ = some (.int .i64 (-72))
def ItemPack (lo : Nat) (F : World) (n : Nat) (items ds : List MD) (ip2 : Option Addr) (ic2 : Nat) : Prop := ds.length = items.length ∧ all2 (MD.same n) items ds = true ∧ ic2 ≤ maxLen ∧ ((items = [] ∧ ip2 = none) ∨
  ∃ g m, ip2 = some ⟨g, 0, none⟩ ∧ ic2 = items.length + 2 ∧ lo ≤ g ∧ items.length * 11 ≤ m ∧ RowsG F g m n ds ∧ F.cell? ⟨g, items.length * 11, none⟩ = some (.int .i64 (-71)) ∧ F.cell? ⟨g, (items.length + 1) * 11, none⟩ = some (.int .i64 (-72)))
/-- The path's new row. -/
theorem path_pack {lo g : Nat} {w5 F : World} {path : List Int} {Y : Array Value} (h5 : w5.heap[g]? = some (.cells Y 3 (0, 0))) (hs : Y.size = path.length + 2) (ht : Y.toList.take path.length = path.map (Value.int .i64)) (hlo : lo ≤ g) (hl : path.length + 2 ≤ maxLen) (hg : g < F.heap.size)
    (hF : F.heap[g]? = ((w5.setCell ⟨g, path.length, none⟩ (.int .i64 (-71))).setCell ⟨g, path.length + 1, none⟩ (.int .i64 (-72))).heap[g]?) : PathPack lo F path (some ⟨g, 0, none⟩) (path.length + 2) := by
  have r1 := row_set h5 path.length (.int .i64 (-71))
  have r2 := row_set r1 (path.length + 1) (.int .i64 (-72))
  refine .inr ⟨g, _, rfl, rfl, hl, hlo, hg, hF.trans r2, by rw [Array.size_setIfInBounds, Array.size_setIfInBounds]; exact hs, fun i hi => ?_, ?_, ?_⟩
  · refine (World.cell?_of_block (a := ⟨g, 0 + i, none⟩) hF).trans ?_
    rw [World.cell?_setCell_other _ _ _ _ (off_ne (by omega)), World.cell?_setCell_other _ _ _ _ (off_ne (by omega)), row_at h5 (0 + i), Nat.zero_add, ← Array.getElem?_toList, ← List.getElem?_take_of_lt hi, ht, List.getElem?_map, List.getElem?_eq_getElem hi]; rfl
  · refine (World.cell?_of_block (a := ⟨g, path.length, none⟩) hF).trans ?_
    rw [World.cell?_setCell_other _ _ _ _ (off_ne (by omega))]
    exact cellS h5 (by rw [hs]; omega)
  · exact (World.cell?_of_block (a := ⟨g, path.length + 1, none⟩) hF).trans (cellS r1 (by rw [Array.size_setIfInBounds, hs]; omega))
/-- Stores into the answer's row leave all others. -/
theorem eleven_lent (w3 : World) (h b : Nat) (h2 : b ≠ h) (v0 v1 v2 v3 v4 v5 v6 v7 v8 v9 v10 : Value) :
    (((((((((((w3.setCell ⟨h, 0, none⟩ v0).setCell ⟨h, 1, none⟩ v1).setCell ⟨h, 2, none⟩ v2).setCell ⟨h, 3, none⟩ v3).setCell ⟨h, 4, none⟩ v4).setCell ⟨h, 5, none⟩ v5).setCell ⟨h, 6, none⟩ v6).setCell ⟨h, 7, none⟩ v7).setCell ⟨h, 8, none⟩ v8).setCell ⟨h, 9, none⟩ v9).setCell ⟨h, 10, none⟩ v10).heap[b]? = w3.heap[b]? := by
  rw [heap_setCell_other _ _ _ _ _ h2, heap_setCell_other _ _ _ _ _ h2, heap_setCell_other _ _ _ _ _ h2, heap_setCell_other _ _ _ _ _ h2, heap_setCell_other _ _ _ _ _ h2, heap_setCell_other _ _ _ _ _ h2, heap_setCell_other _ _ _ _ _ h2, heap_setCell_other _ _ _ _ _ h2, heap_setCell_other _ _ _ _ _ h2, heap_setCell_other _ _ _ _ _ h2, heap_setCell_other _ _ _ _ _ h2]
/-- Put together. -/
theorem lent_done {n : Nat} {w F : World} {k : Int} {t : ByteArray} {a f : Int} {s : ByteArray} {r0 r1 r2 r3 : Int} {pp : Option Addr} {path : List Int} {pc : Nat} {ip : Option Addr} {ic : Nat} {items : List MD} (pp2 : Option Addr) (pc2 : Nat) (ip2 : Option Addr) (ic2 : Nat) (ds : List MD)
    (hB : Below w.heap.size w F) (hF : MD.Fine ⟨k, t, a, f, s, r0, r1, r2, r3, pp, path, pc⟩) (hb : ∀ x ∈ path, -9223372036854775808 ≤ x ∧ x ≤ 9223372036854775807) (hP : PathPack w.heap.size F path pp2 pc2) (hI : ItemPack w.heap.size F n items ds ip2 ic2) :
    LentP (n + 1) ⟨⟨k, t, a, f, s, r0, r1, r2, r3, pp, path, pc⟩, ip, ic, items⟩ w (.returned (.agg #[.int .i64 k, .string t, .int .i64 a, .int .u64 f, .string s, .int .i64 r0, .int .i64 r1, .int .i64 r2, .int .i64 r3, .slice pp2 path.length pc2, .slice ip2 items.length ic2])) F := by
  obtain ⟨hl, hs, hm, hI⟩ := hI
  have hp : path.length ≤ pc2 ∧ pc2 ≤ maxLen := by
    rcases hP with ⟨e, _, h⟩ | ⟨g, cur, _, e, h, _⟩
    · subst e; exact ⟨Nat.zero_le _, h⟩
    · exact ⟨by omega, h⟩
  have hi : ds.length ≤ ic2 := by
    rcases hI with ⟨e, _⟩ | ⟨g, m, _, e, _⟩
    · rw [hl, e]; exact Nat.zero_le _
    · omega
  refine ⟨⟨⟨k, t, a, f, s, r0, r1, r2, r3, pp2, path, pc2⟩, ip2, ic2, ds⟩, ?_, ⟨⟨hF.k0, hF.k1, hF.n0, hF.n1, hF.f0, hF.f1, hF.o0, hF.o1, hF.a0, hF.a1, hF.b0, hF.b1, hF.c0, hF.c1, hF.t0, hF.s0, hp.1, hp.2⟩, ⟨hb, ?_⟩, hi, hm, ?_⟩, ⟨?_, ?_, ?_⟩, ?_, hB, ⟨hp, ⟨hi, hm⟩, ?_, ?_⟩, ?_, ?_, ?_⟩
  · simp only [MD.val, D]; rw [hl]
  · rcases hP with ⟨e, _⟩ | ⟨g, cur, e1, _, _, e4, e5, _, _, e8, _⟩
    · exact .inl e
    · exact .inr ⟨g, 0, e1, e5, e8⟩
  · rcases hI with ⟨e, _⟩ | ⟨g, m, e1, _, e3, _, ⟨x1, _, x3⟩, _⟩
    · exact .inl (List.eq_nil_of_length_eq_zero (by rw [hl, e]; rfl))
    · exact .inr ⟨g, 0, e1, x1, fun i hi => ⟨by rw [Nat.zero_add]; exact (x3 i hi).1, (x3 i hi).2.1⟩⟩
  · intro b o e
    rcases hP with ⟨_, e1, _⟩ | ⟨g, cur, e1, _, _, e4, _⟩
    · exact absurd (e.symm.trans e1) (by simp)
    · have := e.symm.trans e1; cases this; exact e4
  · intro b o e
    rcases hI with ⟨_, e1⟩ | ⟨g, m, e1, _, e3, _⟩
    · exact absurd (e.symm.trans e1) (by simp)
    · have := e.symm.trans e1; cases this; exact e3
  · intro x hx
    rcases hI with ⟨e, _⟩ | ⟨g, m, _, _, e3, _, ⟨_, _, x3⟩, _⟩
    · have : ds = [] := List.eq_nil_of_length_eq_zero (by rw [hl, e]; rfl)
      rw [this] at hx; cases hx
    · obtain ⟨i, hi, rfl⟩ := List.getElem_of_mem hx
      exact MD.Above.mono (by omega) n _ (x3 i hi).2.2.1
  · show (sameH _ _ _ _ && _ && _) = true
    have e1 : sameH ⟨k, t, a, f, s, r0, r1, r2, r3, pp, path, pc⟩ ⟨k, t, a, f, s, r0, r1, r2, r3, pp2, path, pc2⟩ items.length ds.length = true := decide_eq_true ⟨rfl, rfl, rfl, rfl, rfl, rfl, rfl, rfl, rfl, rfl, hl.symm⟩
    rw [e1, hs, decide_eq_true (show path = path from rfl)]; rfl
  · rcases hP with ⟨e, _⟩ | ⟨g, cur, e1, _, _, e4, e5, e6, e7, _⟩
    · exact .inl (by show path.length = 0; rw [e]; rfl)
    · exact .inr ⟨g, cur, e1, e4, e5, e6, by show path.length ≤ _; omega⟩
  · rcases hI with ⟨e, _⟩ | ⟨g, m, e1, _, e3, e4, ⟨x1, ⟨cur, y1, y2⟩, x3⟩, _⟩
    · exact .inl (by show ds.length = 0; rw [hl, e]; rfl)
    · exact .inr ⟨g, cur, e1, e3, x1, y1, by show ds.length * 11 ≤ _; omega, fun i hi => ⟨ds[i], (x3 i hi).1, Good.mono (by omega) (Nat.le_refl _) n _ (x3 i hi).2.2.2.1⟩⟩
  · rcases hP with ⟨_, e1, _⟩ | ⟨g, cur, e1, e2, _, _, _, _, _, _, e9, e10⟩
    · exact .inl e1
    · exact .inr ⟨g, e1, e2, e9, e10⟩
  · rcases hI with ⟨_, e1⟩ | ⟨g, m, e1, e2, _, _, _, e6, e7⟩
    · exact .inl e1
    · exact .inr ⟨g, e1, by show ic2 = ds.length + 2; omega, by show F.cell? ⟨g, ds.length * 11, none⟩ = _; rw [hl]; exact e6, by show F.cell? ⟨g, (ds.length + 1) * 11, none⟩ = _; rw [hl]; exact e7⟩
  · intro x hx
    rcases hI with ⟨e, _⟩ | ⟨g, m, _, _, _, _, ⟨_, _, x3⟩, _⟩
    · have : ds = [] := List.eq_nil_of_length_eq_zero (by rw [hl, e]; rfl)
      rw [this] at hx; cases hx
    · obtain ⟨i, hi, rfl⟩ := List.getElem_of_mem hx
      exact (x3 i hi).2.2.2.2
set_option maxRecDepth 100000 in
set_option maxHeartbeats 8000000 in
theorem lent_nn (n : Nat) (k : Int) (t : ByteArray) (a f : Int) (s : ByteArray) (r0 r1 r2 r3 : Int) (path : List Int) (pc : Nat) (ic : Nat) (items : List MD) (w : World)
    (hin : MD.In w.heap.size w (n + 1) ⟨⟨k, t, a, f, s, r0, r1, r2, r3, none, path, pc⟩, none, ic, items⟩) (hw : MD.wd (n + 1) ⟨⟨k, t, a, f, s, r0, r1, r2, r3, none, path, pc⟩, none, ic, items⟩ ≤ 5000) :
    Calls Tryd.prog 13 #[.agg #[.int .i64 k, .string t, .int .i64 a, .int .u64 f, .string s, .int .i64 r0, .int .i64 r1, .int .i64 r2, .int .i64 r3, .slice none path.length pc, .slice none items.length ic]] w (LentP (n + 1) ⟨⟨k, t, a, f, s, r0, r1, r2, r3, none, path, pc⟩, none, ic, items⟩ w) := by
  have hF := hin.fine
  have hP := hin.path
  have hlen := hin.len
  have hits := hin.items
  have hwd : 1 + path.length + (items.map (MD.wd n)).sum ≤ 5000 := hw
  have hpl : path.length ≤ 5000 := by omega
  have hil : items.length ≤ 5000 := by have := len_le_wd n items; omega
  clear hin hw
  obtain ⟨W2, hW2⟩ : ∃ W2, W2 = (w.alloc (.cells #[.int .i64 k, .string t, .int .i64 a, .int .u64 f, .string s, .int .i64 r0, .int .i64 r1, .int .i64 r2, .int .i64 r3, .slice none path.length pc, .slice none items.length ic] 28)).alloc (.cells #[.int .i64 0, .string ⟨#[]⟩, .int .i64 0, .int .u64 0, .string ⟨#[]⟩, .int .i64 0, .int .i64 0, .int .i64 0, .int .i64 0, .slice none 0 0, .slice none 0 0] 28) := ⟨_, rfl⟩
  have hB2 : Below w.heap.size w W2 := by rw [hW2]; exact below2 _ _ _
  have hz2 : W2.heap.size = w.heap.size + 2 := by rw [hW2]; simp
  have HK : Hid (∀ W, Below W2.heap.size W2 W → Below w.heap.size w W ∧ W.heap[w.heap.size]? = some (.cells #[.int .i64 k, .string t, .int .i64 a, .int .u64 f, .string s, .int .i64 r0, .int .i64 r1, .int .i64 r2, .int .i64 r3, .slice none path.length pc, .slice none items.length ic] 28 (0, 0)) ∧ W.heap[w.heap.size + 1]? = some (.cells zeros 28 (0, 0))) := fun W hW =>
    ⟨hB2.trans (hW.mono (by omega)), (hW.block _ (by omega)).trans (by rw [hW2, Below.heap_alloc _ _ _ (by simp)]; exact heap_alloc_new _ _), (hW.block _ (by omega)).trans (by rw [hW2]; exact heap2_1 _ _ _)⟩
  have hpe : path = [] := by
    rcases hP.2 with e | ⟨b, o, e, _⟩
    · exact e
    · cases e
  have HPP : Hid (∀ F, PathPack w.heap.size F path none pc) := fun F => .inl ⟨hpe, rfl, hF.pm⟩
  clear hpe
  have hie : items = [] := by
    rcases hits with e | ⟨b, o, e, _⟩
    · exact e
    · cases e
  have HII : Hid (∀ F, ItemPack w.heap.size F n items items none ic) := fun F => ⟨rfl, by rw [hie]; rfl, hlen.2, .inl ⟨hie, rfl⟩⟩
  clear hie
  have HA : Hid (MD.Fine ⟨k, t, a, f, s, r0, r1, r2, r3, none, path, pc⟩ ∧ (∀ x ∈ path, -9223372036854775808 ≤ x ∧ x ≤ 9223372036854775807)) := ⟨hF, hP.1⟩
  clear hF hP hlen hits hwd
  clear HK hB2 hz2 hW2 W2 hpl hil
  go_enter Tryd.func13, Tryd.ntmps13
  go_wp2_with fail
  refine bodyPost_ret (v := .agg #[.int .i64 k, .string t, .int .i64 a, .int .u64 f, .string s, .int .i64 r0, .int .i64 r1, .int .i64 r2, .int .i64 r3, .slice none path.length pc, .slice none items.length ic]) (by simp [results, Tryd.results13, go_sem]) rfl ?_
  obtain ⟨q1, q2⟩ := HA.out
  exact lent_done none pc none ic items (below2 _ _ _) q1 q2 (HPP.out _) (HII.out _)
set_option maxRecDepth 100000 in
set_option maxHeartbeats 8000000 in
theorem lent_ns (n : Nat) (k : Int) (t : ByteArray) (a f : Int) (s : ByteArray) (r0 r1 r2 r3 : Int) (pa : Addr) (path : List Int) (pc : Nat) (ic : Nat) (items : List MD) (w : World)
    (hin : MD.In w.heap.size w (n + 1) ⟨⟨k, t, a, f, s, r0, r1, r2, r3, (some pa), path, pc⟩, none, ic, items⟩) (hw : MD.wd (n + 1) ⟨⟨k, t, a, f, s, r0, r1, r2, r3, (some pa), path, pc⟩, none, ic, items⟩ ≤ 5000) :
    Calls Tryd.prog 13 #[.agg #[.int .i64 k, .string t, .int .i64 a, .int .u64 f, .string s, .int .i64 r0, .int .i64 r1, .int .i64 r2, .int .i64 r3, .slice (some pa) path.length pc, .slice none items.length ic]] w (LentP (n + 1) ⟨⟨k, t, a, f, s, r0, r1, r2, r3, (some pa), path, pc⟩, none, ic, items⟩ w) := by
  have hF := hin.fine
  have hP := hin.path
  have hlen := hin.len
  have hits := hin.items
  have hwd : 1 + path.length + (items.map (MD.wd n)).sum ≤ 5000 := hw
  have hpl : path.length ≤ 5000 := by omega
  have hil : items.length ≤ 5000 := by have := len_le_wd n items; omega
  clear hin hw
  obtain ⟨W2, hW2⟩ : ∃ W2, W2 = (w.alloc (.cells #[.int .i64 k, .string t, .int .i64 a, .int .u64 f, .string s, .int .i64 r0, .int .i64 r1, .int .i64 r2, .int .i64 r3, .slice (some pa) path.length pc, .slice none items.length ic] 28)).alloc (.cells #[.int .i64 0, .string ⟨#[]⟩, .int .i64 0, .int .u64 0, .string ⟨#[]⟩, .int .i64 0, .int .i64 0, .int .i64 0, .int .i64 0, .slice none 0 0, .slice none 0 0] 28) := ⟨_, rfl⟩
  have hB2 : Below w.heap.size w W2 := by rw [hW2]; exact below2 _ _ _
  have hz2 : W2.heap.size = w.heap.size + 2 := by rw [hW2]; simp
  have HK : Hid (∀ W, Below W2.heap.size W2 W → Below w.heap.size w W ∧ W.heap[w.heap.size]? = some (.cells #[.int .i64 k, .string t, .int .i64 a, .int .u64 f, .string s, .int .i64 r0, .int .i64 r1, .int .i64 r2, .int .i64 r3, .slice (some pa) path.length pc, .slice none items.length ic] 28 (0, 0)) ∧ W.heap[w.heap.size + 1]? = some (.cells zeros 28 (0, 0))) := fun W hW =>
    ⟨hB2.trans (hW.mono (by omega)), (hW.block _ (by omega)).trans (by rw [hW2, Below.heap_alloc _ _ _ (by simp)]; exact heap_alloc_new _ _), (hW.block _ (by omega)).trans (by rw [hW2]; exact heap2_1 _ _ _)⟩
  obtain ⟨i3, hi3, hz30, hz31, hz32⟩ := info_parts info3z
  have hinfo3 : (Tryd.prog.info? 3).map (·.size) = some 1 := by rw [hi3]; simp [hz31]
  obtain ⟨M3, hM3⟩ : ∃ M, M = madeCells (Value.int .i64 0).cells (((path.length + 2 : Nat) : Int).toNat * i3.size) := ⟨_, rfl⟩
  have hM3s : M3.size = path.length + 2 := by rw [hM3, size_madeCells, hz31]; simp; omega
  have hmk3 : ∀ W : World, (Instr.makeSlice 23 (.int .i64 ((path.length : Int) + 2)) (.int .i64 ((path.length : Int) + 2))).run Tryd.prog W = .ok (.slice (some ⟨W.heap.size, 0, none⟩) (path.length + 2) (path.length + 2)) (W.alloc (.cells M3 3)) := fun W => by
    have h := run_make (P := Tryd.prog) W 23 3 i3 (.int .i64 0) Tryd.underlying23 hi3 hz30 .i64 .i64 ((path.length + 2 : Nat) : Int) ((path.length + 2 : Nat) : Int) (by omega) (by omega) (by rw [hz32]; omega) (by omega)
    rw [← hM3, show (((path.length + 2 : Nat) : Int)).toNat = path.length + 2 by omega, show ((path.length + 2 : Nat) : Int) = (path.length : Int) + 2 by omega] at h
    exact h
  clear hM3 hi3 hz30 hz31 hz32
  have HPC : Hid (∀ W : World, (∀ b, b < w.heap.size → W.heap[b]? = w.heap[b]?) → ∀ (j : Nat) (u : Value), (path.map (Value.int .i64))[j]? = some u → W.cell? (pa.add j) = some u) := fun W hW => path_cells hP.2 W hW
  have HM3 : Hid (M3.size = path.length + 2) := hM3s
  clear hM3s
  have hie : items = [] := by
    rcases hits with e | ⟨b, o, e, _⟩
    · exact e
    · cases e
  have HII : Hid (∀ F, ItemPack w.heap.size F n items items none ic) := fun F => ⟨rfl, by rw [hie]; rfl, hlen.2, .inl ⟨hie, rfl⟩⟩
  clear hie
  have HA : Hid (MD.Fine ⟨k, t, a, f, s, r0, r1, r2, r3, (some pa), path, pc⟩ ∧ (∀ x ∈ path, -9223372036854775808 ≤ x ∧ x ≤ 9223372036854775807)) := ⟨hF, hP.1⟩
  clear hF hP hlen hits hwd
  obtain ⟨_, hXc, hRc⟩ := HK.out W2 (Below.refl _ _)
  have HXc : Hid _ := hXc
  have HRc : Hid _ := hRc
  have HBc : Hid (Below w.heap.size w W2) := hB2
  have hzc : W2.heap.size = w.heap.size + 1 + 1 := hz2
  have HG5 : ((W2.alloc (.cells M3 3)).heap[w.heap.size + 1 + 1]? = some (.cells M3 3 (0, 0))) := by
    have := heap_alloc_new W2 (.cells M3 3)
    rwa [hzc] at this
  have HB5 : Below (w.heap.size + 1 + 1) W2 (W2.alloc (.cells M3 3)) := by
    have := below1 W2 (.cells M3 3)
    rwa [hzc] at this
  have hcp := run_copy_row (P := Tryd.prog) (W2.alloc (.cells M3 3)) 23 23 3 3 (w.heap.size + 1 + 1) 0 (path.length + 2) (path.length + 2) pa path.length pc M3 3 (path.map (Value.int .i64)) Tryd.underlying23 hinfo3 HG5 (by rw [List.length_map]; exact (Nat.min_eq_left (Nat.le_add_right _ _)).symm) (HPC.out _ (fun b hb => (Below.heap_alloc _ _ _ (by omega)).trans (HBc.out.block b hb))) (by rw [List.length_map, HM3.out]; omega) (numsOf path)
  obtain ⟨Y, hY⟩ : ∃ Y, Y = (M3.toList.take 0 ++ path.map (Value.int .i64) ++ M3.toList.drop (0 + (path.map (Value.int .i64)).length)).toArray := ⟨_, rfl⟩
  rw [← hY, List.length_map] at hcp
  have HYs : Hid (Y.size = path.length + 2) := by
    show _ = _
    rw [hY]; simp; have := HM3.out; omega
  have HYt : Hid (Y.toList.take path.length = path.map (Value.int .i64)) := by
    show _ = _
    rw [hY]; simp
  obtain ⟨w5, hw5⟩ : ∃ w5, w5 = (W2.alloc (.cells M3 3)).setRow (w.heap.size + 1 + 1) Y := ⟨_, rfl⟩
  rw [← hw5] at hcp
  have h5 : w5.heap[w.heap.size + 1 + 1]? = some (.cells Y 3 (0, 0)) := by rw [hw5]; exact setRow_heap _ _ M3 _ 3 (0, 0) HG5
  have hb5 : Below (w.heap.size + 1 + 1) W2 w5 := by rw [hw5]; exact brow HB5 (Nat.le_refl _) _
  have HCP : Hid _ := hcp
  have hX5 := (hb5.block w.heap.size (by omega)).trans HXc.out
  have hR5 := (hb5.block (w.heap.size + 1) (by omega)).trans HRc.out
  have hc5 := row_at hX5
  have hf5 := fun j => fz _ _ _ _ j hX5
  have hr5 : ∀ j, w5.cell? ⟨w.heap.size + 1, j, none⟩ = (#[.int .i64 0, .string ⟨#[]⟩, .int .i64 0, .int .u64 0, .string ⟨#[]⟩, .int .i64 0, .int .i64 0, .int .i64 0, .int .i64 0, .slice none 0 0, .slice none 0 0] : Array Value)[j]? := row_at hR5
  have hrf5 := fun j => fz _ _ _ _ j hR5
  have hys := HYs.out
  obtain ⟨v1, y1⟩ : ∃ v1, w5.cell? ⟨w.heap.size + 1 + 1, path.length, none⟩ = some v1 := ⟨_, (row_at h5 _).trans (Array.getElem?_eq_getElem (by omega))⟩
  obtain ⟨v2, y2⟩ : ∃ v2, w5.cell? ⟨w.heap.size + 1 + 1, path.length + 1, none⟩ = some v2 := ⟨_, (row_at h5 _).trans (Array.getElem?_eq_getElem (by omega))⟩
  have yf := fun j => fz _ _ _ _ j h5
  have HB6 : Hid (Below (w.heap.size + 1 + 1) W2 w5) := hb5
  have hz5 : w.heap.size + 1 + 1 < w5.heap.size := row_ltT h5
  have H5 : Hid _ := h5
  clear hX5 hR5 hys hb5 h5 hw5 hY hcp HG5 HB5 HPC
  clear hXc hRc HK hB2 hil
  go_enter Tryd.func13, Tryd.ntmps13
  go_wp2_with fail
  rw [← hW2, HCP.out]
  clear HCP hW2
  go_wp2_with fail
  refine bodyPost_ret (v := .agg #[.int .i64 k, .string t, .int .i64 a, .int .u64 f, .string s, .int .i64 r0, .int .i64 r1, .int .i64 r2, .int .i64 r3, .slice (some ⟨w.heap.size + 1 + 1, 0, none⟩) path.length (path.length + 2), .slice none items.length ic]) (by simp [results, Tryd.results13, go_sem, hr5]) rfl ?_
  obtain ⟨q1, q2⟩ := HA.out
  have hB5 : Below w.heap.size w w5 := HBc.out.trans (HB6.out.mono (by omega))
  refine lent_done (some ⟨w.heap.size + 1 + 1, 0, none⟩) (path.length + 2) none ic items (bset (((hB5.setCell (p := ⟨w.heap.size + 1 + 1, path.length, none⟩) (by show _ ≤ _; simp; omega) _).setCell (p := ⟨w.heap.size + 1 + 1, path.length + 1, none⟩) (by show _ ≤ _; simp; omega) _).setCell (p := ⟨w.heap.size, 9, none⟩) (Nat.le_refl _) _) (by omega) _ _ _ _ _ _ _ _ _ _ _) q1 q2 ?_ (HII.out _)
  exact path_pack H5.out HYs.out HYt.out (by omega) (by unfold maxLen; omega) (by simp; omega) (eleven_after _ w.heap.size (w.heap.size + 1 + 1) (by omega) (by omega) 9 _ _ _ _ _ _ _ _ _ _ _ _)
set_option maxRecDepth 100000 in
set_option maxHeartbeats 8000000 in
theorem lent_sn (n : Nat) (hI : LentC n) (k : Int) (t : ByteArray) (a f : Int) (s : ByteArray) (r0 r1 r2 r3 : Int) (path : List Int) (pc : Nat) (ia : Addr) (ic : Nat) (items : List MD) (w : World)
    (hin : MD.In w.heap.size w (n + 1) ⟨⟨k, t, a, f, s, r0, r1, r2, r3, none, path, pc⟩, (some ia), ic, items⟩) (hw : MD.wd (n + 1) ⟨⟨k, t, a, f, s, r0, r1, r2, r3, none, path, pc⟩, (some ia), ic, items⟩ ≤ 5000) :
    Calls Tryd.prog 13 #[.agg #[.int .i64 k, .string t, .int .i64 a, .int .u64 f, .string s, .int .i64 r0, .int .i64 r1, .int .i64 r2, .int .i64 r3, .slice none path.length pc, .slice (some ia) items.length ic]] w (LentP (n + 1) ⟨⟨k, t, a, f, s, r0, r1, r2, r3, none, path, pc⟩, (some ia), ic, items⟩ w) := by
  have hF := hin.fine
  have hP := hin.path
  have hlen := hin.len
  have hits := hin.items
  have hwd : 1 + path.length + (items.map (MD.wd n)).sum ≤ 5000 := hw
  have hpl : path.length ≤ 5000 := by omega
  have hil : items.length ≤ 5000 := by have := len_le_wd n items; omega
  clear hin hw
  obtain ⟨W2, hW2⟩ : ∃ W2, W2 = (w.alloc (.cells #[.int .i64 k, .string t, .int .i64 a, .int .u64 f, .string s, .int .i64 r0, .int .i64 r1, .int .i64 r2, .int .i64 r3, .slice none path.length pc, .slice (some ia) items.length ic] 28)).alloc (.cells #[.int .i64 0, .string ⟨#[]⟩, .int .i64 0, .int .u64 0, .string ⟨#[]⟩, .int .i64 0, .int .i64 0, .int .i64 0, .int .i64 0, .slice none 0 0, .slice none 0 0] 28) := ⟨_, rfl⟩
  have hB2 : Below w.heap.size w W2 := by rw [hW2]; exact below2 _ _ _
  have hz2 : W2.heap.size = w.heap.size + 2 := by rw [hW2]; simp
  have HK : Hid (∀ W, Below W2.heap.size W2 W → Below w.heap.size w W ∧ W.heap[w.heap.size]? = some (.cells #[.int .i64 k, .string t, .int .i64 a, .int .u64 f, .string s, .int .i64 r0, .int .i64 r1, .int .i64 r2, .int .i64 r3, .slice none path.length pc, .slice (some ia) items.length ic] 28 (0, 0)) ∧ W.heap[w.heap.size + 1]? = some (.cells zeros 28 (0, 0))) := fun W hW =>
    ⟨hB2.trans (hW.mono (by omega)), (hW.block _ (by omega)).trans (by rw [hW2, Below.heap_alloc _ _ _ (by simp)]; exact heap_alloc_new _ _), (hW.block _ (by omega)).trans (by rw [hW2]; exact heap2_1 _ _ _)⟩
  have hpe : path = [] := by
    rcases hP.2 with e | ⟨b, o, e, _⟩
    · exact e
    · cases e
  have HPP : Hid (∀ F, PathPack w.heap.size F path none pc) := fun F => .inl ⟨hpe, rfl, hF.pm⟩
  clear hpe
  obtain ⟨j0, hj, hjz0, hjz1, hjz2⟩ := info_parts info28z
  obtain ⟨M, hM⟩ : ∃ M, M = madeCells (Value.agg zeros).cells (((items.length + 2 : Nat) : Int).toNat * j0.size) := ⟨_, rfl⟩
  have hMs : M.size = (items.length + 2) * 11 := by rw [hM, size_madeCells, hjz1]; simp; omega
  have hmk : ∀ W : World, (Instr.makeSlice 26 (.int .i64 ((items.length : Int) + 2)) (.int .i64 ((items.length : Int) + 2))).run Tryd.prog W = .ok (.slice (some ⟨W.heap.size, 0, none⟩) (items.length + 2) (items.length + 2)) (W.alloc (.cells M 28)) := fun W => by
    have h := run_make (P := Tryd.prog) W 26 28 j0 (.agg zeros) Tryd.underlying26 hj hjz0 .i64 .i64 ((items.length + 2 : Nat) : Int) ((items.length + 2 : Nat) : Int) (by omega) (by omega) (by rw [hjz2]; omega) (by omega)
    rw [← hM, show (((items.length + 2 : Nat) : Int)).toNat = items.length + 2 by omega, show ((items.length + 2 : Nat) : Int) = (items.length : Int) + 2 by omega] at h
    exact h
  clear hM hj hjz0 hjz1 hjz2
  have HIt : Hid (MD.ItemsIn w.heap.size w n ⟨⟨k, t, a, f, s, r0, r1, r2, r3, none, path, pc⟩, (some ia), ic, items⟩) := hits
  have HI : Hid (LentC n) := hI
  have HWD : Hid ((items.map (MD.wd n)).sum ≤ 5000) := by show _ ≤ _; omega
  clear hI
  have HA : Hid (MD.Fine ⟨k, t, a, f, s, r0, r1, r2, r3, none, path, pc⟩ ∧ (∀ x ∈ path, -9223372036854775808 ≤ x ∧ x ≤ 9223372036854775807)) := ⟨hF, hP.1⟩
  clear hF hP hlen hits hwd
  go_enter Tryd.func13, Tryd.ntmps13
  go_wp2_with fail
  rw [← hW2]
  clear hW2
  go_loopw [4] (fun i wr => GRel True ((items.length + 2) * 11) n items W2 (w.heap.size + 2) i wr) (fun i _ => items.length - (intOf i).toNat)
  case atStart =>
    refine ⟨0, [], Nat.zero_le _, rfl, rfl, (Below.refl _ _).alloc (Nat.le_refl _) _, by simp; omega, ⟨M, ?_, hMs⟩, fun i hi => absurd hi (by simp), rfl⟩
    rw [← hz2]; exact heap_alloc_new _ _
  case round =>
    obtain ⟨k', ds, hk, rfl, hds, hb', hg, hth, hc', ha⟩ := hrel
    obtain ⟨hb0, hbox, hres⟩ := HK.out wr hb'
    by_cases hlt : k' < items.length
    · have i1 : (k' : Int) < items.length := by omega
      have i2 : (k' : Int) < (items.length : Int) + 2 := by omega
      obtain ⟨bb, o, rfl, hbB, hC, hIn⟩ : ∃ bb o, ia = ⟨bb, o, none⟩ ∧ bb < w.heap.size ∧ MD.CellsAt wr bb (o + k' * 11) items[k'] ∧ MD.In w.heap.size wr n items[k'] := by
        rcases MD.ItemsIn.below HIt.out hb0 with e | ⟨bb, o, e1, e2, e3⟩
        · have e' : items = [] := e
          rw [e'] at hlt; simp at hlt
        · exact ⟨bb, o, Option.some.inj e1, e2, e3 k' hlt⟩
      have hcb : ∀ j, wr.cell? ⟨w.heap.size, j, none⟩ = (#[.int .i64 k, .string t, .int .i64 a, .int .u64 f, .string s, .int .i64 r0, .int .i64 r1, .int .i64 r2, .int .i64 r3, .slice none path.length pc, .slice (some ⟨bb, o, none⟩) items.length ic] : Array Value)[j]? := row_at hbox
      have HN : Hid (∀ (w9 : World) (d : MD), Below wr.heap.size wr w9 → MD.In w9.heap.size w9 n d → MD.Above wr.heap.size n d → MD.same n items[k'] d = true → Good wr.heap.size w9.heap.size w9 n d → Marks w9 n d → GRel True ((items.length + 2) * 11) n items W2 (w.heap.size + 2) (.int .i64 ((k' : Int) + 1)) (w9.setCells (w.heap.size + 2) (k' * 11) d.cells.toList)) := fun w9 d h1 h2 h3 h4 h5 h6 =>
        GRel.next (mk := True) hlt (by omega) hds hb' (by omega) hg hth hc' ha h1 h2 h3 h4 h5 (fun _ => h6)
      have HO : Hid (wr.there (w.heap.size + 2) 0 ((items.length + 2) * 11)) := by
        obtain ⟨c, x1, x2⟩ := hth
        exact there_at x1 (by omega)
      have HW : Hid (MD.wd n items[k'] ≤ 5000) := Nat.le_trans (wd_item hlt) HWD.out
      generalize items[k'] = kid at hC hIn HN HW
      obtain ⟨⟨k0, k1, k2, k3, k4, k5, k6, k7, k8, kp, kpath, kpc⟩, kip, kic, kit⟩ := kid
      have c0 : wr.cell? ⟨bb, o + k' * 11, none⟩ = some (.int .i64 k0) := hC 0 (by omega)
      have c1 : wr.cell? ⟨bb, o + k' * 11 + 1, none⟩ = some (.string k1) := hC 1 (by omega)
      have c2 : wr.cell? ⟨bb, o + k' * 11 + 2, none⟩ = some (.int .i64 k2) := hC 2 (by omega)
      have c3 : wr.cell? ⟨bb, o + k' * 11 + 3, none⟩ = some (.int .u64 k3) := hC 3 (by omega)
      have c4 : wr.cell? ⟨bb, o + k' * 11 + 4, none⟩ = some (.string k4) := hC 4 (by omega)
      have c5 : wr.cell? ⟨bb, o + k' * 11 + 5, none⟩ = some (.int .i64 k5) := hC 5 (by omega)
      have c6 : wr.cell? ⟨bb, o + k' * 11 + 6, none⟩ = some (.int .i64 k6) := hC 6 (by omega)
      have c7 : wr.cell? ⟨bb, o + k' * 11 + 7, none⟩ = some (.int .i64 k7) := hC 7 (by omega)
      have c8 : wr.cell? ⟨bb, o + k' * 11 + 8, none⟩ = some (.int .i64 k8) := hC 8 (by omega)
      have c9 : wr.cell? ⟨bb, o + k' * 11 + 9, none⟩ = some (.slice kp kpath.length kpc) := hC 9 (by omega)
      have c10 : wr.cell? ⟨bb, o + k' * 11 + 10, none⟩ = some (.slice kip kit.length kic) := hC 10 (by omega)
      have HC : Hid (Calls Tryd.prog 13 #[.agg #[.int .i64 k0, .string k1, .int .i64 k2, .int .u64 k3, .string k4, .int .i64 k5, .int .i64 k6, .int .i64 k7, .int .i64 k8, .slice kp kpath.length kpc, .slice kip kit.length kic]] wr (LentP n ⟨⟨k0, k1, k2, k3, k4, k5, k6, k7, k8, kp, kpath, kpc⟩, kip, kic, kit⟩ wr)) := HI.out ⟨⟨k0, k1, k2, k3, k4, k5, k6, k7, k8, kp, kpath, kpc⟩, kip, kic, kit⟩ wr (MD.In.mono (Nat.le_trans (Nat.le_add_right _ 2) (Nat.le_of_lt hg)) n _ hIn) HW.out
      clear hC hIn HW ha hc' hb' hbox hres hb0 hth HI
      go_wp2_with (go_at_call 13; refine HC.out.mono ?_; rintro r w9 ⟨d', rfl, hd1, hd2, hd3, hd4, hd5, hd6⟩; obtain ⟨⟨l0, l1, l2, l3, l4, l5, l6, l7, l8, lp, lpath, lpc⟩, lip, lic, lit⟩ := d'; have HR := HN.out w9 ⟨⟨l0, l1, l2, l3, l4, l5, l6, l7, l8, lp, lpath, lpc⟩, lip, lic, lit⟩ hd4 hd1 hd2 hd3 hd5 hd6; have HR2 : Hid _ := HR; obtain ⟨u0, u1, u2, u3, u4, u5, u6, u7, u8, u9, u10, ⟨e0, e1, e2, e3, e4, e5, e6, e7, e8, e9, e10⟩, f0, f1, f2, f3, f4, f5, f6, f7, f8, f9, f10⟩ := old_cells (there_below HO.out hg hd4) (show k' * 11 + 11 ≤ (items.length + 2) * 11 by omega); simp only [MD.val, D]; clear HR hd1 hd2 hd3 hd4 hd5 hd6)
      exact ⟨HR2.out, by simp [intOf]; omega⟩
    · have i1 : ¬ (k' : Int) < items.length := by omega
      obtain rfl : k' = items.length := by omega
      rw [List.take_of_length_le (Nat.le_refl _)] at ha
      have hcb : ∀ j, wr.cell? ⟨w.heap.size, j, none⟩ = (#[.int .i64 k, .string t, .int .i64 a, .int .u64 f, .string s, .int .i64 r0, .int .i64 r1, .int .i64 r2, .int .i64 r3, .slice none path.length pc, .slice (some ia) items.length ic] : Array Value)[j]? := row_at hbox
      have hfb : ∀ j, wr.frozen? ⟨w.heap.size, j, none⟩ = false := fun j => fz _ _ _ _ j hbox
      have hrc : ∀ j, wr.cell? ⟨w.heap.size + 1, j, none⟩ = (#[.int .i64 0, .string ⟨#[]⟩, .int .i64 0, .int .u64 0, .string ⟨#[]⟩, .int .i64 0, .int .i64 0, .int .i64 0, .int .i64 0, .slice none 0 0, .slice none 0 0] : Array Value)[j]? := row_at hres
      have hrf : ∀ j, wr.frozen? ⟨w.heap.size + 1, j, none⟩ = false := fun j => fz _ _ _ _ j hres
      obtain ⟨c, hrow, hcs⟩ := hth
      obtain ⟨v3, y3⟩ : ∃ v, wr.cell? ⟨w.heap.size + 2, items.length * 11, none⟩ = some v := ⟨_, (row_at hrow _).trans (Array.getElem?_eq_getElem (by omega))⟩
      obtain ⟨v4, y4⟩ : ∃ v, wr.cell? ⟨w.heap.size + 2, (items.length + 1) * 11, none⟩ = some v := ⟨_, (row_at hrow _).trans (Array.getElem?_eq_getElem (by omega))⟩
      have gf : ∀ j, wr.frozen? ⟨w.heap.size + 2, j, none⟩ = false := fun j => fz _ _ _ _ j hrow
      have HE : Hid (ds.length = items.length ∧ all2 (MD.same n) items ds = true ∧ RowsG wr (w.heap.size + 2) ((items.length + 2) * 11) n ds) := ⟨hds, ha, hg, ⟨c, hrow, hcs⟩, fun i hi => ⟨(hc' i hi).1, (hc' i hi).2.1, (hc' i hi).2.2.1, (hc' i hi).2.2.2.1, (hc' i hi).2.2.2.2 trivial⟩⟩
      obtain ⟨wm, hwm⟩ : ∃ wm, wm = (wr.setCell ⟨w.heap.size + 2, items.length * 11, none⟩ (.int .i64 (-71))).setCell ⟨w.heap.size + 2, (items.length + 1) * 11, none⟩ (.int .i64 (-72)) := ⟨_, rfl⟩
      obtain ⟨wc, hwc⟩ : ∃ wc, wc = ((wr.setCell ⟨w.heap.size + 2, items.length * 11, none⟩ (.int .i64 (-71))).setCell ⟨w.heap.size + 2, (items.length + 1) * 11, none⟩ (.int .i64 (-72))).setCell ⟨w.heap.size, 10, none⟩ (.slice (some ⟨w.heap.size + 2, 0, none⟩) items.length (items.length + 2)) := ⟨_, rfl⟩
      have hzc : wc.heap.size = wr.heap.size := by rw [hwc]; simp
      have hm2 : ∀ b, b ≠ w.heap.size + 2 → wm.heap[b]? = wr.heap[b]? := fun b hb => by rw [hwm, heap_setCell_other _ _ _ _ _ hb, heap_setCell_other _ _ _ _ _ hb]
      have HXc : Hid (wc.heap[w.heap.size]? = some (.cells #[.int .i64 k, .string t, .int .i64 a, .int .u64 f, .string s, .int .i64 r0, .int .i64 r1, .int .i64 r2, .int .i64 r3, .slice none path.length pc, .slice (some ⟨w.heap.size + 2, 0, none⟩) items.length (items.length + 2)] 28 (0, 0))) := by
        rw [hwc, ← hwm]; exact set10 ((hm2 _ (by omega)).trans hbox)
      have HRc : Hid (wc.heap[w.heap.size + 1]? = some (.cells zeros 28 (0, 0))) := by
        rw [hwc, ← hwm]; exact (heap_setCell_other _ _ _ _ _ (by omega)).trans ((hm2 _ (by omega)).trans hres)
      have HBc : Hid (Below w.heap.size w wc) := by
        rw [hwc]; exact ((hb0.setCell (p := ⟨w.heap.size + 2, items.length * 11, none⟩) (by show _ ≤ _; simp) _).setCell (p := ⟨w.heap.size + 2, (items.length + 1) * 11, none⟩) (by show _ ≤ _; simp) _).setCell (p := ⟨w.heap.size, 10, none⟩) (Nat.le_refl _) _
      have HEc : Hid (∀ F, (∀ b, w.heap.size + 2 ≤ b → b < wc.heap.size → F.heap[b]? = wc.heap[b]?) → wc.heap.size ≤ F.heap.size → ItemPack w.heap.size F n items ds (some ⟨w.heap.size + 2, 0, none⟩) (items.length + 2)) := fun F hF hzF => by
        obtain ⟨x1, x2, x3⟩ := HE.out
        obtain ⟨z1, z2, z3⟩ := RowsG.marks (F := wc) (p := items.length * 11) (q := (items.length + 1) * 11) (u := .int .i64 (-71)) (v := .int .i64 (-72)) x3 (by omega) (by omega) (by omega) (by omega) (by omega) hzc (fun b hb => by rw [hwc]; exact heap_setCell_other _ _ _ _ _ (by omega))
        have hg2 : w.heap.size + 2 < wc.heap.size := by omega
        exact ⟨x1, x2, by unfold maxLen; omega, .inr ⟨_, _, rfl, rfl, by omega, by omega, z1.kept hF hzF, (World.cell?_of_block (a := ⟨w.heap.size + 2, _, none⟩) (hF _ (Nat.le_refl _) hg2)).trans z2, (World.cell?_of_block (a := ⟨w.heap.size + 2, _, none⟩) (hF _ (Nat.le_refl _) hg2)).trans z3⟩⟩
      have j1 : (items.length : Int) < (items.length : Int) + 2 := by omega
      have j2 : (items.length : Int) + 1 < (items.length : Int) + 2 := by omega
      have hwz : w.heap.size + 2 < wr.heap.size := hg
      have hwz0 : w.heap.size < wr.heap.size := by omega
      have hwz1 : w.heap.size + 1 < wr.heap.size := by omega
      clear ha hc' hb' hbox hres hb0 HI hds hm2 hwm hrow hcs HE
      go_wp2_with fail
      refine bodyPost_ret (v := .agg #[.int .i64 k, .string t, .int .i64 a, .int .u64 f, .string s, .int .i64 r0, .int .i64 r1, .int .i64 r2, .int .i64 r3, .slice none path.length pc, .slice (some ⟨w.heap.size + 2, 0, none⟩) items.length (items.length + 2)]) (by simp [results, Tryd.results13, go_sem, hrc]) rfl ?_
      rw [← hwc]
      obtain ⟨q1, q2⟩ := HA.out
      exact lent_done none pc (some ⟨w.heap.size + 2, 0, none⟩) (items.length + 2) ds (bset HBc.out (by omega) _ _ _ _ _ _ _ _ _ _ _) q1 q2 (HPP.out _) (HEc.out _ (fun b h1 _ => eleven_lent wc (w.heap.size + 1) b (by omega) _ _ _ _ _ _ _ _ _ _ _) (by simp))
set_option maxRecDepth 100000 in
set_option maxHeartbeats 8000000 in
theorem lent_ss (n : Nat) (hI : LentC n) (k : Int) (t : ByteArray) (a f : Int) (s : ByteArray) (r0 r1 r2 r3 : Int) (pa : Addr) (path : List Int) (pc : Nat) (ia : Addr) (ic : Nat) (items : List MD) (w : World)
    (hin : MD.In w.heap.size w (n + 1) ⟨⟨k, t, a, f, s, r0, r1, r2, r3, (some pa), path, pc⟩, (some ia), ic, items⟩) (hw : MD.wd (n + 1) ⟨⟨k, t, a, f, s, r0, r1, r2, r3, (some pa), path, pc⟩, (some ia), ic, items⟩ ≤ 5000) :
    Calls Tryd.prog 13 #[.agg #[.int .i64 k, .string t, .int .i64 a, .int .u64 f, .string s, .int .i64 r0, .int .i64 r1, .int .i64 r2, .int .i64 r3, .slice (some pa) path.length pc, .slice (some ia) items.length ic]] w (LentP (n + 1) ⟨⟨k, t, a, f, s, r0, r1, r2, r3, (some pa), path, pc⟩, (some ia), ic, items⟩ w) := by
  have hF := hin.fine
  have hP := hin.path
  have hlen := hin.len
  have hits := hin.items
  have hwd : 1 + path.length + (items.map (MD.wd n)).sum ≤ 5000 := hw
  have hpl : path.length ≤ 5000 := by omega
  have hil : items.length ≤ 5000 := by have := len_le_wd n items; omega
  clear hin hw
  obtain ⟨W2, hW2⟩ : ∃ W2, W2 = (w.alloc (.cells #[.int .i64 k, .string t, .int .i64 a, .int .u64 f, .string s, .int .i64 r0, .int .i64 r1, .int .i64 r2, .int .i64 r3, .slice (some pa) path.length pc, .slice (some ia) items.length ic] 28)).alloc (.cells #[.int .i64 0, .string ⟨#[]⟩, .int .i64 0, .int .u64 0, .string ⟨#[]⟩, .int .i64 0, .int .i64 0, .int .i64 0, .int .i64 0, .slice none 0 0, .slice none 0 0] 28) := ⟨_, rfl⟩
  have hB2 : Below w.heap.size w W2 := by rw [hW2]; exact below2 _ _ _
  have hz2 : W2.heap.size = w.heap.size + 2 := by rw [hW2]; simp
  have HK : Hid (∀ W, Below W2.heap.size W2 W → Below w.heap.size w W ∧ W.heap[w.heap.size]? = some (.cells #[.int .i64 k, .string t, .int .i64 a, .int .u64 f, .string s, .int .i64 r0, .int .i64 r1, .int .i64 r2, .int .i64 r3, .slice (some pa) path.length pc, .slice (some ia) items.length ic] 28 (0, 0)) ∧ W.heap[w.heap.size + 1]? = some (.cells zeros 28 (0, 0))) := fun W hW =>
    ⟨hB2.trans (hW.mono (by omega)), (hW.block _ (by omega)).trans (by rw [hW2, Below.heap_alloc _ _ _ (by simp)]; exact heap_alloc_new _ _), (hW.block _ (by omega)).trans (by rw [hW2]; exact heap2_1 _ _ _)⟩
  obtain ⟨i3, hi3, hz30, hz31, hz32⟩ := info_parts info3z
  have hinfo3 : (Tryd.prog.info? 3).map (·.size) = some 1 := by rw [hi3]; simp [hz31]
  obtain ⟨M3, hM3⟩ : ∃ M, M = madeCells (Value.int .i64 0).cells (((path.length + 2 : Nat) : Int).toNat * i3.size) := ⟨_, rfl⟩
  have hM3s : M3.size = path.length + 2 := by rw [hM3, size_madeCells, hz31]; simp; omega
  have hmk3 : ∀ W : World, (Instr.makeSlice 23 (.int .i64 ((path.length : Int) + 2)) (.int .i64 ((path.length : Int) + 2))).run Tryd.prog W = .ok (.slice (some ⟨W.heap.size, 0, none⟩) (path.length + 2) (path.length + 2)) (W.alloc (.cells M3 3)) := fun W => by
    have h := run_make (P := Tryd.prog) W 23 3 i3 (.int .i64 0) Tryd.underlying23 hi3 hz30 .i64 .i64 ((path.length + 2 : Nat) : Int) ((path.length + 2 : Nat) : Int) (by omega) (by omega) (by rw [hz32]; omega) (by omega)
    rw [← hM3, show (((path.length + 2 : Nat) : Int)).toNat = path.length + 2 by omega, show ((path.length + 2 : Nat) : Int) = (path.length : Int) + 2 by omega] at h
    exact h
  clear hM3 hi3 hz30 hz31 hz32
  have HPC : Hid (∀ W : World, (∀ b, b < w.heap.size → W.heap[b]? = w.heap[b]?) → ∀ (j : Nat) (u : Value), (path.map (Value.int .i64))[j]? = some u → W.cell? (pa.add j) = some u) := fun W hW => path_cells hP.2 W hW
  have HM3 : Hid (M3.size = path.length + 2) := hM3s
  clear hM3s
  obtain ⟨j0, hj, hjz0, hjz1, hjz2⟩ := info_parts info28z
  obtain ⟨M, hM⟩ : ∃ M, M = madeCells (Value.agg zeros).cells (((items.length + 2 : Nat) : Int).toNat * j0.size) := ⟨_, rfl⟩
  have hMs : M.size = (items.length + 2) * 11 := by rw [hM, size_madeCells, hjz1]; simp; omega
  have hmk : ∀ W : World, (Instr.makeSlice 26 (.int .i64 ((items.length : Int) + 2)) (.int .i64 ((items.length : Int) + 2))).run Tryd.prog W = .ok (.slice (some ⟨W.heap.size, 0, none⟩) (items.length + 2) (items.length + 2)) (W.alloc (.cells M 28)) := fun W => by
    have h := run_make (P := Tryd.prog) W 26 28 j0 (.agg zeros) Tryd.underlying26 hj hjz0 .i64 .i64 ((items.length + 2 : Nat) : Int) ((items.length + 2 : Nat) : Int) (by omega) (by omega) (by rw [hjz2]; omega) (by omega)
    rw [← hM, show (((items.length + 2 : Nat) : Int)).toNat = items.length + 2 by omega, show ((items.length + 2 : Nat) : Int) = (items.length : Int) + 2 by omega] at h
    exact h
  clear hM hj hjz0 hjz1 hjz2
  have HIt : Hid (MD.ItemsIn w.heap.size w n ⟨⟨k, t, a, f, s, r0, r1, r2, r3, (some pa), path, pc⟩, (some ia), ic, items⟩) := hits
  have HI : Hid (LentC n) := hI
  have HWD : Hid ((items.map (MD.wd n)).sum ≤ 5000) := by show _ ≤ _; omega
  clear hI
  have HA : Hid (MD.Fine ⟨k, t, a, f, s, r0, r1, r2, r3, (some pa), path, pc⟩ ∧ (∀ x ∈ path, -9223372036854775808 ≤ x ∧ x ≤ 9223372036854775807)) := ⟨hF, hP.1⟩
  clear hF hP hlen hits hwd
  go_enter Tryd.func13, Tryd.ntmps13
  go_wp2_with fail
  rw [← hW2]
  clear hW2
  go_loopw [4] (fun i wr => GRel True ((items.length + 2) * 11) n items W2 (w.heap.size + 2) i wr) (fun i _ => items.length - (intOf i).toNat)
  case atStart =>
    refine ⟨0, [], Nat.zero_le _, rfl, rfl, (Below.refl _ _).alloc (Nat.le_refl _) _, by simp; omega, ⟨M, ?_, hMs⟩, fun i hi => absurd hi (by simp), rfl⟩
    rw [← hz2]; exact heap_alloc_new _ _
  case round =>
    obtain ⟨k', ds, hk, rfl, hds, hb', hg, hth, hc', ha⟩ := hrel
    obtain ⟨hb0, hbox, hres⟩ := HK.out wr hb'
    by_cases hlt : k' < items.length
    · have i1 : (k' : Int) < items.length := by omega
      have i2 : (k' : Int) < (items.length : Int) + 2 := by omega
      obtain ⟨bb, o, rfl, hbB, hC, hIn⟩ : ∃ bb o, ia = ⟨bb, o, none⟩ ∧ bb < w.heap.size ∧ MD.CellsAt wr bb (o + k' * 11) items[k'] ∧ MD.In w.heap.size wr n items[k'] := by
        rcases MD.ItemsIn.below HIt.out hb0 with e | ⟨bb, o, e1, e2, e3⟩
        · have e' : items = [] := e
          rw [e'] at hlt; simp at hlt
        · exact ⟨bb, o, Option.some.inj e1, e2, e3 k' hlt⟩
      have hcb : ∀ j, wr.cell? ⟨w.heap.size, j, none⟩ = (#[.int .i64 k, .string t, .int .i64 a, .int .u64 f, .string s, .int .i64 r0, .int .i64 r1, .int .i64 r2, .int .i64 r3, .slice (some pa) path.length pc, .slice (some ⟨bb, o, none⟩) items.length ic] : Array Value)[j]? := row_at hbox
      have HN : Hid (∀ (w9 : World) (d : MD), Below wr.heap.size wr w9 → MD.In w9.heap.size w9 n d → MD.Above wr.heap.size n d → MD.same n items[k'] d = true → Good wr.heap.size w9.heap.size w9 n d → Marks w9 n d → GRel True ((items.length + 2) * 11) n items W2 (w.heap.size + 2) (.int .i64 ((k' : Int) + 1)) (w9.setCells (w.heap.size + 2) (k' * 11) d.cells.toList)) := fun w9 d h1 h2 h3 h4 h5 h6 =>
        GRel.next (mk := True) hlt (by omega) hds hb' (by omega) hg hth hc' ha h1 h2 h3 h4 h5 (fun _ => h6)
      have HO : Hid (wr.there (w.heap.size + 2) 0 ((items.length + 2) * 11)) := by
        obtain ⟨c, x1, x2⟩ := hth
        exact there_at x1 (by omega)
      have HW : Hid (MD.wd n items[k'] ≤ 5000) := Nat.le_trans (wd_item hlt) HWD.out
      generalize items[k'] = kid at hC hIn HN HW
      obtain ⟨⟨k0, k1, k2, k3, k4, k5, k6, k7, k8, kp, kpath, kpc⟩, kip, kic, kit⟩ := kid
      have c0 : wr.cell? ⟨bb, o + k' * 11, none⟩ = some (.int .i64 k0) := hC 0 (by omega)
      have c1 : wr.cell? ⟨bb, o + k' * 11 + 1, none⟩ = some (.string k1) := hC 1 (by omega)
      have c2 : wr.cell? ⟨bb, o + k' * 11 + 2, none⟩ = some (.int .i64 k2) := hC 2 (by omega)
      have c3 : wr.cell? ⟨bb, o + k' * 11 + 3, none⟩ = some (.int .u64 k3) := hC 3 (by omega)
      have c4 : wr.cell? ⟨bb, o + k' * 11 + 4, none⟩ = some (.string k4) := hC 4 (by omega)
      have c5 : wr.cell? ⟨bb, o + k' * 11 + 5, none⟩ = some (.int .i64 k5) := hC 5 (by omega)
      have c6 : wr.cell? ⟨bb, o + k' * 11 + 6, none⟩ = some (.int .i64 k6) := hC 6 (by omega)
      have c7 : wr.cell? ⟨bb, o + k' * 11 + 7, none⟩ = some (.int .i64 k7) := hC 7 (by omega)
      have c8 : wr.cell? ⟨bb, o + k' * 11 + 8, none⟩ = some (.int .i64 k8) := hC 8 (by omega)
      have c9 : wr.cell? ⟨bb, o + k' * 11 + 9, none⟩ = some (.slice kp kpath.length kpc) := hC 9 (by omega)
      have c10 : wr.cell? ⟨bb, o + k' * 11 + 10, none⟩ = some (.slice kip kit.length kic) := hC 10 (by omega)
      have HC : Hid (Calls Tryd.prog 13 #[.agg #[.int .i64 k0, .string k1, .int .i64 k2, .int .u64 k3, .string k4, .int .i64 k5, .int .i64 k6, .int .i64 k7, .int .i64 k8, .slice kp kpath.length kpc, .slice kip kit.length kic]] wr (LentP n ⟨⟨k0, k1, k2, k3, k4, k5, k6, k7, k8, kp, kpath, kpc⟩, kip, kic, kit⟩ wr)) := HI.out ⟨⟨k0, k1, k2, k3, k4, k5, k6, k7, k8, kp, kpath, kpc⟩, kip, kic, kit⟩ wr (MD.In.mono (Nat.le_trans (Nat.le_add_right _ 2) (Nat.le_of_lt hg)) n _ hIn) HW.out
      clear hC hIn HW ha hc' hb' hbox hres hb0 hth HI
      go_wp2_with (go_at_call 13; refine HC.out.mono ?_; rintro r w9 ⟨d', rfl, hd1, hd2, hd3, hd4, hd5, hd6⟩; obtain ⟨⟨l0, l1, l2, l3, l4, l5, l6, l7, l8, lp, lpath, lpc⟩, lip, lic, lit⟩ := d'; have HR := HN.out w9 ⟨⟨l0, l1, l2, l3, l4, l5, l6, l7, l8, lp, lpath, lpc⟩, lip, lic, lit⟩ hd4 hd1 hd2 hd3 hd5 hd6; have HR2 : Hid _ := HR; obtain ⟨u0, u1, u2, u3, u4, u5, u6, u7, u8, u9, u10, ⟨e0, e1, e2, e3, e4, e5, e6, e7, e8, e9, e10⟩, f0, f1, f2, f3, f4, f5, f6, f7, f8, f9, f10⟩ := old_cells (there_below HO.out hg hd4) (show k' * 11 + 11 ≤ (items.length + 2) * 11 by omega); simp only [MD.val, D]; clear HR hd1 hd2 hd3 hd4 hd5 hd6)
      exact ⟨HR2.out, by simp [intOf]; omega⟩
    · have i1 : ¬ (k' : Int) < items.length := by omega
      obtain rfl : k' = items.length := by omega
      rw [List.take_of_length_le (Nat.le_refl _)] at ha
      have hcb : ∀ j, wr.cell? ⟨w.heap.size, j, none⟩ = (#[.int .i64 k, .string t, .int .i64 a, .int .u64 f, .string s, .int .i64 r0, .int .i64 r1, .int .i64 r2, .int .i64 r3, .slice (some pa) path.length pc, .slice (some ia) items.length ic] : Array Value)[j]? := row_at hbox
      have hfb : ∀ j, wr.frozen? ⟨w.heap.size, j, none⟩ = false := fun j => fz _ _ _ _ j hbox
      have hrc : ∀ j, wr.cell? ⟨w.heap.size + 1, j, none⟩ = (#[.int .i64 0, .string ⟨#[]⟩, .int .i64 0, .int .u64 0, .string ⟨#[]⟩, .int .i64 0, .int .i64 0, .int .i64 0, .int .i64 0, .slice none 0 0, .slice none 0 0] : Array Value)[j]? := row_at hres
      have hrf : ∀ j, wr.frozen? ⟨w.heap.size + 1, j, none⟩ = false := fun j => fz _ _ _ _ j hres
      obtain ⟨c, hrow, hcs⟩ := hth
      obtain ⟨v3, y3⟩ : ∃ v, wr.cell? ⟨w.heap.size + 2, items.length * 11, none⟩ = some v := ⟨_, (row_at hrow _).trans (Array.getElem?_eq_getElem (by omega))⟩
      obtain ⟨v4, y4⟩ : ∃ v, wr.cell? ⟨w.heap.size + 2, (items.length + 1) * 11, none⟩ = some v := ⟨_, (row_at hrow _).trans (Array.getElem?_eq_getElem (by omega))⟩
      have gf : ∀ j, wr.frozen? ⟨w.heap.size + 2, j, none⟩ = false := fun j => fz _ _ _ _ j hrow
      have HE : Hid (ds.length = items.length ∧ all2 (MD.same n) items ds = true ∧ RowsG wr (w.heap.size + 2) ((items.length + 2) * 11) n ds) := ⟨hds, ha, hg, ⟨c, hrow, hcs⟩, fun i hi => ⟨(hc' i hi).1, (hc' i hi).2.1, (hc' i hi).2.2.1, (hc' i hi).2.2.2.1, (hc' i hi).2.2.2.2 trivial⟩⟩
      obtain ⟨wm, hwm⟩ : ∃ wm, wm = (wr.setCell ⟨w.heap.size + 2, items.length * 11, none⟩ (.int .i64 (-71))).setCell ⟨w.heap.size + 2, (items.length + 1) * 11, none⟩ (.int .i64 (-72)) := ⟨_, rfl⟩
      obtain ⟨wc, hwc⟩ : ∃ wc, wc = ((wr.setCell ⟨w.heap.size + 2, items.length * 11, none⟩ (.int .i64 (-71))).setCell ⟨w.heap.size + 2, (items.length + 1) * 11, none⟩ (.int .i64 (-72))).setCell ⟨w.heap.size, 10, none⟩ (.slice (some ⟨w.heap.size + 2, 0, none⟩) items.length (items.length + 2)) := ⟨_, rfl⟩
      have hzc : wc.heap.size = wr.heap.size := by rw [hwc]; simp
      have hm2 : ∀ b, b ≠ w.heap.size + 2 → wm.heap[b]? = wr.heap[b]? := fun b hb => by rw [hwm, heap_setCell_other _ _ _ _ _ hb, heap_setCell_other _ _ _ _ _ hb]
      have HXc : Hid (wc.heap[w.heap.size]? = some (.cells #[.int .i64 k, .string t, .int .i64 a, .int .u64 f, .string s, .int .i64 r0, .int .i64 r1, .int .i64 r2, .int .i64 r3, .slice (some pa) path.length pc, .slice (some ⟨w.heap.size + 2, 0, none⟩) items.length (items.length + 2)] 28 (0, 0))) := by
        rw [hwc, ← hwm]; exact set10 ((hm2 _ (by omega)).trans hbox)
      have HRc : Hid (wc.heap[w.heap.size + 1]? = some (.cells zeros 28 (0, 0))) := by
        rw [hwc, ← hwm]; exact (heap_setCell_other _ _ _ _ _ (by omega)).trans ((hm2 _ (by omega)).trans hres)
      have HBc : Hid (Below w.heap.size w wc) := by
        rw [hwc]; exact ((hb0.setCell (p := ⟨w.heap.size + 2, items.length * 11, none⟩) (by show _ ≤ _; simp) _).setCell (p := ⟨w.heap.size + 2, (items.length + 1) * 11, none⟩) (by show _ ≤ _; simp) _).setCell (p := ⟨w.heap.size, 10, none⟩) (Nat.le_refl _) _
      have HEc : Hid (∀ F, (∀ b, w.heap.size + 2 ≤ b → b < wc.heap.size → F.heap[b]? = wc.heap[b]?) → wc.heap.size ≤ F.heap.size → ItemPack w.heap.size F n items ds (some ⟨w.heap.size + 2, 0, none⟩) (items.length + 2)) := fun F hF hzF => by
        obtain ⟨x1, x2, x3⟩ := HE.out
        obtain ⟨z1, z2, z3⟩ := RowsG.marks (F := wc) (p := items.length * 11) (q := (items.length + 1) * 11) (u := .int .i64 (-71)) (v := .int .i64 (-72)) x3 (by omega) (by omega) (by omega) (by omega) (by omega) hzc (fun b hb => by rw [hwc]; exact heap_setCell_other _ _ _ _ _ (by omega))
        have hg2 : w.heap.size + 2 < wc.heap.size := by omega
        exact ⟨x1, x2, by unfold maxLen; omega, .inr ⟨_, _, rfl, rfl, by omega, by omega, z1.kept hF hzF, (World.cell?_of_block (a := ⟨w.heap.size + 2, _, none⟩) (hF _ (Nat.le_refl _) hg2)).trans z2, (World.cell?_of_block (a := ⟨w.heap.size + 2, _, none⟩) (hF _ (Nat.le_refl _) hg2)).trans z3⟩⟩
      have j1 : (items.length : Int) < (items.length : Int) + 2 := by omega
      have j2 : (items.length : Int) + 1 < (items.length : Int) + 2 := by omega
      have hwz : w.heap.size + 2 < wr.heap.size := hg
      have hwz0 : w.heap.size < wr.heap.size := by omega
      have hwz1 : w.heap.size + 1 < wr.heap.size := by omega
      clear ha hc' hb' hbox hres hb0 HI hds hm2 hwm hrow hcs HE
      have HG5 : ((wc.alloc (.cells M3 3)).heap[wr.heap.size]? = some (.cells M3 3 (0, 0))) := by
        have := heap_alloc_new wc (.cells M3 3)
        rwa [hzc] at this
      have HB5 : Below (wr.heap.size) wc (wc.alloc (.cells M3 3)) := by
        have := below1 wc (.cells M3 3)
        rwa [hzc] at this
      have hcp := run_copy_row (P := Tryd.prog) (wc.alloc (.cells M3 3)) 23 23 3 3 (wr.heap.size) 0 (path.length + 2) (path.length + 2) pa path.length pc M3 3 (path.map (Value.int .i64)) Tryd.underlying23 hinfo3 HG5 (by rw [List.length_map]; exact (Nat.min_eq_left (Nat.le_add_right _ _)).symm) (HPC.out _ (fun b hb => (Below.heap_alloc _ _ _ (by omega)).trans (HBc.out.block b hb))) (by rw [List.length_map, HM3.out]; omega) (numsOf path)
      obtain ⟨Y, hY⟩ : ∃ Y, Y = (M3.toList.take 0 ++ path.map (Value.int .i64) ++ M3.toList.drop (0 + (path.map (Value.int .i64)).length)).toArray := ⟨_, rfl⟩
      rw [← hY, List.length_map] at hcp
      have HYs : Hid (Y.size = path.length + 2) := by
        show _ = _
        rw [hY]; simp; have := HM3.out; omega
      have HYt : Hid (Y.toList.take path.length = path.map (Value.int .i64)) := by
        show _ = _
        rw [hY]; simp
      obtain ⟨w5, hw5⟩ : ∃ w5, w5 = (wc.alloc (.cells M3 3)).setRow (wr.heap.size) Y := ⟨_, rfl⟩
      rw [← hw5] at hcp
      have h5 : w5.heap[wr.heap.size]? = some (.cells Y 3 (0, 0)) := by rw [hw5]; exact setRow_heap _ _ M3 _ 3 (0, 0) HG5
      have hb5 : Below (wr.heap.size) wc w5 := by rw [hw5]; exact brow HB5 (Nat.le_refl _) _
      have HCP : Hid _ := hcp
      have hX5 := (hb5.block w.heap.size (by omega)).trans HXc.out
      have hR5 := (hb5.block (w.heap.size + 1) (by omega)).trans HRc.out
      have hc5 := row_at hX5
      have hf5 := fun j => fz _ _ _ _ j hX5
      have hr5 : ∀ j, w5.cell? ⟨w.heap.size + 1, j, none⟩ = (#[.int .i64 0, .string ⟨#[]⟩, .int .i64 0, .int .u64 0, .string ⟨#[]⟩, .int .i64 0, .int .i64 0, .int .i64 0, .int .i64 0, .slice none 0 0, .slice none 0 0] : Array Value)[j]? := row_at hR5
      have hrf5 := fun j => fz _ _ _ _ j hR5
      have hys := HYs.out
      obtain ⟨v1, y1⟩ : ∃ v1, w5.cell? ⟨wr.heap.size, path.length, none⟩ = some v1 := ⟨_, (row_at h5 _).trans (Array.getElem?_eq_getElem (by omega))⟩
      obtain ⟨v2, y2⟩ : ∃ v2, w5.cell? ⟨wr.heap.size, path.length + 1, none⟩ = some v2 := ⟨_, (row_at h5 _).trans (Array.getElem?_eq_getElem (by omega))⟩
      have yf := fun j => fz _ _ _ _ j h5
      have HB6 : Hid (Below (wr.heap.size) wc w5) := hb5
      have hz5 : wr.heap.size < w5.heap.size := row_ltT h5
      have H5 : Hid _ := h5
      clear hX5 hR5 hys hb5 h5 hw5 hY hcp HG5 HB5 HPC
      go_wp2_with fail
      rw [← hwc, HCP.out]
      clear HCP hwc
      go_wp2_with fail
      refine bodyPost_ret (v := .agg #[.int .i64 k, .string t, .int .i64 a, .int .u64 f, .string s, .int .i64 r0, .int .i64 r1, .int .i64 r2, .int .i64 r3, .slice (some ⟨wr.heap.size, 0, none⟩) path.length (path.length + 2), .slice (some ⟨w.heap.size + 2, 0, none⟩) items.length (items.length + 2)]) (by simp [results, Tryd.results13, go_sem, hr5]) rfl ?_
      obtain ⟨q1, q2⟩ := HA.out
      have hB5 : Below w.heap.size w w5 := HBc.out.trans (HB6.out.mono (by omega))
      refine lent_done (some ⟨wr.heap.size, 0, none⟩) (path.length + 2) (some ⟨w.heap.size + 2, 0, none⟩) (items.length + 2) ds (bset (((hB5.setCell (p := ⟨wr.heap.size, path.length, none⟩) (by show _ ≤ _; simp; omega) _).setCell (p := ⟨wr.heap.size, path.length + 1, none⟩) (by show _ ≤ _; simp; omega) _).setCell (p := ⟨w.heap.size, 9, none⟩) (Nat.le_refl _) _) (by omega) _ _ _ _ _ _ _ _ _ _ _) q1 q2 ?_ (HEc.out _ (fun b h1 h2 => ?_) ?_)
      · exact path_pack H5.out HYs.out HYt.out (by omega) (by unfold maxLen; omega) (by simp; omega) (eleven_after _ w.heap.size (wr.heap.size) (by omega) (by omega) 9 _ _ _ _ _ _ _ _ _ _ _ _)
      · rw [eleven_after _ w.heap.size b (by omega) (by omega) 9 _ _ _ _ _ _ _ _ _ _ _ _, heap_setCell_other _ _ _ _ _ (by omega), heap_setCell_other _ _ _ _ _ (by omega)]
        exact HB6.out.block b (by omega)
      · have := HB6.out.size
        simp; omega
theorem lent_any : ∀ n, LentC n
  | 0 => fun _ _ h _ => h.elim
  | n + 1 => by
    intro d w hin hw
    obtain ⟨⟨k, t, a, f, s, r0, r1, r2, r3, pp, path, pc⟩, ip, ic, items⟩ := d
    cases ip with
    | none =>
      cases pp with
      | none => exact lent_nn n k t a f s r0 r1 r2 r3 path pc ic items w hin hw
      | some pa => exact lent_ns n k t a f s r0 r1 r2 r3 pa path pc ic items w hin hw
    | some ia =>
      cases pp with
      | none => exact lent_sn n (lent_any n) k t a f s r0 r1 r2 r3 path pc ia ic items w hin hw
      | some pa => exact lent_ss n (lent_any n) k t a f s r0 r1 r2 r3 pa path pc ia ic items w hin hw
end Go.Proofs.YtnhbpcmiolkllaaDoor
