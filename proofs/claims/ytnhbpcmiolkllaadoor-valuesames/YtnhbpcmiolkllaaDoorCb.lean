/-
  The document's copy of a datum.
-/
import Derived.Test.YtnhbpcmiolkllaaDoorCa
import Derived.WalkSpells
import Derived.OwnWalk
namespace Go.Proofs.YtnhbpcmiolkllaaDoor
open Go.RowKit
attribute [local go_sem] refold2 cell3_0 cell3_1 b28_0 b28_01

def CopyP (n : Nat) (d : MD) (w : World) (r : Ending) (w' : World) : Prop := ∃ d' : MD, r = .returned d'.val ∧ MD.In w'.heap.size w' n d' ∧ MD.Above w.heap.size n d' ∧ MD.same n d d' = true ∧ Below w.heap.size w w'
def CopyC (n : Nat) : Prop := ∀ (d : MD) (w : World), MD.In w.heap.size w n d → MD.wd n d ≤ 5000 → Calls Tryd.prog 28 #[d.val] w (CopyP n d w)

theorem nz26 (a : Option Addr) (n c : Nat) (W : World) : (binOp .neq 26 (.slice a n c) (.slice none 0 0)).run Tryd.prog W = .ok (.bool a.isSome) W := (run_neq_slice_nil_any W 26 28 a n c 0 0 Tryd.underlying26).trans (by cases a <;> rfl)
theorem nz23 (a : Option Addr) (n c : Nat) (W : World) : (binOp .neq 23 (.slice a n c) (.slice none 0 0)).run Tryd.prog W = .ok (.bool a.isSome) W := (run_neq_slice_nil_any W 23 3 a n c 0 0 Tryd.underlying23).trans (by cases a <;> rfl)
attribute [local go_sem] nz26 nz23
/-- Put together. -/
theorem copy_done {n : Nat} {w F : World} {k : Int} {t : ByteArray} {a f : Int} {s : ByteArray} {r0 r1 r2 r3 : Int} {pp : Option Addr} {path : List Int} {pc : Nat} {ip : Option Addr} {ic : Nat} {items : List MD} (pp2 : Option Addr) (pc2 : Nat) (ip2 : Option Addr) (ic2 : Nat) (items2 : List MD)
    (hB : Below w.heap.size w F) (hF : MD.Fine ⟨k, t, a, f, s, r0, r1, r2, r3, pp, path, pc⟩) (hb : ∀ x ∈ path, -9223372036854775808 ≤ x ∧ x ≤ 9223372036854775807) (hp1 : path.length ≤ pc2) (hp2 : pc2 ≤ maxLen)
    (hP : (path = [] ∨ ∃ b o, pp2 = some ⟨b, o, none⟩ ∧ b < F.heap.size ∧ ∀ (i : Nat) (hi : i < path.length), F.cell? ⟨b, o + i, none⟩ = some (.int .i64 path[i])) ∧ ∀ b o, pp2 = some ⟨b, o, none⟩ → w.heap.size ≤ b)
    (hil : items2.length = items.length) (hi1 : items.length ≤ ic2) (hi2 : ic2 ≤ maxLen)
    (hI : items2 = [] ∨ ∃ b o, ip2 = some ⟨b, o, none⟩ ∧ b < F.heap.size ∧ ∀ (i : Nat) (hi : i < items2.length), MD.CellsAt F b (o + i * 11) items2[i] ∧ MD.In F.heap.size F n items2[i])
    (hA : (∀ b o, ip2 = some ⟨b, o, none⟩ → w.heap.size ≤ b) ∧ ∀ x ∈ items2, MD.Above w.heap.size n x) (hs : all2 (MD.same n) items items2 = true) :
    CopyP (n + 1) ⟨⟨k, t, a, f, s, r0, r1, r2, r3, pp, path, pc⟩, ip, ic, items⟩ w (.returned (.agg #[.int .i64 k, .string t, .int .i64 a, .int .u64 f, .string s, .int .i64 r0, .int .i64 r1, .int .i64 r2, .int .i64 r3, .slice pp2 path.length pc2, .slice ip2 items.length ic2])) F := by
  refine ⟨⟨⟨k, t, a, f, s, r0, r1, r2, r3, pp2, path, pc2⟩, ip2, ic2, items2⟩, ?_, ⟨⟨hF.k0, hF.k1, hF.n0, hF.n1, hF.f0, hF.f1, hF.o0, hF.o1, hF.a0, hF.a1, hF.b0, hF.b1, hF.c0, hF.c1, hF.t0, hF.s0, hp1, hp2⟩, ⟨hb, hP.1⟩, by rw [hil]; exact hi1, hi2, hI⟩, ⟨hP.2, hA.1, hA.2⟩, ?_, hB⟩
  · simp only [MD.val, D]; rw [hil]
  · show (sameH _ _ _ _ && _ && _) = true
    have e1 : sameH ⟨k, t, a, f, s, r0, r1, r2, r3, pp, path, pc⟩ ⟨k, t, a, f, s, r0, r1, r2, r3, pp2, path, pc2⟩ items.length items2.length = true := decide_eq_true ⟨rfl, rfl, rfl, rfl, rfl, rfl, rfl, rfl, rfl, rfl, hil.symm⟩
    rw [e1, hs, decide_eq_true (show path = path from rfl)]; rfl

/-- The answer's own row. -/
theorem st_res {w : World} {g : Nat} (k : Int) (t : ByteArray) (a f : Int) (s : ByteArray) (r0 r1 r2 r3 : Int) (pp : Option Addr) (m c : Nat) (ip : Option Addr) (il ic : Nat) (hg : w.heap[g]? = some (.cells zeros 28 (0, 0))) :
    (storeCells ⟨g, 0, none⟩ [.int .i64 k, .string t, .int .i64 a, .int .u64 f, .string s, .int .i64 r0, .int .i64 r1, .int .i64 r2, .int .i64 r3, .slice pp m c, .slice ip il ic] 0).run Tryd.prog w = .ok () (w.setRow g #[.int .i64 k, .string t, .int .i64 a, .int .u64 f, .string s, .int .i64 r0, .int .i64 r1, .int .i64 r2, .int .i64 r3, .slice pp m c, .slice ip il ic]) := st28c w g k t a f s r0 r1 r2 r3 pp ip m c il ic hg
theorem heap_setCell_other (w : World) (g o b : Nat) (v : Value) (h : b ≠ g) : (w.setCell ⟨g, o, none⟩ v).heap[b]? = w.heap[b]? := by
  have := World.heap_setCells_other w g o [v] (i := b)
  by_cases hb : b < w.heap.size
  · exact this hb h
  · rw [Array.getElem?_eq_none (by simp; omega), Array.getElem?_eq_none (by omega)]
theorem numsOf (path : List Int) : ∀ u ∈ path.map (Value.int .i64), u.oneCell' = true := by
  intro u hu
  obtain ⟨z, _, rfl⟩ := List.mem_map.1 hu
  rfl

set_option maxRecDepth 100000 in
set_option maxHeartbeats 4000000 in
theorem copied_nn (n : Nat) (k : Int) (t : ByteArray) (a f : Int) (s : ByteArray) (r0 r1 r2 r3 : Int) (path : List Int) (pc : Nat) (ic : Nat) (items : List MD) (w : World)
    (hin : MD.In w.heap.size w (n + 1) ⟨⟨k, t, a, f, s, r0, r1, r2, r3, none, path, pc⟩, none, ic, items⟩) (hw : MD.wd (n + 1) ⟨⟨k, t, a, f, s, r0, r1, r2, r3, none, path, pc⟩, none, ic, items⟩ ≤ 5000) :
    Calls Tryd.prog 28 #[.agg #[.int .i64 k, .string t, .int .i64 a, .int .u64 f, .string s, .int .i64 r0, .int .i64 r1, .int .i64 r2, .int .i64 r3, .slice none path.length pc, .slice none items.length ic]] w (CopyP (n + 1) ⟨⟨k, t, a, f, s, r0, r1, r2, r3, none, path, pc⟩, none, ic, items⟩ w) := by
  have hF := hin.fine
  have hP := hin.path
  have hlen := hin.len
  have hits := hin.items
  have hwd : 1 + path.length + (items.map (MD.wd n)).sum ≤ 5000 := hw
  have hpl : path.length ≤ 5000 := by omega
  clear hin hw
  obtain ⟨W2, hW2⟩ : ∃ W2, W2 = (w.alloc (.cells #[.int .i64 k, .string t, .int .i64 a, .int .u64 f, .string s, .int .i64 r0, .int .i64 r1, .int .i64 r2, .int .i64 r3, .slice none path.length pc, .slice none items.length ic] 28)).alloc (.cells #[.int .i64 0, .string ⟨#[]⟩, .int .i64 0, .int .u64 0, .string ⟨#[]⟩, .int .i64 0, .int .i64 0, .int .i64 0, .int .i64 0, .slice none 0 0, .slice none 0 0] 28) := ⟨_, rfl⟩
  have hB2 : Below w.heap.size w W2 := by rw [hW2]; exact below2 _ _ _
  have hz2 : W2.heap.size = w.heap.size + 2 := by rw [hW2]; simp
  have HK : Hid (∀ W, Below W2.heap.size W2 W → Below w.heap.size w W ∧ W.heap[w.heap.size]? = some (.cells #[.int .i64 k, .string t, .int .i64 a, .int .u64 f, .string s, .int .i64 r0, .int .i64 r1, .int .i64 r2, .int .i64 r3, .slice none path.length pc, .slice none items.length ic] 28 (0, 0)) ∧ W.heap[w.heap.size + 1]? = some (.cells zeros 28 (0, 0))) := fun W hW =>
    ⟨hB2.trans (hW.mono (by omega)), (hW.block _ (by omega)).trans (by rw [hW2, Below.heap_alloc _ _ _ (by simp)]; exact heap_alloc_new _ _), (hW.block _ (by omega)).trans (by rw [hW2]; exact heap2_1 _ _ _)⟩
  have hpe : path = [] := by
    rcases hP.2 with e | ⟨b, o, e, _⟩
    · exact e
    · cases e
  have hie : items = [] := by
    rcases hits with e | ⟨b, o, e, _⟩
    · exact e
    · cases e
  have HD : Hid (∀ F, Below w.heap.size w F → CopyP (n + 1) ⟨⟨k, t, a, f, s, r0, r1, r2, r3, none, path, pc⟩, none, ic, items⟩ w (.returned (.agg #[.int .i64 k, .string t, .int .i64 a, .int .u64 f, .string s, .int .i64 r0, .int .i64 r1, .int .i64 r2, .int .i64 r3, .slice none path.length pc, .slice none items.length ic])) F) := fun F hB =>
    copy_done none pc none ic items hB hF hP.1 hF.pl hF.pm ⟨.inl hpe, fun _ _ e => (by cases e)⟩ rfl hlen.1 hlen.2 (.inl hie) ⟨fun _ _ e => (by cases e), fun x hx => (by rw [hie] at hx; cases hx)⟩ (by rw [hie]; rfl)
  clear hF hP hlen hits hwd hpe hie HK hB2 hz2 hW2 W2 hpl
  go_enter Tryd.func28, Tryd.ntmps28
  go_wp2_with fail
  refine bodyPost_ret (v := .agg #[.int .i64 k, .string t, .int .i64 a, .int .u64 f, .string s, .int .i64 r0, .int .i64 r1, .int .i64 r2, .int .i64 r3, .slice none path.length pc, .slice none items.length ic]) (by simp [results, Tryd.results28, go_sem]) rfl (HD.out _ (below2 _ _ _))

/-- The path's cells, wherever they are asked. -/
theorem path_cells {w : World} {pa : Addr} {path : List Int} (h : path = [] ∨ ∃ b o, some pa = some ⟨b, o, none⟩ ∧ b < w.heap.size ∧ ∀ (i : Nat) (hi : i < path.length), w.cell? ⟨b, o + i, none⟩ = some (.int .i64 path[i])) (W : World) (hW : ∀ b, b < w.heap.size → W.heap[b]? = w.heap[b]?) :
    ∀ (j : Nat) (u : Value), (path.map (Value.int .i64))[j]? = some u → W.cell? (pa.add j) = some u := by
  intro j u hu
  rw [List.getElem?_map] at hu
  obtain ⟨z, hz, rfl⟩ := Option.map_eq_some_iff.1 hu
  obtain ⟨hj, rfl⟩ := List.getElem?_eq_some_iff.1 hz
  rcases h with e | ⟨b, o, e1, e2, e3⟩
  · subst e; simp at hj
  · obtain rfl : pa = ⟨b, o, none⟩ := Option.some.inj e1
    rw [Addr.add_mid]
    exact (World.cell?_of_block (a := ⟨b, o + j, none⟩) (hW b e2)).trans (e3 j hj)
/-- What is appended to none is none, or lies in a new row. -/
theorem path_new {W w3 : World} {base : Nat} {v' : Value} {path : List Int} (hown : w3.ownsRow base 3 1 v' (0 + path.length) ([] ++ path.map (Value.int .i64))) (hgr : W.grownBy w3 (Value.slice none 0 0).ownBlock) (hnil : v' = .slice none 0 0 ↔ Value.slice none 0 0 = .slice none 0 0 ∧ path.length = 0) :
    (∃ (pp2 : Option Addr) (pc2 : Nat), v' = .slice pp2 path.length pc2 ∧ path.length ≤ pc2 ∧ pc2 ≤ maxLen ∧ (path = [] ∨ ∃ g, pp2 = some ⟨g, 0, none⟩ ∧ g < w3.heap.size ∧ base ≤ g ∧ ∀ (i : Nat) (hi : i < path.length), w3.cell? ⟨g, 0 + i, none⟩ = some (.int .i64 path[i])) ∧ ∀ b o, pp2 = some ⟨b, o, none⟩ → base ≤ b) ∧ (∀ b, b < W.heap.size → w3.heap[b]? = W.heap[b]?) ∧ W.heap.size ≤ w3.heap.size ∧ Below W.heap.size W w3 := by
  have hbel : Below W.heap.size W w3 := Below.grown (Below.refl _ _) hgr (Nat.le_refl _) (fun j hj => by simp [Value.ownBlock] at hj)
  refine ⟨?_, fun b hb => hbel.block b hb, hbel.size, hbel⟩
  rw [List.nil_append, Nat.zero_add] at hown
  by_cases h0 : path = []
  · subst h0
    obtain rfl := hnil.2 ⟨rfl, rfl⟩
    exact ⟨none, 0, rfl, Nat.le_refl _, Nat.zero_le _, .inl rfl, fun _ _ e => (by cases e)⟩
  · have hp : 0 < path.length := List.length_pos_iff.2 h0
    obtain ⟨g, cap, rfl, hg, hc, hm, hgl⟩ := own_form hown hp
    refine ⟨some ⟨g, 0, none⟩, cap, rfl, hc, hm, .inr ⟨g, rfl, hgl, hg, fun i hi => ?_⟩, fun b o e => ?_⟩
    · rw [Nat.zero_add]
      exact own_cell hown i rfl _ (by rw [List.getElem?_map, List.getElem?_eq_getElem hi]; rfl)
    · cases e; exact hg

theorem eleven_other (w3 : World) (h b : Nat) (h1 : b ≠ h) (h2 : b ≠ h + 1) (v v0 v1 v2 v3 v4 v5 v6 v7 v8 v9 v10 : Value) :
    ((((((((((((w3.setCell ⟨h, 9, none⟩ v).setCell ⟨h + 1, 0, none⟩ v0).setCell ⟨h + 1, 1, none⟩ v1).setCell ⟨h + 1, 2, none⟩ v2).setCell ⟨h + 1, 3, none⟩ v3).setCell ⟨h + 1, 4, none⟩ v4).setCell ⟨h + 1, 5, none⟩ v5).setCell ⟨h + 1, 6, none⟩ v6).setCell ⟨h + 1, 7, none⟩ v7).setCell ⟨h + 1, 8, none⟩ v8).setCell ⟨h + 1, 9, none⟩ v9).setCell ⟨h + 1, 10, none⟩ v10).heap[b]? = w3.heap[b]? := by
  rw [heap_setCell_other _ _ _ _ _ h2, heap_setCell_other _ _ _ _ _ h2, heap_setCell_other _ _ _ _ _ h2, heap_setCell_other _ _ _ _ _ h2, heap_setCell_other _ _ _ _ _ h2, heap_setCell_other _ _ _ _ _ h2, heap_setCell_other _ _ _ _ _ h2, heap_setCell_other _ _ _ _ _ h2, heap_setCell_other _ _ _ _ _ h2, heap_setCell_other _ _ _ _ _ h2, heap_setCell_other _ _ _ _ _ h2, heap_setCell_other _ _ _ _ _ h1]
/-- Stores into the boxes leave a new path as it is. -/
theorem path_kept {w w3 F : World} {path : List Int} {pp2 : Option Addr} (h : path = [] ∨ ∃ g, pp2 = some ⟨g, 0, none⟩ ∧ g < w3.heap.size ∧ w.heap.size + 2 ≤ g ∧ ∀ (i : Nat) (hi : i < path.length), w3.cell? ⟨g, 0 + i, none⟩ = some (.int .i64 path[i]))
    (hF : ∀ b, b ≠ w.heap.size → b ≠ w.heap.size + 1 → F.heap[b]? = w3.heap[b]?) (hz : F.heap.size = w3.heap.size) :
    path = [] ∨ ∃ b o2, pp2 = some ⟨b, o2, none⟩ ∧ b < F.heap.size ∧ ∀ (i : Nat) (hi : i < path.length), F.cell? ⟨b, o2 + i, none⟩ = some (.int .i64 path[i]) := by
  rcases h with e | ⟨g, e1, e2, e3, e4⟩
  · exact .inl e
  · exact .inr ⟨g, 0, e1, by omega, fun i hi => (World.cell?_of_block (a := ⟨g, 0 + i, none⟩) (hF g (by omega) (by omega))).trans (e4 i hi)⟩

set_option maxRecDepth 100000 in
set_option maxHeartbeats 4000000 in
theorem copied_ns (n : Nat) (k : Int) (t : ByteArray) (a f : Int) (s : ByteArray) (r0 r1 r2 r3 : Int) (pa : Addr) (path : List Int) (pc : Nat) (ic : Nat) (items : List MD) (w : World)
    (hin : MD.In w.heap.size w (n + 1) ⟨⟨k, t, a, f, s, r0, r1, r2, r3, (some pa), path, pc⟩, none, ic, items⟩) (hw : MD.wd (n + 1) ⟨⟨k, t, a, f, s, r0, r1, r2, r3, (some pa), path, pc⟩, none, ic, items⟩ ≤ 5000) :
    Calls Tryd.prog 28 #[.agg #[.int .i64 k, .string t, .int .i64 a, .int .u64 f, .string s, .int .i64 r0, .int .i64 r1, .int .i64 r2, .int .i64 r3, .slice (some pa) path.length pc, .slice none items.length ic]] w (CopyP (n + 1) ⟨⟨k, t, a, f, s, r0, r1, r2, r3, (some pa), path, pc⟩, none, ic, items⟩ w) := by
  have hF := hin.fine
  have hP := hin.path
  have hlen := hin.len
  have hits := hin.items
  have hwd : 1 + path.length + (items.map (MD.wd n)).sum ≤ 5000 := hw
  have hpl : path.length ≤ 5000 := by omega
  clear hin hw
  obtain ⟨W2, hW2⟩ : ∃ W2, W2 = (w.alloc (.cells #[.int .i64 k, .string t, .int .i64 a, .int .u64 f, .string s, .int .i64 r0, .int .i64 r1, .int .i64 r2, .int .i64 r3, .slice (some pa) path.length pc, .slice none items.length ic] 28)).alloc (.cells #[.int .i64 0, .string ⟨#[]⟩, .int .i64 0, .int .u64 0, .string ⟨#[]⟩, .int .i64 0, .int .i64 0, .int .i64 0, .int .i64 0, .slice none 0 0, .slice none 0 0] 28) := ⟨_, rfl⟩
  have hB2 : Below w.heap.size w W2 := by rw [hW2]; exact below2 _ _ _
  have hz2 : W2.heap.size = w.heap.size + 2 := by rw [hW2]; simp
  have HK : Hid (∀ W, Below W2.heap.size W2 W → Below w.heap.size w W ∧ W.heap[w.heap.size]? = some (.cells #[.int .i64 k, .string t, .int .i64 a, .int .u64 f, .string s, .int .i64 r0, .int .i64 r1, .int .i64 r2, .int .i64 r3, .slice (some pa) path.length pc, .slice none items.length ic] 28 (0, 0)) ∧ W.heap[w.heap.size + 1]? = some (.cells zeros 28 (0, 0))) := fun W hW =>
    ⟨hB2.trans (hW.mono (by omega)), (hW.block _ (by omega)).trans (by rw [hW2, Below.heap_alloc _ _ _ (by simp)]; exact heap_alloc_new _ _), (hW.block _ (by omega)).trans (by rw [hW2]; exact heap2_1 _ _ _)⟩
  have hie : items = [] := by
    rcases hits with e | ⟨b, o, e, _⟩
    · exact e
    · cases e
  obtain ⟨i0, hi, hz0, hz1, hz2'⟩ := info_parts info3z
  have HPC : Hid (∀ W : World, (∀ b, b < w.heap.size → W.heap[b]? = w.heap[b]?) → ∀ (j : Nat) (u : Value), (path.map (Value.int .i64))[j]? = some u → W.cell? (pa.add j) = some u) := fun W hW => path_cells hP.2 W hW
  have hWb : ∀ b, b < w.heap.size → W2.heap[b]? = w.heap[b]? := fun b hb => hB2.block b hb
  have hK2 := HK.out W2 (Below.refl _ _)
  have hc2 : ∀ j, W2.cell? ⟨w.heap.size, j, none⟩ = (#[.int .i64 k, .string t, .int .i64 a, .int .u64 f, .string s, .int .i64 r0, .int .i64 r1, .int .i64 r2, .int .i64 r3, .slice (some pa) path.length pc, .slice none items.length ic] : Array Value)[j]? := row_at hK2.2.1
  have HA : Hid (MD.Fine ⟨k, t, a, f, s, r0, r1, r2, r3, some pa, path, pc⟩ ∧ (∀ x ∈ path, -9223372036854775808 ≤ x ∧ x ≤ 9223372036854775807) ∧ (items.length ≤ ic ∧ ic ≤ maxLen) ∧ items = []) := ⟨hF, hP.1, hlen, hie⟩
  clear hF hP hlen hits hwd hie hK2
  go_enter Tryd.func28, Tryd.ntmps28
  go_wp2_with (at_builtin; rw [← hW2]; refine wpList_append_own _ rfl _ _ 23 rfl (w.heap.size + 2) 3 i0 (.int .i64 0) 1 8 Tryd.underlying23 hi hz0 hz1 hz2' rfl (by decide) _ 0 [] rfl (World.ownsRow_nil _ _ _ _) pa path.length pc (path.map (Value.int .i64)) rfl (by simp) (HPC.out W2 hWb) (numsOf path) (by unfold maxLen; omega) (by omega) (by omega) ?_; intro v' w3 hown3 hgr3 hnil3; obtain ⟨⟨pp2, pc2, rfl, hq1, hq2, hq3, hq4⟩, hold, hsz, hbel⟩ := path_new hown3 hgr3 hnil3; have hK3 := HK.out w3 hbel; have hc3 : ∀ j, w3.cell? ⟨w.heap.size, j, none⟩ = (#[.int .i64 k, .string t, .int .i64 a, .int .u64 f, .string s, .int .i64 r0, .int .i64 r1, .int .i64 r2, .int .i64 r3, .slice (some pa) path.length pc, .slice none items.length ic] : Array Value)[j]? := row_at hK3.2.1; have hf3 : ∀ j, w3.frozen? ⟨w.heap.size, j, none⟩ = false := (fun j => fz _ _ _ _ j hK3.2.1); have hr3 : ∀ j, w3.cell? ⟨w.heap.size + 1, j, none⟩ = (#[.int .i64 0, .string ⟨#[]⟩, .int .i64 0, .int .u64 0, .string ⟨#[]⟩, .int .i64 0, .int .i64 0, .int .i64 0, .int .i64 0, .slice none 0 0, .slice none 0 0] : Array Value)[j]? := row_at hK3.2.2; have hg3 : ∀ j, w3.frozen? ⟨w.heap.size + 1, j, none⟩ = false := (fun j => fz _ _ _ _ j hK3.2.2); have HG3 : Hid (Below W2.heap.size W2 w3 ∧ path.length ≤ pc2 ∧ pc2 ≤ maxLen ∧ (path = [] ∨ ∃ g, pp2 = some ⟨g, 0, none⟩ ∧ g < w3.heap.size ∧ w.heap.size + 2 ≤ g ∧ ∀ (i : Nat) (hi : i < path.length), w3.cell? ⟨g, 0 + i, none⟩ = some (.int .i64 path[i])) ∧ ∀ b o, pp2 = some ⟨b, o, none⟩ → w.heap.size + 2 ≤ b) := ⟨hbel, hq1, hq2, hq3, hq4⟩; clear hown3 hgr3 hnil3 hold hsz hbel hq1 hq2 hq3 hq4 hK3)
  refine bodyPost_ret (v := .agg #[.int .i64 k, .string t, .int .i64 a, .int .u64 f, .string s, .int .i64 r0, .int .i64 r1, .int .i64 r2, .int .i64 r3, .slice pp2 path.length pc2, .slice none items.length ic]) (by simp [results, Tryd.results28, go_sem, hr3]) rfl ?_
  obtain ⟨g1, g2, g3, g4, g5⟩ := HG3.out
  obtain ⟨q1, q2, q3, q4⟩ := HA.out
  have hB3 : Below w.heap.size w w3 := hB2.trans (g1.mono (by omega))
  refine copy_done pp2 pc2 none ic items (bset (hB3.setCell (p := ⟨w.heap.size, 9, none⟩) (Nat.le_refl _) _) (by omega) _ _ _ _ _ _ _ _ _ _ _) q1 q2 g2 g3 ⟨path_kept g4 (fun b h1 h2 => eleven_other w3 w.heap.size b h1 h2 _ _ _ _ _ _ _ _ _ _ _ _) (by simp), fun b o e => by have := g5 b o e; omega⟩ rfl q3.1 q3.2 (.inl q4) ⟨fun _ _ e => (by cases e), fun x hx => (by rw [q4] at hx; cases hx)⟩ (by rw [q4]; rfl)
end Go.Proofs.YtnhbpcmiolkllaaDoor
