/-
  The document's copy of a datum that has Items.
-/
import Derived.Test.YtnhbpcmiolkllaaDoorCb
namespace Go.Proofs.YtnhbpcmiolkllaaDoor
open Go.RowKit
attribute [local go_sem] refold2 cell3_0 cell3_1 b28_0 b28_01 nz26 nz23

theorem MD.In.aloft {B lo : Nat} {w w' : World} (hh : ∀ b, lo ≤ b → b < B → w'.heap[b]? = w.heap[b]?) : ∀ (n : Nat) (d : MD), MD.In B w n d → MD.Above lo n d → MD.In B w' n d
  | 0, _, h, _ => h
  | n + 1, d, ⟨h1, h2, h3, h4, h5⟩, ⟨a1, a2, a3⟩ => by
    refine ⟨h1, ⟨h2.1, ?_⟩, h3, h4, ?_⟩
    · rcases h2.2 with e | ⟨b, o, e1, e2, e3⟩
      · exact .inl e
      · exact .inr ⟨b, o, e1, e2, fun i hi => (World.cell?_of_block (a := ⟨b, o + i, none⟩) (hh b (a1 b o e1) e2)).trans (e3 i hi)⟩
    · rcases h5 with e | ⟨b, o, e1, e2, e3⟩
      · exact .inl e
      · exact .inr ⟨b, o, e1, e2, fun i hi => ⟨(e3 i hi).1.other (hh b (a2 b o e1) e2), MD.In.aloft hh n _ (e3 i hi).2 (a3 _ (List.getElem_mem hi))⟩⟩
theorem eleven_after (w3 : World) (h b : Nat) (h1 : b ≠ h) (h2 : b ≠ h + 1) (q : Nat) (v v0 v1 v2 v3 v4 v5 v6 v7 v8 v9 v10 : Value) :
    ((((((((((((w3.setCell ⟨h, q, none⟩ v).setCell ⟨h + 1, 0, none⟩ v0).setCell ⟨h + 1, 1, none⟩ v1).setCell ⟨h + 1, 2, none⟩ v2).setCell ⟨h + 1, 3, none⟩ v3).setCell ⟨h + 1, 4, none⟩ v4).setCell ⟨h + 1, 5, none⟩ v5).setCell ⟨h + 1, 6, none⟩ v6).setCell ⟨h + 1, 7, none⟩ v7).setCell ⟨h + 1, 8, none⟩ v8).setCell ⟨h + 1, 9, none⟩ v9).setCell ⟨h + 1, 10, none⟩ v10).heap[b]? = w3.heap[b]? := by
  rw [heap_setCell_other _ _ _ _ _ h2, heap_setCell_other _ _ _ _ _ h2, heap_setCell_other _ _ _ _ _ h2, heap_setCell_other _ _ _ _ _ h2, heap_setCell_other _ _ _ _ _ h2, heap_setCell_other _ _ _ _ _ h2, heap_setCell_other _ _ _ _ _ h2, heap_setCell_other _ _ _ _ _ h2, heap_setCell_other _ _ _ _ _ h2, heap_setCell_other _ _ _ _ _ h2, heap_setCell_other _ _ _ _ _ h2, heap_setCell_other _ _ _ _ _ h1]
/-- The copies, where only older rows have changed. -/
theorem rows_kept {n h : Nat} {ds : List MD} {wr F : World} (hc : ∀ (i : Nat) (hi : i < ds.length), MD.CellsAt wr (h + 2) (i * 11) ds[i] ∧ MD.In wr.heap.size wr n ds[i] ∧ MD.Above (h + 2 + 1) n ds[i]) (hg : h + 2 < wr.heap.size)
    (hF : ∀ b, h + 2 ≤ b → b < wr.heap.size → F.heap[b]? = wr.heap[b]?) (hz : wr.heap.size ≤ F.heap.size) :
    (ds = [] ∨ ∃ b o, some (⟨h + 2, 0, none⟩ : Addr) = some ⟨b, o, none⟩ ∧ b < F.heap.size ∧ ∀ (i : Nat) (hi : i < ds.length), MD.CellsAt F b (o + i * 11) ds[i] ∧ MD.In F.heap.size F n ds[i]) ∧ (∀ x ∈ ds, MD.Above h n x) := by
  refine ⟨.inr ⟨h + 2, 0, rfl, by omega, fun i hi => ?_⟩, fun x hx => ?_⟩
  · obtain ⟨q1, q2, q3⟩ := hc i hi
    rw [Nat.zero_add]
    exact ⟨q1.other (hF _ (Nat.le_refl _) hg), MD.In.mono hz n _ (MD.In.aloft hF n _ q2 (MD.Above.mono (by omega) n _ q3))⟩
  · obtain ⟨i, hi, rfl⟩ := List.getElem_of_mem hx
    exact MD.Above.mono (by omega) n _ (hc i hi).2.2
theorem old_cells {w : World} {g k m : Nat} (h : w.there g 0 m) (hk : k * 11 + 11 ≤ m) : ∃ u0 u1 u2 u3 u4 u5 u6 u7 u8 u9 u10 : Value, (w.cell? ⟨g, k * 11, none⟩ = some u0 ∧ w.cell? ⟨g, k * 11 + 1, none⟩ = some u1 ∧ w.cell? ⟨g, k * 11 + 2, none⟩ = some u2 ∧ w.cell? ⟨g, k * 11 + 3, none⟩ = some u3 ∧ w.cell? ⟨g, k * 11 + 4, none⟩ = some u4 ∧ w.cell? ⟨g, k * 11 + 5, none⟩ = some u5 ∧ w.cell? ⟨g, k * 11 + 6, none⟩ = some u6 ∧ w.cell? ⟨g, k * 11 + 7, none⟩ = some u7 ∧ w.cell? ⟨g, k * 11 + 8, none⟩ = some u8 ∧ w.cell? ⟨g, k * 11 + 9, none⟩ = some u9 ∧ w.cell? ⟨g, k * 11 + 10, none⟩ = some u10) ∧
    (w.frozen? ⟨g, k * 11, none⟩ = false ∧ w.frozen? ⟨g, k * 11 + 1, none⟩ = false ∧ w.frozen? ⟨g, k * 11 + 2, none⟩ = false ∧ w.frozen? ⟨g, k * 11 + 3, none⟩ = false ∧ w.frozen? ⟨g, k * 11 + 4, none⟩ = false ∧ w.frozen? ⟨g, k * 11 + 5, none⟩ = false ∧ w.frozen? ⟨g, k * 11 + 6, none⟩ = false ∧ w.frozen? ⟨g, k * 11 + 7, none⟩ = false ∧ w.frozen? ⟨g, k * 11 + 8, none⟩ = false ∧ w.frozen? ⟨g, k * 11 + 9, none⟩ = false ∧ w.frozen? ⟨g, k * 11 + 10, none⟩ = false) := by
  have key := there_part h hk
  have get : ∀ j, j < 11 → ∃ u, w.cell? ⟨g, k * 11 + j, none⟩ = some u := fun j hj => Option.isSome_iff_exists.1 (key j hj).1
  obtain ⟨u0, e0⟩ := get 0 (by omega)
  obtain ⟨u1, e1⟩ := get 1 (by omega)
  obtain ⟨u2, e2⟩ := get 2 (by omega)
  obtain ⟨u3, e3⟩ := get 3 (by omega)
  obtain ⟨u4, e4⟩ := get 4 (by omega)
  obtain ⟨u5, e5⟩ := get 5 (by omega)
  obtain ⟨u6, e6⟩ := get 6 (by omega)
  obtain ⟨u7, e7⟩ := get 7 (by omega)
  obtain ⟨u8, e8⟩ := get 8 (by omega)
  obtain ⟨u9, e9⟩ := get 9 (by omega)
  obtain ⟨u10, e10⟩ := get 10 (by omega)
  exact ⟨u0, u1, u2, u3, u4, u5, u6, u7, u8, u9, u10, ⟨e0, e1, e2, e3, e4, e5, e6, e7, e8, e9, e10⟩, (key 0 (by omega)).2, (key 1 (by omega)).2, (key 2 (by omega)).2, (key 3 (by omega)).2, (key 4 (by omega)).2, (key 5 (by omega)).2, (key 6 (by omega)).2, (key 7 (by omega)).2, (key 8 (by omega)).2, (key 9 (by omega)).2, (key 10 (by omega)).2⟩
theorem wd_item {n : Nat} {items : List MD} {k : Nat} (hk : k < items.length) : MD.wd n items[k] ≤ (items.map (MD.wd n)).sum := by
  have h1 := sum_take_succ (MD.wd n) items k hk
  have h2 := sum_take_le (MD.wd n) items (k + 1)
  omega
theorem len_le_wd (n : Nat) : ∀ l : List MD, l.length ≤ (l.map (MD.wd n)).sum
  | [] => by simp
  | d :: l => by
    have h1 := len_le_wd n l
    have h2 := MD.wd_pos n d
    simp only [List.length_cons, List.map_cons, List.sum_cons]; omega
theorem set10 {w : World} {g : Nat} {v0 v1 v2 v3 v4 v5 v6 v7 v8 v9 v10 v : Value} (h : w.heap[g]? = some (.cells #[v0, v1, v2, v3, v4, v5, v6, v7, v8, v9, v10] 28 (0, 0))) : (w.setCell ⟨g, 10, none⟩ v).heap[g]? = some (.cells #[v0, v1, v2, v3, v4, v5, v6, v7, v8, v9, v] 28 (0, 0)) := by
  have hlt := (Array.getElem?_eq_some_iff.1 h).1
  show (w.heap.modify g _)[g]? = _
  rw [Array.getElem?_eq_getElem (by rw [Array.size_modify]; exact hlt), Array.getElem_modify_self]
  have := (Array.getElem?_eq_some_iff.1 h).2
  rw [this]; rfl

set_option maxRecDepth 100000 in
set_option maxHeartbeats 4000000 in
theorem copied_sn (n : Nat) (hI : CopyC n) (k : Int) (t : ByteArray) (a f : Int) (s : ByteArray) (r0 r1 r2 r3 : Int) (path : List Int) (pc : Nat) (ia : Addr) (ic : Nat) (items : List MD) (w : World)
    (hin : MD.In w.heap.size w (n + 1) ⟨⟨k, t, a, f, s, r0, r1, r2, r3, none, path, pc⟩, (some ia), ic, items⟩) (hw : MD.wd (n + 1) ⟨⟨k, t, a, f, s, r0, r1, r2, r3, none, path, pc⟩, (some ia), ic, items⟩ ≤ 5000) :
    Calls Tryd.prog 28 #[.agg #[.int .i64 k, .string t, .int .i64 a, .int .u64 f, .string s, .int .i64 r0, .int .i64 r1, .int .i64 r2, .int .i64 r3, .slice none path.length pc, .slice (some ia) items.length ic]] w (CopyP (n + 1) ⟨⟨k, t, a, f, s, r0, r1, r2, r3, none, path, pc⟩, (some ia), ic, items⟩ w) := by
  have hF := hin.fine
  have hP := hin.path
  have hlen := hin.len
  have hits := hin.items
  have hwd : 1 + path.length + (items.map (MD.wd n)).sum ≤ 5000 := hw
  have hpl : path.length ≤ 5000 := by omega
  clear hin hw
  obtain ⟨W2, hW2⟩ : ∃ W2, W2 = (w.alloc (.cells #[.int .i64 k, .string t, .int .i64 a, .int .u64 f, .string s, .int .i64 r0, .int .i64 r1, .int .i64 r2, .int .i64 r3, .slice none path.length pc, .slice (some ia) items.length ic] 28)).alloc (.cells #[.int .i64 0, .string ⟨#[]⟩, .int .i64 0, .int .u64 0, .string ⟨#[]⟩, .int .i64 0, .int .i64 0, .int .i64 0, .int .i64 0, .slice none 0 0, .slice none 0 0] 28) := ⟨_, rfl⟩
  have hB2 : Below w.heap.size w W2 := by rw [hW2]; exact below2 _ _ _
  have hz2 : W2.heap.size = w.heap.size + 2 := by rw [hW2]; simp
  have HK : Hid (∀ W, Below W2.heap.size W2 W → Below w.heap.size w W ∧ W.heap[w.heap.size]? = some (.cells #[.int .i64 k, .string t, .int .i64 a, .int .u64 f, .string s, .int .i64 r0, .int .i64 r1, .int .i64 r2, .int .i64 r3, .slice none path.length pc, .slice (some ia) items.length ic] 28 (0, 0)) ∧ W.heap[w.heap.size + 1]? = some (.cells zeros 28 (0, 0))) := fun W hW =>
    ⟨hB2.trans (hW.mono (by omega)), (hW.block _ (by omega)).trans (by rw [hW2, Below.heap_alloc _ _ _ (by simp)]; exact heap_alloc_new _ _), (hW.block _ (by omega)).trans (by rw [hW2]; exact heap2_1 _ _ _)⟩
  have hpe : path = [] := by
    rcases hP.2 with e | ⟨b, o, e, _⟩
    · exact e
    · cases e
  have hil : items.length ≤ 5000 := by have := len_le_wd n items; omega
  obtain ⟨j0, hj, hjz0, hjz1, hjz2⟩ := info_parts info28z
  obtain ⟨M, hM⟩ : ∃ M, M = madeCells (Value.agg zeros).cells (((items.length : Nat) : Int).toNat * j0.size) := ⟨_, rfl⟩
  have hMs : M.size = items.length * 11 := by rw [hM, size_madeCells, hjz1]; simp
  have hmk : ∀ W : World, (Instr.makeSlice 26 (.int .i64 (items.length : Int)) (.int .i64 (items.length : Int))).run Tryd.prog W = .ok (.slice (some ⟨W.heap.size, 0, none⟩) items.length items.length) (W.alloc (.cells M 28)) := fun W => by
    have h := run_make (P := Tryd.prog) W 26 28 j0 (.agg zeros) Tryd.underlying26 hj hjz0 .i64 .i64 (items.length : Int) (items.length : Int) (by omega) (by omega) (by rw [hjz2]; omega) (by omega)
    rw [← hM] at h
    simpa using h
  clear hM hj hjz0 hjz1 hjz2
  have HA : Hid (MD.Fine ⟨k, t, a, f, s, r0, r1, r2, r3, none, path, pc⟩ ∧ (∀ x ∈ path, -9223372036854775808 ≤ x ∧ x ≤ 9223372036854775807) ∧ path = []) := ⟨hF, hP.1, hpe⟩
  have HIt : Hid (MD.ItemsIn w.heap.size w n ⟨⟨k, t, a, f, s, r0, r1, r2, r3, none, path, pc⟩, some ia, ic, items⟩) := hits
  have HI : Hid (CopyC n) := hI
  have HWD : Hid ((items.map (MD.wd n)).sum ≤ 5000) := by show _ ≤ _; omega
  clear hF hP hlen hits hwd hI hpe
  go_enter Tryd.func28, Tryd.ntmps28
  go_wp2_with fail
  rw [← hW2]
  clear hW2
  go_loopw [4] (fun i wr => CopyRel n items W2 (w.heap.size + 2) i wr) (fun i _ => items.length - (intOf i).toNat)
  case atStart =>
    refine ⟨0, [], Nat.zero_le _, rfl, rfl, (Below.refl _ _).alloc (Nat.le_refl _) _, by simp; omega, ?_, fun i hi => absurd hi (by simp), rfl⟩
    have := there_new W2 M 28 (items.length * 11) hMs
    rwa [hz2] at this
  case round =>
    obtain ⟨k', ds, hk, rfl, hds, hb', hg, hth, hc', ha⟩ := hrel
    obtain ⟨hb0, hbox, hres⟩ := HK.out wr hb'
    by_cases hlt : k' < items.length
    · have i1 : (k' : Int) < items.length := by omega
      obtain ⟨bb, o, rfl, hbB, hC, hIn⟩ : ∃ bb o, ia = ⟨bb, o, none⟩ ∧ bb < w.heap.size ∧ MD.CellsAt wr bb (o + k' * 11) items[k'] ∧ MD.In w.heap.size wr n items[k'] := by
        rcases MD.ItemsIn.below HIt.out hb0 with e | ⟨bb, o, e1, e2, e3⟩
        · have e' : items = [] := e
          rw [e'] at hlt; simp at hlt
        · exact ⟨bb, o, Option.some.inj e1, e2, e3 k' hlt⟩
      have hcb : ∀ j, wr.cell? ⟨w.heap.size, j, none⟩ = (#[.int .i64 k, .string t, .int .i64 a, .int .u64 f, .string s, .int .i64 r0, .int .i64 r1, .int .i64 r2, .int .i64 r3, .slice none path.length pc, .slice (some ⟨bb, o, none⟩) items.length ic] : Array Value)[j]? := row_at hbox
      have HN : Hid (∀ (w9 : World) (d : MD), Below wr.heap.size wr w9 → MD.In w9.heap.size w9 n d → MD.Above wr.heap.size n d → MD.same n items[k'] d = true → CopyRel n items W2 (w.heap.size + 2) (.int .i64 ((k' : Int) + 1)) (w9.setCells (w.heap.size + 2) (k' * 11) d.cells.toList)) := fun w9 d h1 h2 h3 h4 =>
        CopyRel.next hlt hds hb' (by omega) hg hth hc' ha h1 h2 h3 h4
      have HO : Hid (wr.there (w.heap.size + 2) 0 (items.length * 11)) := hth
      have HW : Hid (MD.wd n items[k'] ≤ 5000) := Nat.le_trans (wd_item hlt) HWD.out
      generalize items[k'] = kid at hC hIn HN HW
      obtain ⟨⟨k0, k1, k2, k3, k4, k5, k6, k7, k8, kp, kpath, kpc⟩, kip, kic, kit⟩ := kid
      have c0 : wr.cell? ⟨bb, o + k' * 11, none⟩ = some (.int .i64 k0) := hC 0 (by omega)
      have c1 : wr.cell? ⟨bb, o + k' * 11 + 1, none⟩ = some (.string k1) := hC 1 (by omega)
      have c2 : wr.cell? ⟨bb, o + k' * 11 + 2, none⟩ = some (.int .i64 k2) := hC 2 (by omega)
      have c3 : wr.cell? ⟨bb, o + k' * 11 + 3, none⟩ = some (.int .u64 k3) := hC 3 (by omega)
      have c4 : wr.cell? ⟨bb, o + k' * 11 + 4, none⟩ = some (.string k4) := hC 4 (by omega)
      have c5 : wr.cell? ⟨bb, o + k' * 11 + 5, none⟩ = some (.int .i64 k5) := hC 5 (by omega)
      have c6 : wr.cell? ⟨bb, o + k' * 11 + 6, none⟩ = some (.int .i64 k6) := hC 6 (by omega)
      have c7 : wr.cell? ⟨bb, o + k' * 11 + 7, none⟩ = some (.int .i64 k7) := hC 7 (by omega)
      have c8 : wr.cell? ⟨bb, o + k' * 11 + 8, none⟩ = some (.int .i64 k8) := hC 8 (by omega)
      have c9 : wr.cell? ⟨bb, o + k' * 11 + 9, none⟩ = some (.slice kp kpath.length kpc) := hC 9 (by omega)
      have c10 : wr.cell? ⟨bb, o + k' * 11 + 10, none⟩ = some (.slice kip kit.length kic) := hC 10 (by omega)
      have HC : Hid (Calls Tryd.prog 28 #[.agg #[.int .i64 k0, .string k1, .int .i64 k2, .int .u64 k3, .string k4, .int .i64 k5, .int .i64 k6, .int .i64 k7, .int .i64 k8, .slice kp kpath.length kpc, .slice kip kit.length kic]] wr (CopyP n ⟨⟨k0, k1, k2, k3, k4, k5, k6, k7, k8, kp, kpath, kpc⟩, kip, kic, kit⟩ wr)) := HI.out ⟨⟨k0, k1, k2, k3, k4, k5, k6, k7, k8, kp, kpath, kpc⟩, kip, kic, kit⟩ wr (MD.In.mono (Nat.le_trans (Nat.le_add_right _ 2) (Nat.le_of_lt hg)) n _ hIn) HW.out
      clear hC hIn HW ha hc' hb' hbox hres hb0 hth HI
      go_wp2_with (go_at_call 28; refine HC.out.mono ?_; rintro r w9 ⟨d', rfl, hd1, hd2, hd3, hd4⟩; obtain ⟨⟨l0, l1, l2, l3, l4, l5, l6, l7, l8, lp, lpath, lpc⟩, lip, lic, lit⟩ := d'; have HR := HN.out w9 ⟨⟨l0, l1, l2, l3, l4, l5, l6, l7, l8, lp, lpath, lpc⟩, lip, lic, lit⟩ hd4 hd1 hd2 hd3; have HR2 : Hid _ := HR; obtain ⟨u0, u1, u2, u3, u4, u5, u6, u7, u8, u9, u10, ⟨e0, e1, e2, e3, e4, e5, e6, e7, e8, e9, e10⟩, f0, f1, f2, f3, f4, f5, f6, f7, f8, f9, f10⟩ := old_cells (there_below HO.out hg hd4) (show k' * 11 + 11 ≤ items.length * 11 by omega); simp only [MD.val, D]; clear HR hd1 hd2 hd3 hd4)
      exact ⟨HR2.out, by simp [intOf]; omega⟩
    · have i1 : ¬ (k' : Int) < items.length := by omega
      obtain rfl : k' = items.length := by omega
      rw [List.take_of_length_le (Nat.le_refl _)] at ha
      have hcb : ∀ j, wr.cell? ⟨w.heap.size, j, none⟩ = (#[.int .i64 k, .string t, .int .i64 a, .int .u64 f, .string s, .int .i64 r0, .int .i64 r1, .int .i64 r2, .int .i64 r3, .slice none path.length pc, .slice (some ia) items.length ic] : Array Value)[j]? := row_at hbox
      have hfb : ∀ j, wr.frozen? ⟨w.heap.size, j, none⟩ = false := fun j => fz _ _ _ _ j hbox
      have hrc : ∀ j, wr.cell? ⟨w.heap.size + 1, j, none⟩ = (#[.int .i64 0, .string ⟨#[]⟩, .int .i64 0, .int .u64 0, .string ⟨#[]⟩, .int .i64 0, .int .i64 0, .int .i64 0, .int .i64 0, .slice none 0 0, .slice none 0 0] : Array Value)[j]? := row_at hres
      have hrf : ∀ j, wr.frozen? ⟨w.heap.size + 1, j, none⟩ = false := fun j => fz _ _ _ _ j hres
      have HE : Hid (ds.length = items.length ∧ Below w.heap.size w wr ∧ w.heap.size + 2 < wr.heap.size ∧ (∀ (i : Nat) (hi : i < ds.length), MD.CellsAt wr (w.heap.size + 2) (i * 11) ds[i] ∧ MD.In wr.heap.size wr n ds[i] ∧ MD.Above (w.heap.size + 2 + 1) n ds[i]) ∧ all2 (MD.same n) items ds = true) := ⟨hds, hb0, hg, hc', ha⟩
      clear ha hc' hb' hbox hres hb0 hth HI hds
      go_wp2_with fail
      refine bodyPost_ret (v := .agg #[.int .i64 k, .string t, .int .i64 a, .int .u64 f, .string s, .int .i64 r0, .int .i64 r1, .int .i64 r2, .int .i64 r3, .slice none path.length pc, .slice (some ⟨w.heap.size + 2, 0, none⟩) items.length items.length]) (by simp [results, Tryd.results28, go_sem, hrc]) rfl ?_
      obtain ⟨q1, q2, q3, q4, q5⟩ := HE.out
      obtain ⟨y1, y2, y3⟩ := HA.out
      have hkeep := fun (b : Nat) (h1 : w.heap.size + 2 ≤ b) (_ : b < wr.heap.size) => eleven_after wr w.heap.size b (by omega) (by omega) 10 (.slice (some ⟨w.heap.size + 2, 0, none⟩) items.length items.length) (.int .i64 k) (.string t) (.int .i64 a) (.int .u64 f) (.string s) (.int .i64 r0) (.int .i64 r1) (.int .i64 r2) (.int .i64 r3) (.slice none path.length pc) (.slice (some ⟨w.heap.size + 2, 0, none⟩) items.length items.length)
      obtain ⟨z1, z2⟩ := rows_kept q4 q3 hkeep (by simp)
      exact copy_done none pc (some ⟨w.heap.size + 2, 0, none⟩) items.length ds (bset (q2.setCell (p := ⟨w.heap.size, 10, none⟩) (Nat.le_refl _) _) (by omega) _ _ _ _ _ _ _ _ _ _ _) y1 y2 y1.pl y1.pm ⟨.inl y3, fun _ _ e => (by cases e)⟩ q1 (Nat.le_refl _) (by unfold maxLen; omega) z1 ⟨fun b o e => (by cases e; omega), z2⟩ q5

set_option maxRecDepth 100000 in
set_option maxHeartbeats 4000000 in
theorem copied_ss (n : Nat) (hI : CopyC n) (k : Int) (t : ByteArray) (a f : Int) (s : ByteArray) (r0 r1 r2 r3 : Int) (pa : Addr) (path : List Int) (pc : Nat) (ia : Addr) (ic : Nat) (items : List MD) (w : World)
    (hin : MD.In w.heap.size w (n + 1) ⟨⟨k, t, a, f, s, r0, r1, r2, r3, (some pa), path, pc⟩, (some ia), ic, items⟩) (hw : MD.wd (n + 1) ⟨⟨k, t, a, f, s, r0, r1, r2, r3, (some pa), path, pc⟩, (some ia), ic, items⟩ ≤ 5000) :
    Calls Tryd.prog 28 #[.agg #[.int .i64 k, .string t, .int .i64 a, .int .u64 f, .string s, .int .i64 r0, .int .i64 r1, .int .i64 r2, .int .i64 r3, .slice (some pa) path.length pc, .slice (some ia) items.length ic]] w (CopyP (n + 1) ⟨⟨k, t, a, f, s, r0, r1, r2, r3, (some pa), path, pc⟩, (some ia), ic, items⟩ w) := by
  have hF := hin.fine
  have hP := hin.path
  have hlen := hin.len
  have hits := hin.items
  have hwd : 1 + path.length + (items.map (MD.wd n)).sum ≤ 5000 := hw
  have hpl : path.length ≤ 5000 := by omega
  clear hin hw
  obtain ⟨W2, hW2⟩ : ∃ W2, W2 = (w.alloc (.cells #[.int .i64 k, .string t, .int .i64 a, .int .u64 f, .string s, .int .i64 r0, .int .i64 r1, .int .i64 r2, .int .i64 r3, .slice (some pa) path.length pc, .slice (some ia) items.length ic] 28)).alloc (.cells #[.int .i64 0, .string ⟨#[]⟩, .int .i64 0, .int .u64 0, .string ⟨#[]⟩, .int .i64 0, .int .i64 0, .int .i64 0, .int .i64 0, .slice none 0 0, .slice none 0 0] 28) := ⟨_, rfl⟩
  have hB2 : Below w.heap.size w W2 := by rw [hW2]; exact below2 _ _ _
  have hz2 : W2.heap.size = w.heap.size + 2 := by rw [hW2]; simp
  have HK : Hid (∀ W, Below W2.heap.size W2 W → Below w.heap.size w W ∧ W.heap[w.heap.size]? = some (.cells #[.int .i64 k, .string t, .int .i64 a, .int .u64 f, .string s, .int .i64 r0, .int .i64 r1, .int .i64 r2, .int .i64 r3, .slice (some pa) path.length pc, .slice (some ia) items.length ic] 28 (0, 0)) ∧ W.heap[w.heap.size + 1]? = some (.cells zeros 28 (0, 0))) := fun W hW =>
    ⟨hB2.trans (hW.mono (by omega)), (hW.block _ (by omega)).trans (by rw [hW2, Below.heap_alloc _ _ _ (by simp)]; exact heap_alloc_new _ _), (hW.block _ (by omega)).trans (by rw [hW2]; exact heap2_1 _ _ _)⟩
  have hil : items.length ≤ 5000 := by have := len_le_wd n items; omega
  obtain ⟨j0, hj, hjz0, hjz1, hjz2⟩ := info_parts info28z
  obtain ⟨M, hM⟩ : ∃ M, M = madeCells (Value.agg zeros).cells (((items.length : Nat) : Int).toNat * j0.size) := ⟨_, rfl⟩
  have hMs : M.size = items.length * 11 := by rw [hM, size_madeCells, hjz1]; simp
  have hmk : ∀ W : World, (Instr.makeSlice 26 (.int .i64 (items.length : Int)) (.int .i64 (items.length : Int))).run Tryd.prog W = .ok (.slice (some ⟨W.heap.size, 0, none⟩) items.length items.length) (W.alloc (.cells M 28)) := fun W => by
    have h := run_make (P := Tryd.prog) W 26 28 j0 (.agg zeros) Tryd.underlying26 hj hjz0 .i64 .i64 (items.length : Int) (items.length : Int) (by omega) (by omega) (by rw [hjz2]; omega) (by omega)
    rw [← hM] at h
    simpa using h
  clear hM hj hjz0 hjz1 hjz2
  obtain ⟨i0, hi, hz0, hz1, hz2'⟩ := info_parts info3z
  have HPC : Hid (∀ W : World, (∀ b, b < w.heap.size → W.heap[b]? = w.heap[b]?) → ∀ (j : Nat) (u : Value), (path.map (Value.int .i64))[j]? = some u → W.cell? (pa.add j) = some u) := fun W hW => path_cells hP.2 W hW
  have HA : Hid (MD.Fine ⟨k, t, a, f, s, r0, r1, r2, r3, (some pa), path, pc⟩ ∧ (∀ x ∈ path, -9223372036854775808 ≤ x ∧ x ≤ 9223372036854775807)) := ⟨hF, hP.1⟩
  have HIt : Hid (MD.ItemsIn w.heap.size w n ⟨⟨k, t, a, f, s, r0, r1, r2, r3, (some pa), path, pc⟩, some ia, ic, items⟩) := hits
  have HI : Hid (CopyC n) := hI
  have HWD : Hid ((items.map (MD.wd n)).sum ≤ 5000) := by show _ ≤ _; omega
  clear hF hP hlen hits hwd hI
  go_enter Tryd.func28, Tryd.ntmps28
  go_wp2_with fail
  rw [← hW2]
  clear hW2
  go_loopw [4] (fun i wr => CopyRel n items W2 (w.heap.size + 2) i wr) (fun i _ => items.length - (intOf i).toNat)
  case atStart =>
    refine ⟨0, [], Nat.zero_le _, rfl, rfl, (Below.refl _ _).alloc (Nat.le_refl _) _, by simp; omega, ?_, fun i hi => absurd hi (by simp), rfl⟩
    have := there_new W2 M 28 (items.length * 11) hMs
    rwa [hz2] at this
  case round =>
    obtain ⟨k', ds, hk, rfl, hds, hb', hg, hth, hc', ha⟩ := hrel
    obtain ⟨hb0, hbox, hres⟩ := HK.out wr hb'
    by_cases hlt : k' < items.length
    · have i1 : (k' : Int) < items.length := by omega
      obtain ⟨bb, o, rfl, hbB, hC, hIn⟩ : ∃ bb o, ia = ⟨bb, o, none⟩ ∧ bb < w.heap.size ∧ MD.CellsAt wr bb (o + k' * 11) items[k'] ∧ MD.In w.heap.size wr n items[k'] := by
        rcases MD.ItemsIn.below HIt.out hb0 with e | ⟨bb, o, e1, e2, e3⟩
        · have e' : items = [] := e
          rw [e'] at hlt; simp at hlt
        · exact ⟨bb, o, Option.some.inj e1, e2, e3 k' hlt⟩
      have hcb : ∀ j, wr.cell? ⟨w.heap.size, j, none⟩ = (#[.int .i64 k, .string t, .int .i64 a, .int .u64 f, .string s, .int .i64 r0, .int .i64 r1, .int .i64 r2, .int .i64 r3, .slice (some pa) path.length pc, .slice (some ⟨bb, o, none⟩) items.length ic] : Array Value)[j]? := row_at hbox
      have HN : Hid (∀ (w9 : World) (d : MD), Below wr.heap.size wr w9 → MD.In w9.heap.size w9 n d → MD.Above wr.heap.size n d → MD.same n items[k'] d = true → CopyRel n items W2 (w.heap.size + 2) (.int .i64 ((k' : Int) + 1)) (w9.setCells (w.heap.size + 2) (k' * 11) d.cells.toList)) := fun w9 d h1 h2 h3 h4 =>
        CopyRel.next hlt hds hb' (by omega) hg hth hc' ha h1 h2 h3 h4
      have HO : Hid (wr.there (w.heap.size + 2) 0 (items.length * 11)) := hth
      have HW : Hid (MD.wd n items[k'] ≤ 5000) := Nat.le_trans (wd_item hlt) HWD.out
      generalize items[k'] = kid at hC hIn HN HW
      obtain ⟨⟨k0, k1, k2, k3, k4, k5, k6, k7, k8, kp, kpath, kpc⟩, kip, kic, kit⟩ := kid
      have c0 : wr.cell? ⟨bb, o + k' * 11, none⟩ = some (.int .i64 k0) := hC 0 (by omega)
      have c1 : wr.cell? ⟨bb, o + k' * 11 + 1, none⟩ = some (.string k1) := hC 1 (by omega)
      have c2 : wr.cell? ⟨bb, o + k' * 11 + 2, none⟩ = some (.int .i64 k2) := hC 2 (by omega)
      have c3 : wr.cell? ⟨bb, o + k' * 11 + 3, none⟩ = some (.int .u64 k3) := hC 3 (by omega)
      have c4 : wr.cell? ⟨bb, o + k' * 11 + 4, none⟩ = some (.string k4) := hC 4 (by omega)
      have c5 : wr.cell? ⟨bb, o + k' * 11 + 5, none⟩ = some (.int .i64 k5) := hC 5 (by omega)
      have c6 : wr.cell? ⟨bb, o + k' * 11 + 6, none⟩ = some (.int .i64 k6) := hC 6 (by omega)
      have c7 : wr.cell? ⟨bb, o + k' * 11 + 7, none⟩ = some (.int .i64 k7) := hC 7 (by omega)
      have c8 : wr.cell? ⟨bb, o + k' * 11 + 8, none⟩ = some (.int .i64 k8) := hC 8 (by omega)
      have c9 : wr.cell? ⟨bb, o + k' * 11 + 9, none⟩ = some (.slice kp kpath.length kpc) := hC 9 (by omega)
      have c10 : wr.cell? ⟨bb, o + k' * 11 + 10, none⟩ = some (.slice kip kit.length kic) := hC 10 (by omega)
      have HC : Hid (Calls Tryd.prog 28 #[.agg #[.int .i64 k0, .string k1, .int .i64 k2, .int .u64 k3, .string k4, .int .i64 k5, .int .i64 k6, .int .i64 k7, .int .i64 k8, .slice kp kpath.length kpc, .slice kip kit.length kic]] wr (CopyP n ⟨⟨k0, k1, k2, k3, k4, k5, k6, k7, k8, kp, kpath, kpc⟩, kip, kic, kit⟩ wr)) := HI.out ⟨⟨k0, k1, k2, k3, k4, k5, k6, k7, k8, kp, kpath, kpc⟩, kip, kic, kit⟩ wr (MD.In.mono (Nat.le_trans (Nat.le_add_right _ 2) (Nat.le_of_lt hg)) n _ hIn) HW.out
      clear hC hIn HW ha hc' hb' hbox hres hb0 hth HI
      go_wp2_with (go_at_call 28; refine HC.out.mono ?_; rintro r w9 ⟨d', rfl, hd1, hd2, hd3, hd4⟩; obtain ⟨⟨l0, l1, l2, l3, l4, l5, l6, l7, l8, lp, lpath, lpc⟩, lip, lic, lit⟩ := d'; have HR := HN.out w9 ⟨⟨l0, l1, l2, l3, l4, l5, l6, l7, l8, lp, lpath, lpc⟩, lip, lic, lit⟩ hd4 hd1 hd2 hd3; have HR2 : Hid _ := HR; obtain ⟨u0, u1, u2, u3, u4, u5, u6, u7, u8, u9, u10, ⟨e0, e1, e2, e3, e4, e5, e6, e7, e8, e9, e10⟩, f0, f1, f2, f3, f4, f5, f6, f7, f8, f9, f10⟩ := old_cells (there_below HO.out hg hd4) (show k' * 11 + 11 ≤ items.length * 11 by omega); simp only [MD.val, D]; clear HR hd1 hd2 hd3 hd4)
      exact ⟨HR2.out, by simp [intOf]; omega⟩
    · have i1 : ¬ (k' : Int) < items.length := by omega
      obtain rfl : k' = items.length := by omega
      rw [List.take_of_length_le (Nat.le_refl _)] at ha
      have hcb : ∀ j, wr.cell? ⟨w.heap.size, j, none⟩ = (#[.int .i64 k, .string t, .int .i64 a, .int .u64 f, .string s, .int .i64 r0, .int .i64 r1, .int .i64 r2, .int .i64 r3, .slice (some pa) path.length pc, .slice (some ia) items.length ic] : Array Value)[j]? := row_at hbox
      have hfb : ∀ j, wr.frozen? ⟨w.heap.size, j, none⟩ = false := fun j => fz _ _ _ _ j hbox
      have hrc : ∀ j, wr.cell? ⟨w.heap.size + 1, j, none⟩ = (#[.int .i64 0, .string ⟨#[]⟩, .int .i64 0, .int .u64 0, .string ⟨#[]⟩, .int .i64 0, .int .i64 0, .int .i64 0, .int .i64 0, .slice none 0 0, .slice none 0 0] : Array Value)[j]? := row_at hres
      have hrf : ∀ j, wr.frozen? ⟨w.heap.size + 1, j, none⟩ = false := fun j => fz _ _ _ _ j hres
      have HE : Hid (ds.length = items.length ∧ Below w.heap.size w wr ∧ w.heap.size + 2 < wr.heap.size ∧ (∀ (i : Nat) (hi : i < ds.length), MD.CellsAt wr (w.heap.size + 2) (i * 11) ds[i] ∧ MD.In wr.heap.size wr n ds[i] ∧ MD.Above (w.heap.size + 2 + 1) n ds[i]) ∧ all2 (MD.same n) items ds = true) := ⟨hds, hb0, hg, hc', ha⟩
      obtain ⟨wc, hwc⟩ : ∃ wc, wc = wr.setCell ⟨w.heap.size, 10, none⟩ (.slice (some ⟨w.heap.size + 2, 0, none⟩) items.length items.length) := ⟨_, rfl⟩
      have hwz : wc.heap.size = wr.heap.size := by rw [hwc]; simp
      have HKC : Hid (∀ W, Below wc.heap.size wc W → (∀ j, W.cell? ⟨w.heap.size, j, none⟩ = (#[.int .i64 k, .string t, .int .i64 a, .int .u64 f, .string s, .int .i64 r0, .int .i64 r1, .int .i64 r2, .int .i64 r3, .slice (some pa) path.length pc, .slice (some ⟨w.heap.size + 2, 0, none⟩) items.length items.length] : Array Value)[j]?) ∧ (∀ j, W.frozen? ⟨w.heap.size, j, none⟩ = false) ∧ (∀ j, W.cell? ⟨w.heap.size + 1, j, none⟩ = (#[.int .i64 0, .string ⟨#[]⟩, .int .i64 0, .int .u64 0, .string ⟨#[]⟩, .int .i64 0, .int .i64 0, .int .i64 0, .int .i64 0, .slice none 0 0, .slice none 0 0] : Array Value)[j]?) ∧ (∀ j, W.frozen? ⟨w.heap.size + 1, j, none⟩ = false)) := fun W hW => by
        have x1 : (w.heap.size : Nat) < wc.heap.size := by omega
        have x2 : w.heap.size + 1 < wc.heap.size := by omega
        have y2 : wc.heap[w.heap.size + 1]? = wr.heap[w.heap.size + 1]? := by rw [hwc]; exact heap_setCell_other _ _ _ _ _ (by omega)
        have y1 : wc.heap[w.heap.size]? = some (.cells #[.int .i64 k, .string t, .int .i64 a, .int .u64 f, .string s, .int .i64 r0, .int .i64 r1, .int .i64 r2, .int .i64 r3, .slice (some pa) path.length pc, .slice (some ⟨w.heap.size + 2, 0, none⟩) items.length items.length] 28 (0, 0)) := by rw [hwc]; exact set10 hbox
        exact ⟨fun j => row_at ((hW.block _ x1).trans y1) j, fun j => fz _ _ _ _ j ((hW.block _ x1).trans y1), fun j => row_at ((hW.block _ x2).trans (y2.trans hres)) j, fun j => fz _ _ _ _ j ((hW.block _ x2).trans (y2.trans hres))⟩
      have hWb : ∀ b, b < w.heap.size → wc.heap[b]? = w.heap[b]? := fun b hb => by rw [hwc]; exact (heap_setCell_other _ _ _ _ _ (by omega)).trans (hb0.block b hb)
      have HWC : Hid (∀ b, w.heap.size + 2 ≤ b → wc.heap[b]? = wr.heap[b]?) := fun b hb => by rw [hwc]; exact heap_setCell_other _ _ _ _ _ (by omega)
      have HBC : Hid (Below w.heap.size w wc) := by rw [hwc]; exact hb0.setCell (p := ⟨w.heap.size, 10, none⟩) (Nat.le_refl _) _
      clear ha hc' hb' hbox hres hb0 hth HI hds
      go_wp2_with (at_builtin; rw [← hwc]; refine wpList_append_own _ rfl _ _ 23 rfl (w.heap.size + 2) 3 i0 (.int .i64 0) 1 8 Tryd.underlying23 hi hz0 hz1 hz2' rfl (by decide) _ 0 [] rfl (World.ownsRow_nil _ _ _ _) pa path.length pc (path.map (Value.int .i64)) rfl (by simp) (HPC.out wc hWb) (numsOf path) (by unfold maxLen; omega) (by omega) (by omega) ?_; intro v' w3 hown3 hgr3 hnil3; obtain ⟨⟨pp2, pc2, rfl, hq1, hq2, hq3, hq4⟩, hold, hsz, hbel⟩ := path_new hown3 hgr3 hnil3; have hc3 := (HKC.out w3 hbel).1; have hf3 := (HKC.out w3 hbel).2.1; have hr3 := (HKC.out w3 hbel).2.2.1; have hg3 := (HKC.out w3 hbel).2.2.2; have HG3 : Hid (Below wc.heap.size wc w3 ∧ path.length ≤ pc2 ∧ pc2 ≤ maxLen ∧ (path = [] ∨ ∃ g, pp2 = some ⟨g, 0, none⟩ ∧ g < w3.heap.size ∧ w.heap.size + 2 ≤ g ∧ ∀ (i : Nat) (hi : i < path.length), w3.cell? ⟨g, 0 + i, none⟩ = some (.int .i64 path[i])) ∧ ∀ b o, pp2 = some ⟨b, o, none⟩ → w.heap.size + 2 ≤ b) := ⟨hbel, hq1, hq2, hq3, hq4⟩; clear hown3 hgr3 hnil3 hold hsz hbel hq1 hq2 hq3 hq4 hcb hfb hrc hrf)
      refine bodyPost_ret (v := .agg #[.int .i64 k, .string t, .int .i64 a, .int .u64 f, .string s, .int .i64 r0, .int .i64 r1, .int .i64 r2, .int .i64 r3, .slice pp2 path.length pc2, .slice (some ⟨w.heap.size + 2, 0, none⟩) items.length items.length]) (by simp [results, Tryd.results28, go_sem, hr3]) rfl ?_
      obtain ⟨g1, g2, g3, g4, g5⟩ := HG3.out
      obtain ⟨q1, q2, q3, q4, q5⟩ := HE.out
      obtain ⟨y1, y2⟩ := HA.out
      have hsz3 := g1.size
      have hB3 : Below w.heap.size w w3 := HBC.out.trans (g1.mono (by omega))
      have hkeep := fun (b : Nat) (h1 : w.heap.size + 2 ≤ b) (h2 : b < wr.heap.size) => (eleven_after w3 w.heap.size b (by omega) (by omega) 9 (.slice pp2 path.length pc2) (.int .i64 k) (.string t) (.int .i64 a) (.int .u64 f) (.string s) (.int .i64 r0) (.int .i64 r1) (.int .i64 r2) (.int .i64 r3) (.slice pp2 path.length pc2) (.slice (some ⟨w.heap.size + 2, 0, none⟩) items.length items.length)).trans ((g1.block b (by omega)).trans (HWC.out b h1))
      obtain ⟨z1, z2⟩ := rows_kept q4 q3 hkeep (by simp; omega)
      exact copy_done pp2 pc2 (some ⟨w.heap.size + 2, 0, none⟩) items.length ds (bset (hB3.setCell (p := ⟨w.heap.size, 9, none⟩) (Nat.le_refl _) _) (by omega) _ _ _ _ _ _ _ _ _ _ _) y1 y2 g2 g3 ⟨path_kept g4 (fun b h1 h2 => eleven_other w3 w.heap.size b h1 h2 _ _ _ _ _ _ _ _ _ _ _ _) (by simp), fun b o e => (by have := g5 b o e; omega)⟩ q1 (Nat.le_refl _) (by unfold maxLen; omega) z1 ⟨fun b o e => (by cases e; omega), z2⟩ q5

theorem copied_any : ∀ n, CopyC n
  | 0 => fun _ _ h _ => h.elim
  | n + 1 => by
    intro d w hin hw
    obtain ⟨⟨k, t, a, f, s, r0, r1, r2, r3, pp, path, pc⟩, ip, ic, items⟩ := d
    cases ip with
    | none =>
      cases pp with
      | none => exact copied_nn n k t a f s r0 r1 r2 r3 path pc ic items w hin hw
      | some pa => exact copied_ns n k t a f s r0 r1 r2 r3 pa path pc ic items w hin hw
    | some ia =>
      cases pp with
      | none => exact copied_sn n (copied_any n) k t a f s r0 r1 r2 r3 path pc ia ic items w hin hw
      | some pa => exact copied_ss n (copied_any n) k t a f s r0 r1 r2 r3 pa path pc ia ic items w hin hw
end Go.Proofs.YtnhbpcmiolkllaaDoor
