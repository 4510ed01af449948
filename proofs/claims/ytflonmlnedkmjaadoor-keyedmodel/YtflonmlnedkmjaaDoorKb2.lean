/-
  value's copy of any right datum lies in memory of its own.
-/
import Derived.Test.YtflonmlnedkmjaaDoorKa2
namespace Go.Proofs.YtflonmlnedkmjaaDoor
open Go.RowKit
attribute [local go_sem] refold2 cell3_0 cell3_1 b28_0 b28_01

/-- Put together. -/
theorem copy_doneG {n : Nat} {w F : World} {k : Int} {t : ByteArray} {a f : Int} {s : ByteArray} {r0 r1 r2 r3 : Int} {pp : Option Addr} {path : List Int} {pc : Nat} {ip : Option Addr} {ic : Nat} {items : List MD} (pp2 : Option Addr) (pc2 : Nat) (ip2 : Option Addr) (ic2 : Nat) (items2 : List MD)
    (hB : Below w.heap.size w F) (hF : MD.Fine ⟨k, t, a, f, s, r0, r1, r2, r3, pp, path, pc⟩) (hb : ∀ x ∈ path, -9223372036854775808 ≤ x ∧ x ≤ 9223372036854775807) (hp1 : path.length ≤ pc2) (hp2 : pc2 ≤ maxLen)
    (hP : (path = [] ∨ ∃ b o, pp2 = some ⟨b, o, none⟩ ∧ b < F.heap.size ∧ ∀ (i : Nat) (hi : i < path.length), F.cell? ⟨b, o + i, none⟩ = some (.int .i64 path[i])) ∧ ∀ b o, pp2 = some ⟨b, o, none⟩ → w.heap.size ≤ b)
    (hil : items2.length = items.length) (hi1 : items.length ≤ ic2) (hi2 : ic2 ≤ maxLen)
    (hI : items2 = [] ∨ ∃ b o, ip2 = some ⟨b, o, none⟩ ∧ b < F.heap.size ∧ ∀ (i : Nat) (hi : i < items2.length), MD.CellsAt F b (o + i * 11) items2[i] ∧ MD.In F.heap.size F n items2[i])
    (hA : (∀ b o, ip2 = some ⟨b, o, none⟩ → w.heap.size ≤ b) ∧ ∀ x ∈ items2, MD.Above w.heap.size n x) (hs : all2 (MD.same n) items items2 = true)
    (hPG : path.length = 0 ∨ ∃ g cur, pp2 = some ⟨g, 0, none⟩ ∧ w.heap.size ≤ g ∧ g < F.heap.size ∧ F.heap[g]? = some (.cells cur 3 (0, 0)) ∧ path.length ≤ cur.size)
    (hIG : items2.length = 0 ∨ ∃ g cur, ip2 = some ⟨g, 0, none⟩ ∧ w.heap.size ≤ g ∧ g < F.heap.size ∧ F.heap[g]? = some (.cells cur 39 (0, 0)) ∧ items2.length * 11 ≤ cur.size ∧ ∀ i, i < items2.length → ∃ x, MD.CellsAt F g (i * 11) x ∧ Good w.heap.size F.heap.size F n x) :
    CopyG (n + 1) ⟨⟨k, t, a, f, s, r0, r1, r2, r3, pp, path, pc⟩, ip, ic, items⟩ w (.returned (.agg #[.int .i64 k, .string t, .int .i64 a, .int .u64 f, .string s, .int .i64 r0, .int .i64 r1, .int .i64 r2, .int .i64 r3, .slice pp2 path.length pc2, .slice ip2 items.length ic2])) F := by
  refine ⟨⟨⟨k, t, a, f, s, r0, r1, r2, r3, pp2, path, pc2⟩, ip2, ic2, items2⟩, ?_, ⟨⟨hF.k0, hF.k1, hF.n0, hF.n1, hF.f0, hF.f1, hF.o0, hF.o1, hF.a0, hF.a1, hF.b0, hF.b1, hF.c0, hF.c1, hF.t0, hF.s0, hp1, hp2⟩, ⟨hb, hP.1⟩, by rw [hil]; exact hi1, hi2, hI⟩, ⟨hP.2, hA.1, hA.2⟩, ?_, hB, ⟨⟨hp1, hp2⟩, ⟨by rw [hil]; exact hi1, hi2⟩, hPG, hIG⟩⟩
  · simp only [MD.val, D]; rw [hil]
  · show (sameH _ _ _ _ && _ && _) = true
    have e1 : sameH ⟨k, t, a, f, s, r0, r1, r2, r3, pp, path, pc⟩ ⟨k, t, a, f, s, r0, r1, r2, r3, pp2, path, pc2⟩ items.length items2.length = true := decide_eq_true ⟨rfl, rfl, rfl, rfl, rfl, rfl, rfl, rfl, rfl, rfl, hil.symm⟩
    rw [e1, hs, decide_eq_true (show path = path from rfl)]; rfl


theorem path_good {w w3 F : World} {path : List Int} {pp2 : Option Addr} (h : path.length = 0 ∨ ∃ g cur, pp2 = some ⟨g, 0, none⟩ ∧ w.heap.size + 2 ≤ g ∧ g < w3.heap.size ∧ w3.heap[g]? = some (.cells cur 3 (0, 0)) ∧ path.length ≤ cur.size)
    (hF : ∀ b, w.heap.size + 2 ≤ b → b < w3.heap.size → F.heap[b]? = w3.heap[b]?) (hz : w3.heap.size ≤ F.heap.size) :
    path.length = 0 ∨ ∃ g cur, pp2 = some ⟨g, 0, none⟩ ∧ w.heap.size ≤ g ∧ g < F.heap.size ∧ F.heap[g]? = some (.cells cur 3 (0, 0)) ∧ path.length ≤ cur.size := by
  rcases h with e | ⟨g, cur, e1, e2, e3, e4, e5⟩
  · exact .inl e
  · exact .inr ⟨g, cur, e1, by omega, by omega, (hF g e2 e3).trans e4, e5⟩
theorem rows_good {n lo g m : Nat} {ds : List MD} {wr F : World} (hc : ∀ (i : Nat) (hi : i < ds.length), MD.CellsAt wr g (i * 11) ds[i] ∧ Good (g + 1) wr.heap.size wr n ds[i]) (hrow : ∃ c, wr.heap[g]? = some (.cells c 39 (0, 0)) ∧ c.size = m) (hm : ds.length * 11 ≤ m) (hlo : lo ≤ g) (hg : g < wr.heap.size)
    (hF : ∀ b, g ≤ b → b < wr.heap.size → F.heap[b]? = wr.heap[b]?) (hz : wr.heap.size ≤ F.heap.size) :
    ds.length = 0 ∨ ∃ g' cur, some (⟨g, 0, none⟩ : Addr) = some ⟨g', 0, none⟩ ∧ lo ≤ g' ∧ g' < F.heap.size ∧ F.heap[g']? = some (.cells cur 39 (0, 0)) ∧ ds.length * 11 ≤ cur.size ∧ ∀ i, i < ds.length → ∃ x, MD.CellsAt F g' (i * 11) x ∧ Good lo F.heap.size F n x := by
  obtain ⟨c, h1, h2⟩ := hrow
  refine .inr ⟨g, c, rfl, hlo, by omega, (hF g (Nat.le_refl _) hg).trans h1, by omega, fun i hi => ⟨ds[i], (hc i hi).1.other (hF g (Nat.le_refl _) hg), ?_⟩⟩
  exact Good.mono (by omega) hz n _ (Good.same (fun b b1 b2 => hF b (by omega) b2) n _ (hc i hi).2)
def VRelG (n m : Nat) (items : List MD) (W : World) (g : Nat) (i : Value) (wr : World) : Prop :=
  ∃ k : Nat, i = .int .i64 k ∧ GRel False m n items W g (.int .i64 k) wr ∧ ∀ (j : Nat) (hj : j < items.length), k ≤ j → MD.CellsAt wr g (j * 11) items[j]
def GCopyC (n : Nat) : Prop := ∀ (d : MD) (w : World), MD.In w.heap.size w n d → MD.full n d = true → Calls Tryd.prog 24 #[d.val] w (CopyG n d w)

set_option maxRecDepth 100000 in
set_option maxHeartbeats 8000000 in
theorem copiedG_e (n : Nat) (k : Int) (t : ByteArray) (a f : Int) (s : ByteArray) (r0 r1 r2 r3 : Int) (pp : Option Addr) (path : List Int) (pc : Nat) (ip : Option Addr) (ic : Nat) (items : List MD) (w : World) (HE0 : Hid (items = []))
    (hin : MD.In w.heap.size w (n + 1) ⟨⟨k, t, a, f, s, r0, r1, r2, r3, pp, path, pc⟩, ip, ic, items⟩) (hf : MD.full (n + 1) ⟨⟨k, t, a, f, s, r0, r1, r2, r3, pp, path, pc⟩, ip, ic, items⟩ = true) :
    Calls Tryd.prog 24 #[.agg #[.int .i64 k, .string t, .int .i64 a, .int .u64 f, .string s, .int .i64 r0, .int .i64 r1, .int .i64 r2, .int .i64 r3, .slice pp path.length pc, .slice ip items.length ic]] w (CopyG (n + 1) ⟨⟨k, t, a, f, s, r0, r1, r2, r3, pp, path, pc⟩, ip, ic, items⟩ w) := by
  have hF := hin.fine
  have hP := hin.path
  have hits := hin.items
  have hlen := hin.len
  have fx2 : (headOK ⟨k, t, a, f, s, r0, r1, r2, r3, pp, path, pc⟩ items.length && (k != 8 || (decide (items.length ≤ 30) && items.all (MD.full n)))) = true := hf
  rw [Bool.and_eq_true] at fx2
  obtain ⟨hp100, _⟩ := head_path fx2.1
  have hty : tyB k t = true := by
    have := fx2.1
    unfold headOK at this
    rw [Bool.and_eq_true, Bool.and_eq_true] at this
    exact this.1.1
  have ht40 := ty_small hty
  obtain ⟨hs65, hi30⟩ := full_small hf
  have HFi : Hid (∀ q ∈ items, MD.full n q = true) := full_items hf
  simp only at hp100 hs65 hi30
  have ht : t.size ≤ 140737488351232 := by omega
  have hs : s.size ≤ 140737488351232 := by omega
  have HPn : Hid (pp = none → path.length = 0) := fun e => by
    rcases hP.2 with e1 | ⟨b, o, e1, _⟩
    · have e1' : path = [] := e1
      rw [e1']; rfl
    · exact absurd (e.symm.trans e1) (by simp)
  have HIn : Hid (ip = none → items.length = 0) := fun e => by
    rcases hits with e1 | ⟨b, o, e1, _⟩
    · have e1' : items = [] := e1
      rw [e1']; rfl
    · exact absurd (e.symm.trans e1) (by simp)
  have HPC : Hid (∀ W : World, (∀ b, b < w.heap.size → W.heap[b]? = w.heap[b]?) → ∀ ad, pp = some ad → ∀ (j : Nat) (u : Value), (path.map (Value.int .i64))[j]? = some u → W.cell? (ad.add j) = some u) := fun W hW ad e => path_cells (by rw [← e]; exact hP.2) W hW
  have HIC : Hid (∀ W : World, (∀ b, b < w.heap.size → W.heap[b]? = w.heap[b]?) → ∀ ad, ip = some ad → ∀ (j : Nat) (u : Value), (rowOf items)[j]? = some u → W.cell? (ad.add j) = some u) := fun W hW ad e => rowOf_cells (by
    rcases hits with e1 | ⟨b, o, e1, e2, e3⟩
    · exact .inl e1
    · exact .inr ⟨b, o, e ▸ e1, fun i hi => (e3 i hi).1.other (hW b e2)⟩)
  have HIt : Hid (MD.ItemsIn w.heap.size w n ⟨⟨k, t, a, f, s, r0, r1, r2, r3, pp, path, pc⟩, ip, ic, items⟩) := hits
  have HA : Hid (MD.Fine ⟨k, t, a, f, s, r0, r1, r2, r3, pp, path, pc⟩ ∧ (∀ x ∈ path, -9223372036854775808 ≤ x ∧ x ≤ 9223372036854775807)) := ⟨hF, hP.1⟩
  obtain ⟨i3, hi3, hz30, hz31, hz32⟩ := info_parts info3z
  obtain ⟨i28, hi28, hz280, hz281, hz282⟩ := info_parts info28z
  clear fx2 hty hin hf hF hP hits hlen
  obtain ⟨W2, hW2⟩ : ∃ W2, W2 = (w.alloc (.cells #[.int .i64 k, .string t, .int .i64 a, .int .u64 f, .string s, .int .i64 r0, .int .i64 r1, .int .i64 r2, .int .i64 r3, .slice pp path.length pc, .slice ip items.length ic] 39)).alloc (.cells #[.int .i64 0, .string ⟨#[]⟩, .int .i64 0, .int .u64 0, .string ⟨#[]⟩, .int .i64 0, .int .i64 0, .int .i64 0, .int .i64 0, .slice none 0 0, .slice none 0 0] 39) := ⟨_, rfl⟩
  have hB2 : Below w.heap.size w W2 := by rw [hW2]; exact below2 _ _ _
  have hz2 : W2.heap.size = w.heap.size + 2 := by rw [hW2]; simp
  have hrow0 : Hid (W2.heap[w.heap.size]? = some (.cells #[.int .i64 k, .string t, .int .i64 a, .int .u64 f, .string s, .int .i64 r0, .int .i64 r1, .int .i64 r2, .int .i64 r3, .slice pp path.length pc, .slice ip items.length ic] 39 (0, 0))) := by rw [hW2, Below.heap_alloc _ _ _ (by simp)]; exact heap_alloc_new _ _
  have hrow1 : Hid (W2.heap[w.heap.size + 1]? = some (.cells zeros 39 (0, 0))) := by rw [hW2]; exact heap2_1 _ _ _
  have HK : Hid (∀ W, Below W2.heap.size W2 W → (∀ j, W.cell? ⟨w.heap.size, j, none⟩ = (#[.int .i64 k, .string t, .int .i64 a, .int .u64 f, .string s, .int .i64 r0, .int .i64 r1, .int .i64 r2, .int .i64 r3, .slice pp path.length pc, .slice ip items.length ic] : Array Value)[j]?)) := fun W hW j => row_at ((hW.block w.heap.size (by omega)).trans hrow0.out) j
  have HC : Hid (∀ (u : ByteArray) (W : World), u.size ≤ 140737488351232 → Calls Tryd.prog 39 #[.string u] W fun r w' => r = .returned (.string u) ∧ Below W.heap.size W w') := fun u W h => clone_any u W h
  go_enter Tryd.func24, Tryd.ntmps24
  go_wp2_with fail
  rw [← hW2]
  clear hW2
  refine wp_region_noPanic ?_
  refine wp_region_held (S := fun W => ∀ j, W.cell? ⟨w.heap.size, j, none⟩ = (#[.int .i64 k, .string t, .int .i64 a, .int .u64 f, .string s, .int .i64 r0, .int .i64 r1, .int .i64 r2, .int .i64 r3, .slice pp path.length pc, .slice ip items.length ic] : Array Value)[j]?) (by kernel_rfl) ?_
  obtain ⟨W4, hW4⟩ : ∃ W4, W4 = W2.drew := ⟨_, rfl⟩
  have e4 : ({ W2 with drawn := W2.drawn + 1 } : World) = W4 := hW4.symm
  rw [e4]
  have hB4 : Below W2.heap.size W2 W4 := by rw [hW4]; exact (Below.refl _ _).drew
  have hS := HK.out W4 hB4
  clear e4 hW4
  refine wpAnyH_take (i := 0) (v := .pointer (some ⟨w.heap.size, 1, none⟩)) rfl (by kernel_rfl) (by kernel_rfl) (by kernel_rfl) (fun _ _ _ h => h) (Or.inl ⟨by rfl, ?r⟩) hS ?_
  case r => intro W hW; simp [go_sem, execOp, Act.eval]
  simp only [List.getElem_toArray, List.getElem_cons_zero, Act.put, List.setIfInBounds_toArray, List.set_cons_succ, List.set_cons_zero]
  refine wpAnyH_take (i := 1) (v := .string t) rfl (by kernel_rfl) (by kernel_rfl) (by kernel_rfl) (fun _ _ _ h => h) (Or.inl ⟨by rfl, ?r⟩) hS ?_
  case r => intro W hW; simp [go_sem, execOp, Act.eval, hW]
  simp only [List.getElem_toArray, List.getElem_cons_zero, List.getElem_cons_succ, Act.put, List.setIfInBounds_toArray, List.set_cons_succ, List.set_cons_zero]
  refine wpAnyH_take (i := 3) (v := .pointer (some ⟨w.heap.size, 4, none⟩)) rfl (by kernel_rfl) (by kernel_rfl) (by kernel_rfl) (fun _ _ _ h => h) (Or.inl ⟨by rfl, ?r⟩) hS ?_
  case r => intro W hW; simp [go_sem, execOp, Act.eval]
  simp only [List.getElem_toArray, List.getElem_cons_zero, List.getElem_cons_succ, Act.put, List.setIfInBounds_toArray, List.set_cons_succ, List.set_cons_zero]
  refine wpAnyH_take (i := 4) (v := .string s) rfl (by kernel_rfl) (by kernel_rfl) (by kernel_rfl) (fun _ _ _ h => h) (Or.inl ⟨by rfl, ?r⟩) hS ?_
  case r => intro W hW; simp [go_sem, execOp, Act.eval, hW]
  simp only [List.getElem_toArray, List.getElem_cons_zero, List.getElem_cons_succ, Act.put, List.setIfInBounds_toArray, List.set_cons_succ, List.set_cons_zero]
  refine wpAnyH_all (rs := [2]) (by kernel_rfl) (by simp) (fun i2 hi2 => ?_)
  obtain rfl : i2 = 2 := by simpa using hi2
  clear hi2
  refine wpOp_step rfl (fun K hK => ite_yes rfl ?_)
  simp only [List.getElem_toArray, List.getElem_cons_zero, List.getElem_cons_succ]
  go_simp
  refine (HC.out _ _ ht).mono ?_
  rintro e w5 ⟨rfl, b5⟩
  have hb5 : Below W2.heap.size W2 w5 := hB4.trans (b5.mono hB4.size)
  go_simp
  refine hK _ _ ⟨HK.out _ hb5, ?_⟩
  clear hK K hS
  have hS := HK.out _ hb5
  refine wpAnyH_take (i := 6) (v := .pointer (some ⟨w.heap.size, 1, none⟩)) rfl (by kernel_rfl) (by kernel_rfl) (by kernel_rfl) (fun _ _ _ h => h) (Or.inl ⟨by rfl, ?r⟩) hS ?_
  case r => intro W hW; simp [go_sem, execOp, Act.eval]
  simp only [List.getElem_toArray, List.getElem_cons_zero, List.getElem_cons_succ, Act.put, List.setIfInBounds_toArray, List.set_cons_succ, List.set_cons_zero]
  refine wpAnyH_all (rs := [5]) (by kernel_rfl) (by simp) (fun i2 hi2 => ?_)
  obtain rfl : i2 = 5 := by simpa using hi2
  clear hi2
  refine wpOp_step rfl (fun K hK => ite_yes rfl ?_)
  simp only [List.getElem_toArray, List.getElem_cons_zero, List.getElem_cons_succ]
  go_simp
  refine (HC.out _ _ hs).mono ?_
  rintro e w6 ⟨rfl, b6⟩
  have hb6 : Below W2.heap.size W2 w6 := hb5.trans (b6.mono hb5.size)
  go_simp
  refine hK _ _ ⟨HK.out _ hb6, ?_⟩
  clear hK K hS
  have hS := HK.out _ hb6
  have hfr : ∀ j, w6.frozen? ⟨w.heap.size, j, none⟩ = false := fun j => fz _ _ _ _ j ((hb6.block w.heap.size (by omega)).trans hrow0.out)
  refine wpAnyH_all (rs := [7]) (by kernel_rfl) (by simp) (fun i2 hi2 => ?_)
  obtain rfl : i2 = 7 := by simpa using hi2
  clear hi2
  refine wpOp_step rfl (fun K hK => ite_yes rfl ?_)
  simp only [List.getElem_toArray, List.getElem_cons_zero, List.getElem_cons_succ]
  have c1 : w6.cell? ⟨w.heap.size, 1, none⟩ = some (.string t) := hS 1
  go_simp
  have hS7 := set_same (o := 1) (v := .string t) hS rfl
  refine hK _ _ ⟨hS7, ?_⟩
  clear hK K hS
  have hS := hS7
  refine wpAnyH_take (i := 8) (v := .pointer (some ⟨w.heap.size, 4, none⟩)) rfl (by kernel_rfl) (by kernel_rfl) (by kernel_rfl) (fun _ _ _ h => h) (Or.inl ⟨by rfl, ?r⟩) hS ?_
  case r => intro W hW; simp [go_sem, execOp, Act.eval]
  simp only [List.getElem_toArray, List.getElem_cons_zero, List.getElem_cons_succ, Act.put, List.setIfInBounds_toArray, List.set_cons_succ, List.set_cons_zero]
  refine wpAnyH_all (rs := [9]) (by kernel_rfl) (by simp) (fun i2 hi2 => ?_)
  obtain rfl : i2 = 9 := by simpa using hi2
  clear hi2
  refine wpOp_step rfl (fun K hK => ite_yes rfl ?_)
  simp only [List.getElem_toArray, List.getElem_cons_zero, List.getElem_cons_succ]
  have c4 : w6.cell? ⟨w.heap.size, 4, none⟩ = some (.string s) := HK.out _ hb6 4
  go_simp
  have hS9 := set_same (o := 4) (v := .string s) hS7 rfl
  refine hK _ _ ⟨hS9, ?_⟩
  clear hK K hS
  refine wpAnyH_done (by kernel_rfl) ?_ _
  refine NoPanic.normal ?_
  try simp only [Act.put]
  obtain ⟨W9, hW9⟩ : ∃ W9, W9 = ((w6.setCell ⟨w.heap.size, 1, none⟩ (.string t)).setCell ⟨w.heap.size, 4, none⟩ (.string s)) := ⟨_, rfl⟩
  have hB9 : Below w.heap.size w W9 := by rw [hW9]; exact ((hB2.trans (hb6.mono (by omega))).setCell (p := ⟨w.heap.size, 1, none⟩) (Nat.le_refl _) _).setCell (p := ⟨w.heap.size, 4, none⟩) (Nat.le_refl _) _
  have hf9 : ∀ j, W9.frozen? ⟨w.heap.size, j, none⟩ = false := fun j => by rw [hW9]; simp [go_sem, hfr]
  have hr9 : W9.heap[w.heap.size + 1]? = some (.cells zeros 39 (0, 0)) := by
    rw [hW9, Below.heap_setCell _ _ _ _ (by simp), Below.heap_setCell _ _ _ _ (by simp)]; exact (hb6.block (w.heap.size + 1) (by omega)).trans hrow1.out
  have hz9 : w.heap.size + 1 < W9.heap.size := row_ltT hr9
  have hbx9 : W9.heap[w.heap.size]? = some (.cells #[.int .i64 k, .string t, .int .i64 a, .int .u64 f, .string s, .int .i64 r0, .int .i64 r1, .int .i64 r2, .int .i64 r3, .slice pp path.length pc, .slice ip items.length ic] 39 (0, 0)) := by
    rw [hW9]; exact row_set (row_set ((hb6.block w.heap.size (by omega)).trans hrow0.out) 1 _) 4 _
  rw [← hW9] at hS9 ⊢
  obtain ⟨⟨d0, d1, d2, d3, d4, d5, d6, d7, d8, d9, d10⟩, hf2⟩ := box_keptD hr9
  clear hW9 hfr c1 c4 hS7 HK HC hrow0 hrow1
  have HR9 : Hid _ := hr9
  have hw9 : ∀ b, b < w.heap.size → W9.heap[b]? = w.heap[b]? := fun b hb => hB9.block b hb
  have HX9 : Hid (W9.heap[w.heap.size]? = some (.cells #[.int .i64 k, .string t, .int .i64 a, .int .u64 f, .string s, .int .i64 r0, .int .i64 r1, .int .i64 r2, .int .i64 r3, .slice pp path.length pc, .slice ip items.length ic] 39 (0, 0))) := hbx9
  have HB9 : Hid _ := hB9
  clear hr9 hbx9 hB9 d0 d1 d2 d3 d4 d5 d6 d7 d8 d9 d10 hf2
  go_wp2_with (first
    | (at_builtin; refine wpList_append_new rfl _ _ 27 rfl 3 i3 (.int .i64 0) 1 8 Tryd.underlying27 hi3 hz30 hz31 hz32 rfl (by decide) rfl pp path.length pc (path.map (Value.int .i64)) rfl (by simp) HPn.out (HPC.out W9 hw9) (numsOf path) (by unfold maxLen; omega) (by omega) ?_; intro pp2 pc2 w3 hN3; obtain ⟨w3s, hw3s⟩ : ∃ w3s, w3s = w3.setCell ⟨w.heap.size, 9, none⟩ (.slice pp2 path.length pc2) := ⟨_, rfl⟩; have HN3 : Hid (NewRow W9 w3 3 1 path.length (path.map (Value.int .i64)) pp2 pc2) := hN3; have hX3 := (hN3.2.2.1.block w.heap.size (by omega)).trans HX9.out; have hc3 := row_at hX3; have hf3 := fun j => fz _ _ _ _ j hX3; have HX3 : Hid _ := hX3; have hBz3 := hN3.2.2.1.size; have HW3 : Hid (w3s = w3.setCell ⟨w.heap.size, 9, none⟩ (.slice pp2 path.length pc2)) := hw3s; have hw3b : ∀ b, b < w.heap.size → w3s.heap[b]? = w.heap[b]? := (fun b hb => by rw [hw3s]; exact (heap_setCell_other _ _ _ _ _ (by omega)).trans ((hN3.2.2.1.block b (by omega)).trans (hw9 b hb))); clear hN3 hX3)
    | (at_builtin; rw [← hw3s]; refine wpList_append_new rfl _ _ 37 rfl 39 i28 (.agg zeros) 11 136 Tryd.underlying37 hi28 hz280 hz281 hz282 rfl (by decide) rfl ip items.length ic (rowOf items) rfl (rowOf_length items) HIn.out (HIC.out w3s hw3b) (rowOf_one items) (by unfold maxLen; omega) (by omega) ?_; intro ip2 ic2 w4 hN4; have HN4 : Hid (NewRow w3s w4 39 11 items.length (rowOf items) ip2 ic2) := hN4; clear hN4))
  have hz3s : w3s.heap.size = w3.heap.size := by rw [HW3.out]; simp
  have hX3s : w3s.heap[w.heap.size]? = some (.cells #[.int .i64 k, .string t, .int .i64 a, .int .u64 f, .string s, .int .i64 r0, .int .i64 r1, .int .i64 r2, .int .i64 r3, .slice pp2 path.length pc2, .slice ip items.length ic] 39 (0, 0)) := by
    rw [HW3.out]; exact row_set HX3.out 9 _
  have hR3s : w3s.heap[w.heap.size + 1]? = some (.cells zeros 39 (0, 0)) := by
    rw [HW3.out, heap_setCell_other _ _ _ _ _ (by omega)]; exact (HN3.out.2.2.1.block _ hz9).trans HR9.out
  have HPr : Hid (path = [] ∨ ∃ g, pp2 = some ⟨g, 0, none⟩ ∧ g < w3s.heap.size ∧ W9.heap.size ≤ g ∧ ∀ (i : Nat) (hi : i < path.length), w3s.cell? ⟨g, 0 + i, none⟩ = some (.int .i64 path[i])) := by
    rcases path_row HN3.out with e | ⟨g, e1, e2, e3, e4⟩
    · exact .inl e
    · refine .inr ⟨g, e1, by omega, e3, fun i hi => ?_⟩
      refine (World.cell?_of_block (a := ⟨g, 0 + i, none⟩) ?_).trans (e4 i hi)
      rw [HW3.out]; exact heap_setCell_other _ _ _ _ _ (show g ≠ w.heap.size by omega)
  have hwz : w.heap.size + 2 ≤ W9.heap.size := by omega
  have HPg : Hid (path.length = 0 ∨ ∃ g cur, pp2 = some ⟨g, 0, none⟩ ∧ w.heap.size + 2 ≤ g ∧ g < w3s.heap.size ∧ w3s.heap[g]? = some (.cells cur 3 (0, 0)) ∧ path.length ≤ cur.size) := by
    rcases HN3.out.2.2.2.2 with ⟨e, _⟩ | ⟨g, cur, _, e1, e2, e3, e4, e5, _⟩
    · exact .inl e
    · exact .inr ⟨g, cur, e1, by omega, by omega, by rw [HW3.out]; exact (heap_setCell_other _ _ _ _ _ (show g ≠ w.heap.size by omega)).trans e4, by omega⟩
  have HPa : Hid (path.length ≤ pc2 ∧ pc2 ≤ maxLen ∧ ∀ b o, pp2 = some ⟨b, o, none⟩ → w.heap.size ≤ b) := ⟨HN3.out.1, HN3.out.2.1, fun b o e => by have := HN3.out.2.2.2.1 b o e; omega⟩
  have HB3 : Hid (Below w.heap.size w w3s) := by rw [HW3.out]; exact (HB9.out.trans (HN3.out.2.2.1.mono HB9.out.size)).setCell (p := ⟨w.heap.size, 9, none⟩) (Nat.le_refl _) _
  have HXR : Hid (∀ W, Below w3s.heap.size w3s W → W.heap[w.heap.size]? = some (.cells #[.int .i64 k, .string t, .int .i64 a, .int .u64 f, .string s, .int .i64 r0, .int .i64 r1, .int .i64 r2, .int .i64 r3, .slice pp2 path.length pc2, .slice ip items.length ic] 39 (0, 0)) ∧ W.heap[w.heap.size + 1]? = some (.cells zeros 39 (0, 0))) := fun W hW => ⟨(hW.block _ (by omega)).trans hX3s, (hW.block _ (by omega)).trans hR3s⟩
  clear HX3 HN3 HW3 hw3s hX3s hR3s hw3b HX9 HR9 hw9 HPC HIC HPn HIn hc3 hf3 HB9
  obtain rfl := HE0.out
  clear HE0
  obtain ⟨_, _, hb4, _, h4⟩ := HN4.out
  obtain ⟨rfl, rfl⟩ : ip2 = none ∧ ic2 = 0 := by
    rcases h4 with ⟨_, e1, e2⟩ | ⟨g, cur, e, _⟩
    · exact ⟨e1, e2⟩
    · simp at e
  obtain ⟨hX4, hR4⟩ := HXR.out w4 hb4
  have hc4 := row_at hX4
  have hf4 := fun j => fz _ _ _ _ j hX4
  have hr4 : ∀ j, w4.cell? ⟨w.heap.size + 1, j, none⟩ = (#[.int .i64 0, .string ⟨#[]⟩, .int .i64 0, .int .u64 0, .string ⟨#[]⟩, .int .i64 0, .int .i64 0, .int .i64 0, .int .i64 0, .slice none 0 0, .slice none 0 0] : Array Value)[j]? := row_at hR4
  have hg4 := fun j => fz _ _ _ _ j hR4
  have HB4 : Hid (Below w3s.heap.size w3s w4) := hb4
  clear h4 hb4 hX4 hR4 HN4
  go_wp2_with fail
  go_rounds 1
  refine bodyPost_ret (v := .agg #[.int .i64 k, .string t, .int .i64 a, .int .u64 f, .string s, .int .i64 r0, .int .i64 r1, .int .i64 r2, .int .i64 r3, .slice pp2 path.length pc2, .slice none 0 0]) (by simp [results, Tryd.results24, go_sem, hr4]) rfl ?_
  obtain ⟨q1, q2⟩ := HA.out
  obtain ⟨p1, p2, p3⟩ := HPa.out
  have hBF : Below w.heap.size w w4 := HB3.out.trans (HB4.out.mono HB3.out.size)
  have hz4 := HB4.out.size
  refine copy_doneG (ip := ip) (ic := ic) (items := []) pp2 pc2 none 0 [] (bset (hBF.setCell (p := ⟨w.heap.size, 10, none⟩) (Nat.le_refl _) _) (by omega) _ _ _ _ _ _ _ _ _ _ _) q1 q2 p1 p2 ⟨path_kept2 HPr.out hwz (fun b h1 h2 => (eleven_after w4 w.heap.size b (by omega) (by omega) 10 _ _ _ _ _ _ _ _ _ _ _ _).trans (HB4.out.block b h2)) (by simp; omega), p3⟩ rfl (Nat.le_refl _) (Nat.zero_le _) (.inl rfl) ⟨fun _ _ e => (by cases e), fun x hx => (by cases hx)⟩ rfl (path_good HPg.out (fun b h1 h2 => (eleven_after w4 w.heap.size b (by omega) (by omega) 10 _ _ _ _ _ _ _ _ _ _ _ _).trans (HB4.out.block b h2)) (by simp; omega)) (.inl rfl)
set_option maxRecDepth 100000 in
set_option maxHeartbeats 8000000 in
theorem copiedG_i (n : Nat) (k : Int) (t : ByteArray) (a f : Int) (s : ByteArray) (r0 r1 r2 r3 : Int) (pp : Option Addr) (path : List Int) (pc : Nat) (ip : Option Addr) (ic : Nat) (items : List MD) (w : World) (hI : GCopyC n) (hne : 0 < items.length)
    (hin : MD.In w.heap.size w (n + 1) ⟨⟨k, t, a, f, s, r0, r1, r2, r3, pp, path, pc⟩, ip, ic, items⟩) (hf : MD.full (n + 1) ⟨⟨k, t, a, f, s, r0, r1, r2, r3, pp, path, pc⟩, ip, ic, items⟩ = true) :
    Calls Tryd.prog 24 #[.agg #[.int .i64 k, .string t, .int .i64 a, .int .u64 f, .string s, .int .i64 r0, .int .i64 r1, .int .i64 r2, .int .i64 r3, .slice pp path.length pc, .slice ip items.length ic]] w (CopyG (n + 1) ⟨⟨k, t, a, f, s, r0, r1, r2, r3, pp, path, pc⟩, ip, ic, items⟩ w) := by
  have hF := hin.fine
  have hP := hin.path
  have hits := hin.items
  have hlen := hin.len
  have fx2 : (headOK ⟨k, t, a, f, s, r0, r1, r2, r3, pp, path, pc⟩ items.length && (k != 8 || (decide (items.length ≤ 30) && items.all (MD.full n)))) = true := hf
  rw [Bool.and_eq_true] at fx2
  obtain ⟨hp100, _⟩ := head_path fx2.1
  have hty : tyB k t = true := by
    have := fx2.1
    unfold headOK at this
    rw [Bool.and_eq_true, Bool.and_eq_true] at this
    exact this.1.1
  have ht40 := ty_small hty
  obtain ⟨hs65, hi30⟩ := full_small hf
  have HFi : Hid (∀ q ∈ items, MD.full n q = true) := full_items hf
  simp only at hp100 hs65 hi30
  have ht : t.size ≤ 140737488351232 := by omega
  have hs : s.size ≤ 140737488351232 := by omega
  have HPn : Hid (pp = none → path.length = 0) := fun e => by
    rcases hP.2 with e1 | ⟨b, o, e1, _⟩
    · have e1' : path = [] := e1
      rw [e1']; rfl
    · exact absurd (e.symm.trans e1) (by simp)
  have HIn : Hid (ip = none → items.length = 0) := fun e => by
    rcases hits with e1 | ⟨b, o, e1, _⟩
    · have e1' : items = [] := e1
      rw [e1']; rfl
    · exact absurd (e.symm.trans e1) (by simp)
  have HPC : Hid (∀ W : World, (∀ b, b < w.heap.size → W.heap[b]? = w.heap[b]?) → ∀ ad, pp = some ad → ∀ (j : Nat) (u : Value), (path.map (Value.int .i64))[j]? = some u → W.cell? (ad.add j) = some u) := fun W hW ad e => path_cells (by rw [← e]; exact hP.2) W hW
  have HIC : Hid (∀ W : World, (∀ b, b < w.heap.size → W.heap[b]? = w.heap[b]?) → ∀ ad, ip = some ad → ∀ (j : Nat) (u : Value), (rowOf items)[j]? = some u → W.cell? (ad.add j) = some u) := fun W hW ad e => rowOf_cells (by
    rcases hits with e1 | ⟨b, o, e1, e2, e3⟩
    · exact .inl e1
    · exact .inr ⟨b, o, e ▸ e1, fun i hi => (e3 i hi).1.other (hW b e2)⟩)
  have HIt : Hid (MD.ItemsIn w.heap.size w n ⟨⟨k, t, a, f, s, r0, r1, r2, r3, pp, path, pc⟩, ip, ic, items⟩) := hits
  have HA : Hid (MD.Fine ⟨k, t, a, f, s, r0, r1, r2, r3, pp, path, pc⟩ ∧ (∀ x ∈ path, -9223372036854775808 ≤ x ∧ x ≤ 9223372036854775807)) := ⟨hF, hP.1⟩
  obtain ⟨i3, hi3, hz30, hz31, hz32⟩ := info_parts info3z
  obtain ⟨i28, hi28, hz280, hz281, hz282⟩ := info_parts info28z
  clear fx2 hty hin hf hF hP hits hlen
  obtain ⟨W2, hW2⟩ : ∃ W2, W2 = (w.alloc (.cells #[.int .i64 k, .string t, .int .i64 a, .int .u64 f, .string s, .int .i64 r0, .int .i64 r1, .int .i64 r2, .int .i64 r3, .slice pp path.length pc, .slice ip items.length ic] 39)).alloc (.cells #[.int .i64 0, .string ⟨#[]⟩, .int .i64 0, .int .u64 0, .string ⟨#[]⟩, .int .i64 0, .int .i64 0, .int .i64 0, .int .i64 0, .slice none 0 0, .slice none 0 0] 39) := ⟨_, rfl⟩
  have hB2 : Below w.heap.size w W2 := by rw [hW2]; exact below2 _ _ _
  have hz2 : W2.heap.size = w.heap.size + 2 := by rw [hW2]; simp
  have hrow0 : Hid (W2.heap[w.heap.size]? = some (.cells #[.int .i64 k, .string t, .int .i64 a, .int .u64 f, .string s, .int .i64 r0, .int .i64 r1, .int .i64 r2, .int .i64 r3, .slice pp path.length pc, .slice ip items.length ic] 39 (0, 0))) := by rw [hW2, Below.heap_alloc _ _ _ (by simp)]; exact heap_alloc_new _ _
  have hrow1 : Hid (W2.heap[w.heap.size + 1]? = some (.cells zeros 39 (0, 0))) := by rw [hW2]; exact heap2_1 _ _ _
  have HK : Hid (∀ W, Below W2.heap.size W2 W → (∀ j, W.cell? ⟨w.heap.size, j, none⟩ = (#[.int .i64 k, .string t, .int .i64 a, .int .u64 f, .string s, .int .i64 r0, .int .i64 r1, .int .i64 r2, .int .i64 r3, .slice pp path.length pc, .slice ip items.length ic] : Array Value)[j]?)) := fun W hW j => row_at ((hW.block w.heap.size (by omega)).trans hrow0.out) j
  have HC : Hid (∀ (u : ByteArray) (W : World), u.size ≤ 140737488351232 → Calls Tryd.prog 39 #[.string u] W fun r w' => r = .returned (.string u) ∧ Below W.heap.size W w') := fun u W h => clone_any u W h
  go_enter Tryd.func24, Tryd.ntmps24
  go_wp2_with fail
  rw [← hW2]
  clear hW2
  refine wp_region_noPanic ?_
  refine wp_region_held (S := fun W => ∀ j, W.cell? ⟨w.heap.size, j, none⟩ = (#[.int .i64 k, .string t, .int .i64 a, .int .u64 f, .string s, .int .i64 r0, .int .i64 r1, .int .i64 r2, .int .i64 r3, .slice pp path.length pc, .slice ip items.length ic] : Array Value)[j]?) (by kernel_rfl) ?_
  obtain ⟨W4, hW4⟩ : ∃ W4, W4 = W2.drew := ⟨_, rfl⟩
  have e4 : ({ W2 with drawn := W2.drawn + 1 } : World) = W4 := hW4.symm
  rw [e4]
  have hB4 : Below W2.heap.size W2 W4 := by rw [hW4]; exact (Below.refl _ _).drew
  have hS := HK.out W4 hB4
  clear e4 hW4
  refine wpAnyH_take (i := 0) (v := .pointer (some ⟨w.heap.size, 1, none⟩)) rfl (by kernel_rfl) (by kernel_rfl) (by kernel_rfl) (fun _ _ _ h => h) (Or.inl ⟨by rfl, ?r⟩) hS ?_
  case r => intro W hW; simp [go_sem, execOp, Act.eval]
  simp only [List.getElem_toArray, List.getElem_cons_zero, Act.put, List.setIfInBounds_toArray, List.set_cons_succ, List.set_cons_zero]
  refine wpAnyH_take (i := 1) (v := .string t) rfl (by kernel_rfl) (by kernel_rfl) (by kernel_rfl) (fun _ _ _ h => h) (Or.inl ⟨by rfl, ?r⟩) hS ?_
  case r => intro W hW; simp [go_sem, execOp, Act.eval, hW]
  simp only [List.getElem_toArray, List.getElem_cons_zero, List.getElem_cons_succ, Act.put, List.setIfInBounds_toArray, List.set_cons_succ, List.set_cons_zero]
  refine wpAnyH_take (i := 3) (v := .pointer (some ⟨w.heap.size, 4, none⟩)) rfl (by kernel_rfl) (by kernel_rfl) (by kernel_rfl) (fun _ _ _ h => h) (Or.inl ⟨by rfl, ?r⟩) hS ?_
  case r => intro W hW; simp [go_sem, execOp, Act.eval]
  simp only [List.getElem_toArray, List.getElem_cons_zero, List.getElem_cons_succ, Act.put, List.setIfInBounds_toArray, List.set_cons_succ, List.set_cons_zero]
  refine wpAnyH_take (i := 4) (v := .string s) rfl (by kernel_rfl) (by kernel_rfl) (by kernel_rfl) (fun _ _ _ h => h) (Or.inl ⟨by rfl, ?r⟩) hS ?_
  case r => intro W hW; simp [go_sem, execOp, Act.eval, hW]
  simp only [List.getElem_toArray, List.getElem_cons_zero, List.getElem_cons_succ, Act.put, List.setIfInBounds_toArray, List.set_cons_succ, List.set_cons_zero]
  refine wpAnyH_all (rs := [2]) (by kernel_rfl) (by simp) (fun i2 hi2 => ?_)
  obtain rfl : i2 = 2 := by simpa using hi2
  clear hi2
  refine wpOp_step rfl (fun K hK => ite_yes rfl ?_)
  simp only [List.getElem_toArray, List.getElem_cons_zero, List.getElem_cons_succ]
  go_simp
  refine (HC.out _ _ ht).mono ?_
  rintro e w5 ⟨rfl, b5⟩
  have hb5 : Below W2.heap.size W2 w5 := hB4.trans (b5.mono hB4.size)
  go_simp
  refine hK _ _ ⟨HK.out _ hb5, ?_⟩
  clear hK K hS
  have hS := HK.out _ hb5
  refine wpAnyH_take (i := 6) (v := .pointer (some ⟨w.heap.size, 1, none⟩)) rfl (by kernel_rfl) (by kernel_rfl) (by kernel_rfl) (fun _ _ _ h => h) (Or.inl ⟨by rfl, ?r⟩) hS ?_
  case r => intro W hW; simp [go_sem, execOp, Act.eval]
  simp only [List.getElem_toArray, List.getElem_cons_zero, List.getElem_cons_succ, Act.put, List.setIfInBounds_toArray, List.set_cons_succ, List.set_cons_zero]
  refine wpAnyH_all (rs := [5]) (by kernel_rfl) (by simp) (fun i2 hi2 => ?_)
  obtain rfl : i2 = 5 := by simpa using hi2
  clear hi2
  refine wpOp_step rfl (fun K hK => ite_yes rfl ?_)
  simp only [List.getElem_toArray, List.getElem_cons_zero, List.getElem_cons_succ]
  go_simp
  refine (HC.out _ _ hs).mono ?_
  rintro e w6 ⟨rfl, b6⟩
  have hb6 : Below W2.heap.size W2 w6 := hb5.trans (b6.mono hb5.size)
  go_simp
  refine hK _ _ ⟨HK.out _ hb6, ?_⟩
  clear hK K hS
  have hS := HK.out _ hb6
  have hfr : ∀ j, w6.frozen? ⟨w.heap.size, j, none⟩ = false := fun j => fz _ _ _ _ j ((hb6.block w.heap.size (by omega)).trans hrow0.out)
  refine wpAnyH_all (rs := [7]) (by kernel_rfl) (by simp) (fun i2 hi2 => ?_)
  obtain rfl : i2 = 7 := by simpa using hi2
  clear hi2
  refine wpOp_step rfl (fun K hK => ite_yes rfl ?_)
  simp only [List.getElem_toArray, List.getElem_cons_zero, List.getElem_cons_succ]
  have c1 : w6.cell? ⟨w.heap.size, 1, none⟩ = some (.string t) := hS 1
  go_simp
  have hS7 := set_same (o := 1) (v := .string t) hS rfl
  refine hK _ _ ⟨hS7, ?_⟩
  clear hK K hS
  have hS := hS7
  refine wpAnyH_take (i := 8) (v := .pointer (some ⟨w.heap.size, 4, none⟩)) rfl (by kernel_rfl) (by kernel_rfl) (by kernel_rfl) (fun _ _ _ h => h) (Or.inl ⟨by rfl, ?r⟩) hS ?_
  case r => intro W hW; simp [go_sem, execOp, Act.eval]
  simp only [List.getElem_toArray, List.getElem_cons_zero, List.getElem_cons_succ, Act.put, List.setIfInBounds_toArray, List.set_cons_succ, List.set_cons_zero]
  refine wpAnyH_all (rs := [9]) (by kernel_rfl) (by simp) (fun i2 hi2 => ?_)
  obtain rfl : i2 = 9 := by simpa using hi2
  clear hi2
  refine wpOp_step rfl (fun K hK => ite_yes rfl ?_)
  simp only [List.getElem_toArray, List.getElem_cons_zero, List.getElem_cons_succ]
  have c4 : w6.cell? ⟨w.heap.size, 4, none⟩ = some (.string s) := HK.out _ hb6 4
  go_simp
  have hS9 := set_same (o := 4) (v := .string s) hS7 rfl
  refine hK _ _ ⟨hS9, ?_⟩
  clear hK K hS
  refine wpAnyH_done (by kernel_rfl) ?_ _
  refine NoPanic.normal ?_
  try simp only [Act.put]
  obtain ⟨W9, hW9⟩ : ∃ W9, W9 = ((w6.setCell ⟨w.heap.size, 1, none⟩ (.string t)).setCell ⟨w.heap.size, 4, none⟩ (.string s)) := ⟨_, rfl⟩
  have hB9 : Below w.heap.size w W9 := by rw [hW9]; exact ((hB2.trans (hb6.mono (by omega))).setCell (p := ⟨w.heap.size, 1, none⟩) (Nat.le_refl _) _).setCell (p := ⟨w.heap.size, 4, none⟩) (Nat.le_refl _) _
  have hf9 : ∀ j, W9.frozen? ⟨w.heap.size, j, none⟩ = false := fun j => by rw [hW9]; simp [go_sem, hfr]
  have hr9 : W9.heap[w.heap.size + 1]? = some (.cells zeros 39 (0, 0)) := by
    rw [hW9, Below.heap_setCell _ _ _ _ (by simp), Below.heap_setCell _ _ _ _ (by simp)]; exact (hb6.block (w.heap.size + 1) (by omega)).trans hrow1.out
  have hz9 : w.heap.size + 1 < W9.heap.size := row_ltT hr9
  have hbx9 : W9.heap[w.heap.size]? = some (.cells #[.int .i64 k, .string t, .int .i64 a, .int .u64 f, .string s, .int .i64 r0, .int .i64 r1, .int .i64 r2, .int .i64 r3, .slice pp path.length pc, .slice ip items.length ic] 39 (0, 0)) := by
    rw [hW9]; exact row_set (row_set ((hb6.block w.heap.size (by omega)).trans hrow0.out) 1 _) 4 _
  rw [← hW9] at hS9 ⊢
  obtain ⟨⟨d0, d1, d2, d3, d4, d5, d6, d7, d8, d9, d10⟩, hf2⟩ := box_keptD hr9
  clear hW9 hfr c1 c4 hS7 HK HC hrow0 hrow1
  have HR9 : Hid _ := hr9
  have hw9 : ∀ b, b < w.heap.size → W9.heap[b]? = w.heap[b]? := fun b hb => hB9.block b hb
  have HX9 : Hid (W9.heap[w.heap.size]? = some (.cells #[.int .i64 k, .string t, .int .i64 a, .int .u64 f, .string s, .int .i64 r0, .int .i64 r1, .int .i64 r2, .int .i64 r3, .slice pp path.length pc, .slice ip items.length ic] 39 (0, 0))) := hbx9
  have HB9 : Hid _ := hB9
  clear hr9 hbx9 hB9 d0 d1 d2 d3 d4 d5 d6 d7 d8 d9 d10 hf2
  go_wp2_with (first
    | (at_builtin; refine wpList_append_new rfl _ _ 27 rfl 3 i3 (.int .i64 0) 1 8 Tryd.underlying27 hi3 hz30 hz31 hz32 rfl (by decide) rfl pp path.length pc (path.map (Value.int .i64)) rfl (by simp) HPn.out (HPC.out W9 hw9) (numsOf path) (by unfold maxLen; omega) (by omega) ?_; intro pp2 pc2 w3 hN3; obtain ⟨w3s, hw3s⟩ : ∃ w3s, w3s = w3.setCell ⟨w.heap.size, 9, none⟩ (.slice pp2 path.length pc2) := ⟨_, rfl⟩; have HN3 : Hid (NewRow W9 w3 3 1 path.length (path.map (Value.int .i64)) pp2 pc2) := hN3; have hX3 := (hN3.2.2.1.block w.heap.size (by omega)).trans HX9.out; have hc3 := row_at hX3; have hf3 := fun j => fz _ _ _ _ j hX3; have HX3 : Hid _ := hX3; have hBz3 := hN3.2.2.1.size; have HW3 : Hid (w3s = w3.setCell ⟨w.heap.size, 9, none⟩ (.slice pp2 path.length pc2)) := hw3s; have hw3b : ∀ b, b < w.heap.size → w3s.heap[b]? = w.heap[b]? := (fun b hb => by rw [hw3s]; exact (heap_setCell_other _ _ _ _ _ (by omega)).trans ((hN3.2.2.1.block b (by omega)).trans (hw9 b hb))); clear hN3 hX3)
    | (at_builtin; rw [← hw3s]; refine wpList_append_new rfl _ _ 37 rfl 39 i28 (.agg zeros) 11 136 Tryd.underlying37 hi28 hz280 hz281 hz282 rfl (by decide) rfl ip items.length ic (rowOf items) rfl (rowOf_length items) HIn.out (HIC.out w3s hw3b) (rowOf_one items) (by unfold maxLen; omega) (by omega) ?_; intro ip2 ic2 w4 hN4; have HN4 : Hid (NewRow w3s w4 39 11 items.length (rowOf items) ip2 ic2) := hN4; clear hN4))
  have hz3s : w3s.heap.size = w3.heap.size := by rw [HW3.out]; simp
  have hX3s : w3s.heap[w.heap.size]? = some (.cells #[.int .i64 k, .string t, .int .i64 a, .int .u64 f, .string s, .int .i64 r0, .int .i64 r1, .int .i64 r2, .int .i64 r3, .slice pp2 path.length pc2, .slice ip items.length ic] 39 (0, 0)) := by
    rw [HW3.out]; exact row_set HX3.out 9 _
  have hR3s : w3s.heap[w.heap.size + 1]? = some (.cells zeros 39 (0, 0)) := by
    rw [HW3.out, heap_setCell_other _ _ _ _ _ (by omega)]; exact (HN3.out.2.2.1.block _ hz9).trans HR9.out
  have HPr : Hid (path = [] ∨ ∃ g, pp2 = some ⟨g, 0, none⟩ ∧ g < w3s.heap.size ∧ W9.heap.size ≤ g ∧ ∀ (i : Nat) (hi : i < path.length), w3s.cell? ⟨g, 0 + i, none⟩ = some (.int .i64 path[i])) := by
    rcases path_row HN3.out with e | ⟨g, e1, e2, e3, e4⟩
    · exact .inl e
    · refine .inr ⟨g, e1, by omega, e3, fun i hi => ?_⟩
      refine (World.cell?_of_block (a := ⟨g, 0 + i, none⟩) ?_).trans (e4 i hi)
      rw [HW3.out]; exact heap_setCell_other _ _ _ _ _ (show g ≠ w.heap.size by omega)
  have hwz : w.heap.size + 2 ≤ W9.heap.size := by omega
  have HPg : Hid (path.length = 0 ∨ ∃ g cur, pp2 = some ⟨g, 0, none⟩ ∧ w.heap.size + 2 ≤ g ∧ g < w3s.heap.size ∧ w3s.heap[g]? = some (.cells cur 3 (0, 0)) ∧ path.length ≤ cur.size) := by
    rcases HN3.out.2.2.2.2 with ⟨e, _⟩ | ⟨g, cur, _, e1, e2, e3, e4, e5, _⟩
    · exact .inl e
    · exact .inr ⟨g, cur, e1, by omega, by omega, by rw [HW3.out]; exact (heap_setCell_other _ _ _ _ _ (show g ≠ w.heap.size by omega)).trans e4, by omega⟩
  have HPa : Hid (path.length ≤ pc2 ∧ pc2 ≤ maxLen ∧ ∀ b o, pp2 = some ⟨b, o, none⟩ → w.heap.size ≤ b) := ⟨HN3.out.1, HN3.out.2.1, fun b o e => by have := HN3.out.2.2.2.1 b o e; omega⟩
  have HB3 : Hid (Below w.heap.size w w3s) := by rw [HW3.out]; exact (HB9.out.trans (HN3.out.2.2.1.mono HB9.out.size)).setCell (p := ⟨w.heap.size, 9, none⟩) (Nat.le_refl _) _
  have HXR : Hid (∀ W, Below w3s.heap.size w3s W → W.heap[w.heap.size]? = some (.cells #[.int .i64 k, .string t, .int .i64 a, .int .u64 f, .string s, .int .i64 r0, .int .i64 r1, .int .i64 r2, .int .i64 r3, .slice pp2 path.length pc2, .slice ip items.length ic] 39 (0, 0)) ∧ W.heap[w.heap.size + 1]? = some (.cells zeros 39 (0, 0))) := fun W hW => ⟨(hW.block _ (by omega)).trans hX3s, (hW.block _ (by omega)).trans hR3s⟩
  clear HX3 HN3 HW3 hw3s hX3s hR3s hw3b HX9 HR9 hw9 HPC HIC HPn HIn hc3 hf3 HB9
  obtain ⟨hi1, hi2, hb4, _, h4⟩ := HN4.out
  obtain ⟨g, cur, rfl, hgl, hgw, hg4, hgs, hgt⟩ : ∃ g cur, ip2 = some ⟨g, 0, none⟩ ∧ w3s.heap.size ≤ g ∧ g < w4.heap.size ∧ w4.heap[g]? = some (.cells cur 39 (0, 0)) ∧ items.length * 11 ≤ cur.size ∧ cur.toList.take (items.length * 11) = rowOf items := by
    rcases h4 with ⟨e, _⟩ | ⟨g, cur, _, e1, e2, e3, e4, e5, e6⟩
    · omega
    · exact ⟨g, cur, e1, e2, e3, e4, e5, e6⟩
  have HC4 : Hid (∀ (j : Nat) (hj : j < items.length), 0 ≤ j → MD.CellsAt w4 g (j * 11) items[j]) := fun j hj _ => rowOf_at hg4 hgt j hj
  obtain ⟨m, hm⟩ : ∃ m, m = cur.size := ⟨_, rfl⟩
  have HT4 : Hid (∃ c, w4.heap[g]? = some (.cells c 39 (0, 0)) ∧ c.size = m) := ⟨cur, hg4, hm.symm⟩
  have HM : Hid (items.length * 11 ≤ m) := by show _ ≤ _; omega
  have HB4 : Hid (Below w3s.heap.size w3s w4) := hb4
  have HI : Hid (GCopyC n) := hI
  clear h4 hb4 HN4 hg4 hgs hgt hI hm
  go_wp2_with fail
  go_loopw [25] (fun i wr => VRelG n m items w3s g i wr) (fun i _ => items.length - (intOf i).toNat)
  case atStart => exact ⟨0, rfl, ⟨0, [], Nat.zero_le _, rfl, rfl, HB4.out, hgw, HT4.out, fun i hi => absurd hi (by simp), rfl⟩, HC4.out⟩
  case round =>
    obtain ⟨k', rfl, ⟨k'', ds, hk, e, hds, hb', hg, hth, hc', ha⟩, hrest⟩ := hrel
    obtain rfl : k' = k'' := by injection e with _ e2; omega
    obtain ⟨hbox, hres⟩ := HXR.out wr hb'
    have hb0 : Below w.heap.size w wr := HB3.out.trans (hb'.mono HB3.out.size)
    by_cases hlt : k' < items.length
    · have i1 : (k' : Int) < items.length := by omega
      have hIn : MD.In w.heap.size wr n items[k'] := by
        rcases MD.ItemsIn.below HIt.out hb0 with e | ⟨bb, o, e1, e2, e3⟩
        · have e' : items = [] := e
          rw [e'] at hlt; simp at hlt
        · exact (e3 k' hlt).2
      have hC := hrest k' hlt (Nat.le_refl _)
      have HN : Hid (∀ (w9 : World) (d : MD), Below wr.heap.size wr w9 → MD.In w9.heap.size w9 n d → MD.Above wr.heap.size n d → MD.same n items[k'] d = true → Good wr.heap.size w9.heap.size w9 n d → VRelG n m items w3s g (.int .i64 ((k' : Int) + 1)) (w9.setCells g (k' * 11) d.cells.toList)) := fun w9 d h1 h2 h3 h4 h5 =>
        ⟨k' + 1, by simp, by
          have := GRel.next (mk := False) hlt HM.out hds hb' hgl hg hth hc' ha h1 h2 h3 h4 h5 (fun h => h.elim)
          simpa using this, VRel.rest hrest hg h1⟩
      have HO : Hid (wr.there g 0 (items.length * 11)) := by
        obtain ⟨c, x1, x2⟩ := hth
        exact there_at x1 (by have := HM.out; omega)
      have HFk := HFi.out _ (List.getElem_mem hlt)
      generalize items[k'] = kid at hC hIn HN HFk
      obtain ⟨⟨k0, k1, k2, k3, k4, k5, k6, k7, k8, kp, kpath, kpc⟩, kip, kic, kit⟩ := kid
      have c0 : wr.cell? ⟨g, k' * 11, none⟩ = some (.int .i64 k0) := hC 0 (by omega)
      have c1 : wr.cell? ⟨g, k' * 11 + 1, none⟩ = some (.string k1) := hC 1 (by omega)
      have c2 : wr.cell? ⟨g, k' * 11 + 2, none⟩ = some (.int .i64 k2) := hC 2 (by omega)
      have c3 : wr.cell? ⟨g, k' * 11 + 3, none⟩ = some (.int .u64 k3) := hC 3 (by omega)
      have c4 : wr.cell? ⟨g, k' * 11 + 4, none⟩ = some (.string k4) := hC 4 (by omega)
      have c5 : wr.cell? ⟨g, k' * 11 + 5, none⟩ = some (.int .i64 k5) := hC 5 (by omega)
      have c6 : wr.cell? ⟨g, k' * 11 + 6, none⟩ = some (.int .i64 k6) := hC 6 (by omega)
      have c7 : wr.cell? ⟨g, k' * 11 + 7, none⟩ = some (.int .i64 k7) := hC 7 (by omega)
      have c8 : wr.cell? ⟨g, k' * 11 + 8, none⟩ = some (.int .i64 k8) := hC 8 (by omega)
      have c9 : wr.cell? ⟨g, k' * 11 + 9, none⟩ = some (.slice kp kpath.length kpc) := hC 9 (by omega)
      have c10 : wr.cell? ⟨g, k' * 11 + 10, none⟩ = some (.slice kip kit.length kic) := hC 10 (by omega)
      have HC : Hid (∀ W, Below wr.heap.size wr W → Calls Tryd.prog 24 #[.agg #[.int .i64 k0, .string k1, .int .i64 k2, .int .u64 k3, .string k4, .int .i64 k5, .int .i64 k6, .int .i64 k7, .int .i64 k8, .slice kp kpath.length kpc, .slice kip kit.length kic]] W (CopyG n ⟨⟨k0, k1, k2, k3, k4, k5, k6, k7, k8, kp, kpath, kpc⟩, kip, kic, kit⟩ W)) := fun W hW => HI.out ⟨⟨k0, k1, k2, k3, k4, k5, k6, k7, k8, kp, kpath, kpc⟩, kip, kic, kit⟩ W (MD.In.later hIn hb0.size hW) HFk
      clear hC hIn HFk ha hc' hb' hbox hres hb0 hth HI hrest
      go_wp2_with (go_at_call 24; refine (HC.out _ (below1 _ _)).mono ?_; rintro r w9 ⟨d', rfl, hd1, hd2, hd3, hd4, hd6⟩; obtain ⟨⟨l0, l1, l2, l3, l4, l5, l6, l7, l8, lp, lpath, lpc⟩, lip, lic, lit⟩ := d'; have hd5 : Below wr.heap.size wr w9 := (below1 _ _).trans (hd4.mono (by simp)); have HR := HN.out w9 ⟨⟨l0, l1, l2, l3, l4, l5, l6, l7, l8, lp, lpath, lpc⟩, lip, lic, lit⟩ hd5 hd1 (MD.Above.mono (by simp) n _ hd2) hd3 (Good.mono (by simp) (Nat.le_refl _) n _ hd6); have HR2 : Hid _ := HR; obtain ⟨u0, u1, u2, u3, u4, u5, u6, u7, u8, u9, u10, ⟨e0, e1, e2, e3, e4, e5, e6, e7, e8, e9, e10⟩, f0, f1, f2, f3, f4, f5, f6, f7, f8, f9, f10⟩ := old_cells (there_below HO.out hg hd5) (show k' * 11 + 11 ≤ items.length * 11 by omega); simp only [MD.val, D]; clear HR hd1 hd2 hd3 hd4 hd5 hd6)
      exact ⟨HR2.out, by simp [intOf]; omega⟩
    · have i1 : ¬ (k' : Int) < items.length := by omega
      obtain rfl : k' = items.length := by omega
      rw [List.take_of_length_le (Nat.le_refl _)] at ha
      have hcb := row_at hbox
      have hfb := fun j => fz _ _ _ _ j hbox
      have hrc : ∀ j, wr.cell? ⟨w.heap.size + 1, j, none⟩ = (#[.int .i64 0, .string ⟨#[]⟩, .int .i64 0, .int .u64 0, .string ⟨#[]⟩, .int .i64 0, .int .i64 0, .int .i64 0, .int .i64 0, .slice none 0 0, .slice none 0 0] : Array Value)[j]? := row_at hres
      have hrf := fun j => fz _ _ _ _ j hres
      have HE : Hid (ds.length = items.length ∧ Below w3s.heap.size w3s wr ∧ g < wr.heap.size ∧ (∀ (i : Nat) (hi : i < ds.length), MD.CellsAt wr g (i * 11) ds[i] ∧ MD.In wr.heap.size wr n ds[i] ∧ MD.Above (g + 1) n ds[i] ∧ Good (g + 1) wr.heap.size wr n ds[i] ∧ (False → Marks wr n ds[i])) ∧ all2 (MD.same n) items ds = true ∧ (∃ c, wr.heap[g]? = some (.cells c 39 (0, 0)) ∧ c.size = m)) := ⟨hds, hb', hg, hc', ha, hth⟩
      have hwr : w3s.heap.size ≤ wr.heap.size := hb'.size
      clear ha hc' hb' hbox hres hb0 hth HI hds hrest e
      go_wp2_with fail
      refine bodyPost_ret (v := .agg #[.int .i64 k, .string t, .int .i64 a, .int .u64 f, .string s, .int .i64 r0, .int .i64 r1, .int .i64 r2, .int .i64 r3, .slice pp2 path.length pc2, .slice (some ⟨g, 0, none⟩) items.length ic2]) (by simp [results, Tryd.results24, go_sem, hrc]) rfl ?_
      obtain ⟨q1, q2⟩ := HA.out
      obtain ⟨p1, p2, p3⟩ := HPa.out
      obtain ⟨x1, x2, x3, x4, x5, x6⟩ := HE.out
      have hBF : Below w.heap.size w wr := HB3.out.trans (x2.mono HB3.out.size)
      have hkeep := fun (b : Nat) (h1 : w.heap.size + 2 ≤ b) => eleven_after wr w.heap.size b (by omega) (by omega) 10 (.slice (some ⟨g, 0, none⟩) items.length ic2) (.int .i64 k) (.string t) (.int .i64 a) (.int .u64 f) (.string s) (.int .i64 r0) (.int .i64 r1) (.int .i64 r2) (.int .i64 r3) (.slice pp2 path.length pc2) (.slice (some ⟨g, 0, none⟩) items.length ic2)
      obtain ⟨z1, z2⟩ := rows_kept2 (lo := w.heap.size) (fun i hi => ⟨(x4 i hi).1, (x4 i hi).2.1, (x4 i hi).2.2.1⟩) (by omega) x3 (fun b h1 h2 => hkeep b (by omega)) (by simp)
      exact copy_doneG pp2 pc2 (some ⟨g, 0, none⟩) ic2 ds (bset (hBF.setCell (p := ⟨w.heap.size, 10, none⟩) (Nat.le_refl _) _) (by omega) _ _ _ _ _ _ _ _ _ _ _) q1 q2 p1 p2 ⟨path_kept2 HPr.out hwz (fun b h1 h2 => (hkeep b h1).trans (x2.block b h2)) (by simp; omega), p3⟩ x1 hi1 hi2 z1 ⟨fun b o e => (by cases e; omega), z2⟩ x5 (path_good HPg.out (fun b h1 h2 => (hkeep b h1).trans (x2.block b h2)) (by simp; omega)) (rows_good (fun i hi => ⟨(x4 i hi).1, (x4 i hi).2.2.2.1⟩) x6 (by rw [x1]; exact HM.out) (by omega) x3 (fun b h1 h2 => hkeep b (by omega)) (by simp))

theorem copiedG_any : ∀ n, GCopyC n
  | 0 => fun _ _ h _ => h.elim
  | n + 1 => by
    intro d w hin hf
    obtain ⟨⟨k, t, a, f, s, r0, r1, r2, r3, pp, path, pc⟩, ip, ic, items⟩ := d
    by_cases he : items = []
    · exact copiedG_e n k t a f s r0 r1 r2 r3 pp path pc ip ic items w he hin hf
    · exact copiedG_i n k t a f s r0 r1 r2 r3 pp path pc ip ic items w (copiedG_any n) (List.length_pos_iff.2 he) hin hf
end Go.Proofs.YtflonmlnedkmjaaDoor
