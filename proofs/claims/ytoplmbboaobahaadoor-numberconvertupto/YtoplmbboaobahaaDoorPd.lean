/-
  Convert of lists, maps and funcs: the program's and the document's.
-/
import Derived.Test.YtoplmbboaobahaaDoorPb
import Derived.Test.YtoplmbboaobahaaDoorCx
namespace Go.Proofs.YtoplmbboaobahaaDoor
open Go.RowKit
attribute [local go_sem] refold2 cell3_0 cell3_1 cell4_0 cell4_1 cell4_2 frozen4_1 frozen4_2 b28_0 b28_01 b28_012 b28_013 b28_014 b28_015 b35_01 b35_0 b35 mkI69

theorem row_mono {w : World} {b1 b2 : Nat} {e : TypeId} {size : Nat} {v : Value} {n : Nat} {xs : List Value} (h : w.ownsRow b1 e size v n xs) (hle : b2 ≤ b1) : w.ownsRow b2 e size v n xs := by
  refine ⟨h.1, ?_⟩
  rcases h.2 with h2 | ⟨g, cap, cur, hv, hb, r⟩
  · exact .inl h2
  · exact .inr ⟨g, cap, cur, hv, Nat.le_trans hle hb, r⟩
theorem heap4_3 (w : World) (o1 o2 o3 o4 : Obj) : ((((w.alloc o1).alloc o2).alloc o3).alloc o4).heap[w.heap.size + 1 + 1 + 1]? = some o4 := by
  have h := heap_alloc_new (((w.alloc o1).alloc o2).alloc o3) o4
  rwa [show (((w.alloc o1).alloc o2).alloc o3).heap.size = w.heap.size + 1 + 1 + 1 by simp] at h

set_option maxRecDepth 100000 in
set_option maxHeartbeats 2000000 in
theorem convert_path (k : Int) (hk : k = 5 ∨ k = 6 ∨ k = 7) (u t : ByteArray) (a f : Int) (s : ByteArray) (r0 r1 r2 r3 : Int) (ad : Addr) (m c : Nat) (zs : List Int) (i : Value) (w : World) (hu : u.size ≤ 140737488351232)
    (hl : zs.length = m) (hcs : ∀ (j : Nat) (x : Value), (nums zs)[j]? = some x → w.cell? (ad.add j) = some x) (hadb : ∀ j, j < m → (ad.add j).block < w.heap.size) (hm : m ≤ 1048576) :
    Calls Tryd.prog 18 #[.int .i64 k, .string u, D k t a f s r0 r1 r2 r3 (.slice (some ad) m c) i] w fun r w' => ∃ v, r = .returned (.tuple #[D k u 0 0 ⟨#[]⟩ r0 r1 r2 r3 v (.slice none 0 0), .nilIface]) ∧ w'.ownsRow w.heap.size 3 1 v m (nums zs) ∧ (m = 0 → v = .slice none 0 0) ∧ Below w.heap.size w w' := by
  have HR : Hid (∀ W, Below w.heap.size w W → Calls Tryd.prog 54 #[.string u, D k t a f s r0 r1 r2 r3 (.slice (some ad) m c) i] W fun r w' => ∃ v, r = .returned (D k u 0 0 ⟨#[]⟩ r0 r1 r2 r3 v (.slice none 0 0)) ∧ w'.ownsRow W.heap.size 3 1 v m (nums zs) ∧ (m = 0 → v = .slice none 0 0) ∧ Below W.heap.size W w') := fun W hW =>
    renamed_path k hk u t a f s r0 r1 r2 r3 ad m c zs i W hu hl (fun j x hj => by
      have hjl : j < m := by have := (List.getElem?_eq_some_iff.1 hj).1; rw [nums_len] at this; omega
      rw [hW.cell (p := ad.add j) (hadb j hjl)]; exact hcs j x hj) (fun j hj => Nat.lt_of_lt_of_le (hadb j hj) hW.size) hm
  have k1 : (1 : Int) ≤ k := by omega
  have k7 : k ≤ 7 := by omega
  clear hu hk hcs hadb hl
  simp only [D] at HR ⊢
  go_enter Tryd.func18, Tryd.ntmps18
  go_wp2_with (go_at_call 54; refine (HR.out _ (by exact below2 _ _ _)).mono ?_; rintro r w' ⟨v, rfl, hown, hnil, hb⟩; obtain ⟨p', c', hv'⟩ := row_form hown; subst hv'; obtain ⟨⟨c0, c1, c2, c3, c4, c5, c6, c7, c8, c9, c10⟩, hf2⟩ := box_kept ((hb.block (w.heap.size + 1) (by simp)).trans (heap2_1 _ _ _)); have HO : Hid (w'.ownsRow (w.heap.size + 1 + 1) 3 1 (.slice p' m c') m (nums zs)) := row_mono hown (by simp); clear hown)
  refine bodyPost_ret (v := .tuple #[.agg #[.int .i64 k, .string u, .int .i64 0, .int .u64 0, .string ⟨#[]⟩, .int .i64 r0, .int .i64 r1, .int .i64 r2, .int .i64 r3, .slice p' m c', .slice none 0 0], .nilIface]) (by simp [results, Tryd.results18, go_sem, c0, c1, c2, c3, c4, c5, c6, c7, c8, c9, c10]) rfl ⟨_, rfl, ?_, hnil, ?_⟩
  · have hne : ∀ o, (Value.slice p' m c').ownBlock ≠ some (⟨w.heap.size + 1, o, none⟩ : Addr).block := fun o h => by have := (HO.out.lt _ h).1; simp at this; omega
    have q : w'.ownsRow w.heap.size 3 1 (.slice p' m c') m (nums zs) := row_mono HO.out (by omega)
    exact ownsRow_setCell_other (ownsRow_setCell_other (ownsRow_setCell_other (ownsRow_setCell_other (ownsRow_setCell_other (ownsRow_setCell_other (ownsRow_setCell_other (ownsRow_setCell_other (ownsRow_setCell_other (ownsRow_setCell_other (ownsRow_setCell_other q (hne 0) _) (hne 1) _) (hne 2) _) (hne 3) _) (hne 4) _) (hne 5) _) (hne 6) _) (hne 7) _) (hne 8) _) (hne 9) _) (hne 10) _
  · exact bset ((below2 w _ _).trans (hb.mono (by simp; omega))) (by omega) _ _ _ _ _ _ _ _ _ _ _

set_option maxRecDepth 100000 in
set_option maxHeartbeats 4000000 in
theorem refConvert_path (k : Int) (hk : k = 5 ∨ k = 6 ∨ k = 7) (u t : ByteArray) (a f : Int) (s : ByteArray) (r0 r1 r2 r3 : Int) (ad : Addr) (m c : Nat) (zs : List Int) (i : Value) (w : World)
    (hl : zs.length = m) (hcs : ∀ (j : Nat) (x : Value), (nums zs)[j]? = some x → w.cell? (ad.add j) = some x) (hadb : ∀ j, j < m → (ad.add j).block < w.heap.size) (hm : m ≤ 1048576) :
    Calls Tryd.prog 19 #[.int .i64 k, .string u, D k t a f s r0 r1 r2 r3 (.slice (some ad) m c) i] w fun r w' => ∃ v, r = .returned (.tuple #[D k u 0 0 ⟨#[]⟩ r0 r1 r2 r3 v (.slice none 0 0), .agg #[.string ⟨#[]⟩, .string ⟨#[]⟩]]) ∧ w'.ownsRow w.heap.size 3 1 v m (nums zs) ∧ (m = 0 → v = .slice none 0 0) ∧ Below w.heap.size w w' := by
  obtain ⟨i0, hi, hz0, hz1, hz2⟩ := info_parts info3
  have k1 : (k == 1) = false := by simp; omega
  have k2 : (k == 2) = false := by simp; omega
  have k3 : (k == 3) = false := by simp; omega
  have k4 : (k == 4) = false := by simp; omega
  have k5 : ¬ k < 1 := by omega
  have k6 : ¬ 7 < k := by omega
  clear hk
  have HCS : Hid _ := hcs
  have HADB : Hid _ := hadb
  clear hcs hadb
  simp only [D]
  go_enter Tryd.func19, Tryd.ntmps19
  go_wp2_with (at_builtin; refine wpList_append_own_at _ rfl _ _ 23 rfl w.heap.size 3 i0 (.int .i64 0) 1 8 Tryd.underlying23 hi hz0 hz1 hz2 rfl (by decide) _ _ _ rfl (World.ownsRow_nil _ _ _ _) ad m c (nums zs) rfl (by rw [nums_len]; omega) (fun j x hj => (Below.cell (below4 w _ _ _ _) (p := ad.add j) (HADB.out j (by have := (List.getElem?_eq_some_iff.1 hj).1; rw [nums_len] at this; omega))).trans (HCS.out j x hj)) (nums_one zs) (by unfold maxLen; omega) (by omega) (by simp; omega) ?_; intro v' w5 hown hgr hnil hat; obtain ⟨p', c', hv'⟩ := row_form hown; rw [Nat.zero_add] at hv'; subst hv'; have R1 := (hgr.block (w.heap.size + 1) (by first | (simp; done) | (simp; omega)) (fun h => by cases h)).trans (heap4_1 _ _ _ _ _); have R2 := (hgr.block (w.heap.size + 1 + 1) (by simp) (fun h => by cases h)).trans (heap4_2 _ _ _ _ _); have R3 := (hgr.block (w.heap.size + 1 + 1 + 1) (by simp) (fun h => by cases h)).trans (heap4_3 _ _ _ _ _); obtain ⟨⟨c0, c1, c2, c3, c4, c6, c7, c8, c9, c10, c11⟩, hf2⟩ := box_kept R1; have g0 : w5.cell? ⟨w.heap.size + 1 + 1, 0, none⟩ = some (.string ⟨#[]⟩) := (by unfold World.cell?; rw [R2]; rfl); have g1 : w5.cell? ⟨w.heap.size + 1 + 1, 1, none⟩ = some (.string ⟨#[]⟩) := (by unfold World.cell?; rw [R2]; rfl); have gf : ∀ j, w5.frozen? ⟨w.heap.size + 1 + 1, j, none⟩ = false := (fun j => fz _ _ _ _ j R2); have c5 : ∀ j, w5.cell? ⟨w.heap.size + 1 + 1 + 1, j, none⟩ = (#[.int .i64 k, .string u, .int .i64 0, .int .u64 0, .string ⟨#[]⟩, .int .i64 r0, .int .i64 r1, .int .i64 r2, .int .i64 r3, .slice (some ad) m c, .slice none 0 0] : Array Value)[j]? := (fun j => by unfold World.cell?; rw [R3]; rfl); have f5 : ∀ j, w5.frozen? ⟨w.heap.size + 1 + 1 + 1, j, none⟩ = false := (fun j => fz _ _ _ _ j R3); have HOW : Hid (w5.ownsRow w.heap.size 3 1 (.slice p' m c') m (nums zs)) := (by rw [Nat.zero_add, List.nil_append] at hown; exact hown); have HGR : Hid (Below w.heap.size w w5) := Below.grown (below4 _ _ _ _ _) hgr (by first | (simp; done) | (simp; omega)) (fun j hj => by cases hj); have HNL : Hid (m = 0 → Value.slice p' m c' = .slice none 0 0) := (fun h0 => hnil.2 ⟨rfl, h0⟩); have HAT : Hid (∀ g, (Value.slice p' m c').ownBlock = some g → w.heap.size + 1 + 1 + 1 + 1 = g) := (fun g hg => hat.elim (fun e => by rw [e] at hg; cases hg) (fun e => by rw [e] at hg; have := Option.some.inj hg; simp at this; omega)); clear hown hgr hnil hat R1 R2 R3)
  refine bodyPost_ret (v := .tuple #[.agg #[.int .i64 k, .string u, .int .i64 0, .int .u64 0, .string ⟨#[]⟩, .int .i64 r0, .int .i64 r1, .int .i64 r2, .int .i64 r3, .slice p' m c', .slice none 0 0], .agg #[.string ⟨#[]⟩, .string ⟨#[]⟩]]) (by simp [results, Tryd.results19, go_sem, c0, c1, c2, c3, c4, c6, c7, c8, c9, c10, c11, g0, g1]) rfl ⟨_, rfl, ?_, HNL.out, ?_⟩
  · have hne : ∀ g o, g < w.heap.size + 1 + 1 + 1 + 1 → (Value.slice p' m c').ownBlock ≠ some (⟨g, o, none⟩ : Addr).block := fun g o hg h => by
      have := HAT.out _ h; simp at this; omega
    have q1 := ownsRow_setCell_other HOW.out (hne (w.heap.size + 1 + 1 + 1) 9 (by omega)) (.slice p' m c')
    have z := fun o => hne (w.heap.size + 1) o (by omega)
    have y := fun o => hne (w.heap.size + 1 + 1) o (by omega)
    exact ownsRow_setCell_other (ownsRow_setCell_other (ownsRow_setCell_other (ownsRow_setCell_other (ownsRow_setCell_other (ownsRow_setCell_other (ownsRow_setCell_other (ownsRow_setCell_other (ownsRow_setCell_other (ownsRow_setCell_other (ownsRow_setCell_other (ownsRow_setCell_other (ownsRow_setCell_other q1 (z 0) _) (z 1) _) (z 2) _) (z 3) _) (z 4) _) (z 5) _) (z 6) _) (z 7) _) (z 8) _) (z 9) _) (z 10) _) (y 0) _) (y 1) _
  · have hq := bset (HGR.out.setCell (p := ⟨w.heap.size + 1 + 1 + 1, 9, none⟩) (by show w.heap.size ≤ w.heap.size + 1 + 1 + 1; omega) (.slice p' m c')) (by omega : w.heap.size ≤ w.heap.size + 1) (.int .i64 k) (.string u) (.int .i64 0) (.int .u64 0) (.string ⟨#[]⟩) (.int .i64 r0) (.int .i64 r1) (.int .i64 r2) (.int .i64 r3) (.slice p' m c') (.slice none 0 0)
    exact (hq.setCell (by show _ ≤ _; simp; omega) _).setCell (by show _ ≤ _; simp; omega) _

set_option maxRecDepth 100000 in
set_option maxHeartbeats 4000000 in
theorem refConvert_none (k : Int) (hk : k = 5 ∨ k = 6 ∨ k = 7) (u t : ByteArray) (a f : Int) (s : ByteArray) (r0 r1 r2 r3 : Int) (c : Nat) (i : Value) (w : World) :
    Calls Tryd.prog 19 #[.int .i64 k, .string u, D k t a f s r0 r1 r2 r3 (.slice none 0 c) i] w fun r w' => r = .returned (.tuple #[D k u 0 0 ⟨#[]⟩ r0 r1 r2 r3 (.slice none 0 0) (.slice none 0 0), .agg #[.string ⟨#[]⟩, .string ⟨#[]⟩]]) ∧ Below w.heap.size w w' := by
  have k1 : (k == 1) = false := by simp; omega
  have k2 : (k == 2) = false := by simp; omega
  have k3 : (k == 3) = false := by simp; omega
  have k4 : (k == 4) = false := by simp; omega
  have k5 : ¬ k < 1 := by omega
  have k6 : ¬ 7 < k := by omega
  clear hk
  simp only [D]
  go_enter Tryd.func19, Tryd.ntmps19
  go_wp2
  refine bodyPost_ret (v := .tuple #[.agg #[.int .i64 k, .string u, .int .i64 0, .int .u64 0, .string ⟨#[]⟩, .int .i64 r0, .int .i64 r1, .int .i64 r2, .int .i64 r3, .slice none 0 0, .slice none 0 0], .agg #[.string ⟨#[]⟩, .string ⟨#[]⟩]]) (by simp [results, Tryd.results19, go_sem]) rfl ⟨rfl, below4 _ _ _ _ _⟩
end Go.Proofs.YtoplmbboaobahaaDoor
