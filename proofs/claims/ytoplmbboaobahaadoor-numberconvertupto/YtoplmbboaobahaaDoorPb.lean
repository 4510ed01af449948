/-
  Convert of lists, maps and funcs, by the program.
-/
import Derived.Test.YtoplmbboaobahaaDoorPt
import Derived.Test.YtoplmbboaobahaaDoorOw
import Derived.Test.YtoplmbboaobahaaDoorLn
namespace Go.Proofs.YtoplmbboaobahaaDoor
open Go.RowKit
theorem b28_015 (k : Int) (t : ByteArray) (r0 r1 r2 r3 : Int) (pp : Option Addr) (m c : Nat) (w : World) : (Instr.build 28 #[(0, .int .i64 k), (1, .string t), (5, .agg #[.int .i64 r0, .int .i64 r1, .int .i64 r2, .int .i64 r3, .slice pp m c])]).run Tryd.prog w = .ok (.agg #[.int .i64 k, .string t, .int .i64 0, .int .u64 0, .string ⟨#[]⟩, .int .i64 r0, .int .i64 r1, .int .i64 r2, .int .i64 r3, .slice pp m c, .slice none 0 0]) w := run_build w 28 _ _ (by kernel_rfl)
attribute [local go_sem] refold2 b28_0 b28_01 b28_012 b28_013 b28_014 b28_015 b35_01 b35_0 b35 mkI69

set_option maxRecDepth 100000 in
set_option maxHeartbeats 4000000 in
theorem renamed_path (k : Int) (hk : k = 5 ∨ k = 6 ∨ k = 7) (u t : ByteArray) (a f : Int) (s : ByteArray) (r0 r1 r2 r3 : Int) (ad : Addr) (m c : Nat) (zs : List Int) (i : Value) (w : World) (hu : u.size ≤ 140737488351232)
    (hl : zs.length = m) (hcs : ∀ (j : Nat) (x : Value), (nums zs)[j]? = some x → w.cell? (ad.add j) = some x) (hadb : ∀ j, j < m → (ad.add j).block < w.heap.size) (hm : m ≤ 1048576) :
    Calls Tryd.prog 54 #[.string u, D k t a f s r0 r1 r2 r3 (.slice (some ad) m c) i] w fun r w' => ∃ v, r = .returned (D k u 0 0 ⟨#[]⟩ r0 r1 r2 r3 v (.slice none 0 0)) ∧ w'.ownsRow w.heap.size 3 1 v m (nums zs) ∧ (m = 0 → v = .slice none 0 0) ∧ Below w.heap.size w w' := by
  obtain ⟨i0, hi, hz0, hz1, hz2⟩ := info_parts info3
  have k1 : (k == 1) = false := by simp; omega
  have k2 : (k == 2) = false := by simp; omega
  have k3 : (k == 3) = false := by simp; omega
  have k4 : (k == 4) = false := by simp; omega
  clear hk
  simp only [D]
  obtain ⟨W2, hW2⟩ : ∃ W2, W2 = (w.alloc (.cells #[.int .i64 k, .string t, .int .i64 a, .int .u64 f, .string s, .int .i64 r0, .int .i64 r1, .int .i64 r2, .int .i64 r3, .slice (some ad) m c, i] 28)).alloc (.cells #[.int .i64 0, .string ⟨#[]⟩, .int .i64 0, .int .u64 0, .string ⟨#[]⟩, .int .i64 0, .int .i64 0, .int .i64 0, .int .i64 0, .slice none 0 0, .slice none 0 0] 28) := ⟨_, rfl⟩
  have HK : Hid (∀ W, Below (w.heap.size + 1) W2 W → ∀ j, W.cell? ⟨w.heap.size, j, none⟩ = (#[.int .i64 k, .string t, .int .i64 a, .int .u64 f, .string s, .int .i64 r0, .int .i64 r1, .int .i64 r2, .int .i64 r3, .slice (some ad) m c, i] : Array Value)[j]?) := fun W hW j => by
    rw [hW.cell (p := ⟨w.heap.size, j, none⟩) (by simp), hW2, World.cell?_alloc_lt _ _ _ (by simp), World.cell?_alloc_new]
  have hrow : Hid (W2.heap[w.heap.size + 1]? = some (.cells zeros 28 (0, 0))) := by rw [hW2]; exact heap2_1 _ _ _
  have hB2 : Below w.heap.size w W2 := by rw [hW2]; exact below2 _ _ _
  have hz2' : W2.heap.size = w.heap.size + 2 := by rw [hW2]; simp
  have HCS : Hid _ := hcs
  have HADB : Hid _ := hadb
  clear hcs hadb
  go_enter Tryd.func54, Tryd.ntmps54
  go_wp2_with fail
  rw [← hW2]
  clear hW2
  rename_i Q1 K1 hK1
  have tail : ∀ (b : Nat) (W : World), w.heap.size + 1 + 1 ≤ b → W.heap[b]? = some (.cells #[.int .i64 k, .string u, .int .i64 0, .int .u64 0, .string ⟨#[]⟩, .int .i64 r0, .int .i64 r1, .int .i64 r2, .int .i64 r3, .slice (some ad) m c, .slice none 0 0] 28 (0, 0)) → Below (w.heap.size + 1 + 1) W2 W → K1 { tmps := #[.string u, .agg #[.int .i64 k, .string t, .int .i64 a, .int .u64 f, .string s, .int .i64 r0, .int .i64 r1, .int .i64 r2, .int .i64 r3, .slice (some ad) m c, i], undef, .pointer (some ⟨w.heap.size, 0, none⟩), .pointer (some ⟨w.heap.size + 1, 0, none⟩), .pointer (some ⟨b, 0, none⟩), .pointer (some ⟨w.heap.size, 0, none⟩), .int .i64 k, .bool false, .bool false, undef, undef, undef, undef, undef, .bool false, .bool false, undef, undef, undef, undef, .bool false, .bool false, undef, undef, undef, undef, .bool false, .bool false, undef, undef, undef, undef, .pointer (some ⟨w.heap.size, 0, none⟩), .int .i64 k, .string u, .string u, .pointer (some ⟨w.heap.size, 5, none⟩), .agg #[.int .i64 r0, .int .i64 r1, .int .i64 r2, .int .i64 r3, .slice (some ad) m c], .agg #[.int .i64 k, .string u, .int .i64 0, .int .u64 0, .string ⟨#[]⟩, .int .i64 r0, .int .i64 r1, .int .i64 r2, .int .i64 r3, .slice (some ad) m c, .slice none 0 0], undef, undef, undef, undef, undef, undef, undef], defers := [] } W := by
    intro b W hbb hbx hBW
    have ca := HK.out W (hBW.mono (by omega))
    have cb : ∀ j, W.cell? ⟨b, j, none⟩ = (#[.int .i64 k, .string u, .int .i64 0, .int .u64 0, .string ⟨#[]⟩, .int .i64 r0, .int .i64 r1, .int .i64 r2, .int .i64 r3, .slice (some ad) m c, .slice none 0 0] : Array Value)[j]? := fun j => by unfold World.cell?; rw [hbx]; rfl
    have hB0 : Below w.heap.size w W := hB2.trans (hBW.mono (by omega))
    have hzW : w.heap.size + 1 + 1 ≤ W.heap.size := by have := hBW.size; omega
    have hbl : b < W.heap.size := (Array.getElem?_eq_some_iff.1 hbx).1
    have hcW : ∀ (j : Nat) (x : Value), (nums zs)[j]? = some x → W.cell? (ad.add j) = some x := fun j x hj => by
      have hjl : j < m := by have := (List.getElem?_eq_some_iff.1 hj).1; rw [nums_len] at this; omega
      rw [hB0.cell (p := ad.add j) (HADB.out j hjl)]; exact HCS.out j x hj
    have HX : Hid _ := hbx
    have HR0 : Hid (W.heap[w.heap.size + 1]? = some (.cells zeros 28 (0, 0))) := (hBW.block (w.heap.size + 1) (by omega)).trans hrow.out
    clear hbx
    apply hK1
    have hbne : b ≠ w.heap.size + 1 := (by omega)
    go_wp2_with (at_builtin; refine wpList_append_own_at _ rfl _ _ 23 rfl w.heap.size 3 i0 (.int .i64 0) 1 8 Tryd.underlying23 hi hz0 hz1 hz2 rfl (by decide) _ _ _ rfl (World.ownsRow_nil _ _ _ _) ad m c (nums zs) rfl (by rw [nums_len]; omega) hcW (nums_one zs) (by unfold maxLen; omega) (by omega) (by omega) ?_; intro v' w5 hown hgr hnil hat; obtain ⟨p', c', hv'⟩ := row_form hown; rw [Nat.zero_add] at hv'; subst hv'; have R5 := (hgr.block b hbl (fun h => by cases h)).trans HX.out; have R6 := (hgr.block (w.heap.size + 1) (by omega) (fun h => by cases h)).trans HR0.out; have c5 : ∀ j, w5.cell? ⟨b, j, none⟩ = (#[.int .i64 k, .string u, .int .i64 0, .int .u64 0, .string ⟨#[]⟩, .int .i64 r0, .int .i64 r1, .int .i64 r2, .int .i64 r3, .slice (some ad) m c, .slice none 0 0] : Array Value)[j]? := (fun j => by unfold World.cell?; rw [R5]; rfl); have f5 : ∀ j, w5.frozen? ⟨b, j, none⟩ = false := (fun j => fz _ _ _ _ j R5); obtain ⟨⟨c0, c1, c2, c3, c4, c6, c7, c8, c9, c10, c11⟩, hf2⟩ := box_kept R6; have HOW : Hid _ := hown; have HGR : Hid _ := hgr; have HNL : Hid _ := hnil; have HAT : Hid _ := hat; clear hown hgr hnil hat R5 R6)
    refine bodyPost_ret (v := .agg #[.int .i64 k, .string u, .int .i64 0, .int .u64 0, .string ⟨#[]⟩, .int .i64 r0, .int .i64 r1, .int .i64 r2, .int .i64 r3, .slice p' m c', .slice none 0 0]) (by simp [results, Tryd.results54, go_sem, c0, c1, c2, c3, c4, c6, c7, c8, c9, c10, c11]) rfl ⟨_, rfl, ?_, ?_, ?_⟩
    · have hne : ∀ g o, g < W.heap.size → (Value.slice p' m c').ownBlock ≠ some (⟨g, o, none⟩ : Addr).block := fun g o hg h => by
        rcases HAT.out with e | e
        · rw [e] at h; cases h
        · rw [e] at h; have := Option.some.inj h; simp at this; omega
      have q : w5.ownsRow w.heap.size 3 1 (.slice p' m c') m (nums zs) := by have h := HOW.out; rw [Nat.zero_add, List.nil_append] at h; exact h
      have q1 := ownsRow_setCell_other q (hne b 9 hbl) (.slice p' m c')
      have z := fun o => hne (w.heap.size + 1) o (by omega)
      exact ownsRow_setCell_other (ownsRow_setCell_other (ownsRow_setCell_other (ownsRow_setCell_other (ownsRow_setCell_other (ownsRow_setCell_other (ownsRow_setCell_other (ownsRow_setCell_other (ownsRow_setCell_other (ownsRow_setCell_other (ownsRow_setCell_other q1 (z 0) _) (z 1) _) (z 2) _) (z 3) _) (z 4) _) (z 5) _) (z 6) _) (z 7) _) (z 8) _) (z 9) _) (z 10) _
    · intro h0; exact HNL.out.2 ⟨rfl, h0⟩
    · have hb5 : Below w.heap.size w w5 := Below.grown hB0 HGR.out (by omega) (fun j hj => by cases hj)
      exact bset (hb5.setCell (by show _ ≤ _; simp; omega) _) (by omega : w.heap.size ≤ w.heap.size + 1) _ _ _ _ _ _ _ _ _ _ _
  refine wp_region_noPanic ?_
  refine wp_region_held (S := fun W => ∀ j, W.cell? ⟨w.heap.size, j, none⟩ = (#[.int .i64 k, .string t, .int .i64 a, .int .u64 f, .string s, .int .i64 r0, .int .i64 r1, .int .i64 r2, .int .i64 r3, .slice (some ad) m c, i] : Array Value)[j]?) (by kernel_rfl) ?_
  obtain ⟨W4, hW4⟩ : ∃ W4, W4 = W2.drew := ⟨_, rfl⟩
  have e4 : ({ W2 with drawn := W2.drawn + 1 } : World) = W4 := hW4.symm
  rw [e4]
  have hB4 : Below (w.heap.size + 1 + 1) W2 W4 := by rw [hW4]; exact (Below.refl _ _).drew
  have hz4 : W4.heap.size = w.heap.size + 1 + 1 := by rw [hW4]; exact hz2'
  have hS := HK.out W4 (hB4.mono (by omega))
  clear e4 hW4
  refine wpAnyH_take (i := 0) (v := .pointer (some ⟨w.heap.size, 0, none⟩)) rfl (by kernel_rfl) (by kernel_rfl) (by kernel_rfl) (fun _ _ _ h => h) (Or.inl ⟨by rfl, ?r⟩) hS ?_
  case r => intro W hW; simp [go_sem, execOp, Act.eval]
  simp only [List.getElem_toArray, List.getElem_cons_zero, Act.put, List.setIfInBounds_toArray, List.set_cons_succ, List.set_cons_zero]
  refine wpAnyH_take (i := 1) (v := .int .i64 k) rfl (by kernel_rfl) (by kernel_rfl) (by kernel_rfl) (fun _ _ _ h => h) (Or.inl ⟨by rfl, ?r⟩) hS ?_
  case r => intro W hW; simp [go_sem, execOp, Act.eval, hW]
  simp only [List.getElem_toArray, List.getElem_cons_zero, List.getElem_cons_succ, Act.put, List.setIfInBounds_toArray, List.set_cons_succ, List.set_cons_zero]
  refine wpAnyH_take (i := 2) (v := .string u) rfl (by kernel_rfl) (by kernel_rfl) (by kernel_rfl) (fun _ _ _ h => h) (Or.inl ⟨by rfl, ?r⟩) hS ?_
  case r => intro W hW; simp [go_sem, execOp, Act.eval]
  simp only [List.getElem_toArray, List.getElem_cons_zero, List.getElem_cons_succ, Act.put, List.setIfInBounds_toArray, List.set_cons_succ, List.set_cons_zero]
  refine wpAnyH_take (i := 4) (v := .pointer (some ⟨w.heap.size, 5, none⟩)) rfl (by kernel_rfl) (by kernel_rfl) (by kernel_rfl) (fun _ _ _ h => h) (Or.inl ⟨by rfl, ?r⟩) hS ?_
  case r => intro W hW; simp [go_sem, execOp, Act.eval]
  simp only [List.getElem_toArray, List.getElem_cons_zero, List.getElem_cons_succ, Act.put, List.setIfInBounds_toArray, List.set_cons_succ, List.set_cons_zero]
  refine wpAnyH_take (i := 5) (v := .agg #[.int .i64 r0, .int .i64 r1, .int .i64 r2, .int .i64 r3, .slice (some ad) m c]) rfl (by kernel_rfl) (by kernel_rfl) (by kernel_rfl) (fun _ _ _ h => h) (Or.inl ⟨by rfl, ?r⟩) hS ?_
  case r => intro W hW; simp [go_sem, execOp, Act.eval, hW]
  simp only [List.getElem_toArray, List.getElem_cons_zero, List.getElem_cons_succ, Act.put, List.setIfInBounds_toArray, List.set_cons_succ, List.set_cons_zero]
  refine wpAnyH_all (rs := [3, 7]) (by kernel_rfl) (by simp) (fun i1 hi1 => ?_)
  obtain rfl | rfl : i1 = 3 ∨ i1 = 7 := by simpa using hi1
  · clear hi1
    refine wpOp_step rfl (fun K hK => ite_yes rfl ?_)
    simp only [List.getElem_toArray, List.getElem_cons_zero, List.getElem_cons_succ]
    go_simp
    refine (clone_any _ _ hu).mono ?_
    rintro e w1 ⟨rfl, hb⟩
    go_simp
    refine hK _ _ ⟨HK.out _ ((hB4.trans (hb.mono (by omega))).mono (by omega)), ?_⟩
    clear hK K
    have hS1 : Below (w.heap.size + 1 + 1) W2 w1 := hB4.trans (hb.mono (by omega))
    have hz1' : w.heap.size + 1 + 1 ≤ w1.heap.size := by have := hb.size; omega
    refine wpAnyH_take (i := 6) (v := .agg #[.int .i64 k, .string u, .int .i64 0, .int .u64 0, .string ⟨#[]⟩, .int .i64 r0, .int .i64 r1, .int .i64 r2, .int .i64 r3, .slice (some ad) m c, .slice none 0 0]) rfl (by kernel_rfl) (by kernel_rfl) (by kernel_rfl) (fun _ _ _ h => h) (Or.inl ⟨by rfl, ?r⟩) (HK.out _ (hS1.mono (by omega))) ?_
    case r => intro W hW; simp [go_sem, execOp, Act.eval]
    simp only [List.getElem_toArray, List.getElem_cons_zero, List.getElem_cons_succ, Act.put, List.setIfInBounds_toArray, List.set_cons_succ, List.set_cons_zero]
    refine wpAnyH_all (rs := [7]) (by kernel_rfl) (by simp) (fun i2 hi2 => ?_)
    obtain rfl : i2 = 7 := by simpa using hi2
    clear hi2
    refine wpOp_step rfl (fun K hK => ite_yes rfl ?_)
    simp only [List.getElem_toArray, List.getElem_cons_zero, List.getElem_cons_succ]
    go_simp
    have hSn : Below (w.heap.size + 1 + 1) W2 (w1.alloc (.cells zeros 28)) := hS1.alloc hz1' _
    refine hK _ _ ⟨HK.out _ (hSn.mono (by omega)), ?_⟩
    clear hK K
    refine wpAnyH_all (rs := [8]) (by kernel_rfl) (by simp) (fun i2 hi2 => ?_)
    obtain rfl : i2 = 8 := by simpa using hi2
    clear hi2
    refine wpOp_step rfl (fun K hK => ite_yes rfl ?_)
    simp only [List.getElem_toArray, List.getElem_cons_zero, List.getElem_cons_succ]
    have hr3 : (w1.alloc (.cells zeros 28)).heap[w1.heap.size]? = some (.cells zeros 28 (0, 0)) := heap_alloc_new _ _
    refine wp_store_row 28 _ _ rfl w1.heap.size _ rfl rfl 28 zeros hr3 info28 rfl (by simp [Value.oneCell']) ?_
    have hS2 : ∀ cs, Below (w.heap.size + 1 + 1) W2 ((w1.alloc (.cells zeros 28)).setRow w1.heap.size cs) := fun cs => brow hSn (by omega) _
    refine hK _ _ ⟨HK.out _ ((hS2 _).mono (by omega)), ?_⟩
    clear hK K
    refine wpAnyH_done (by kernel_rfl) ?_ _
    refine NoPanic.normal ?_
    try simp only [Act.put]
    exact tail w1.heap.size _ (by omega) (setRow_heap _ _ zeros _ 28 (0, 0) hr3) (hS2 _)
  · clear hi1
    refine wpOp_step rfl (fun K hK => ite_yes rfl ?_)
    simp only [List.getElem_toArray, List.getElem_cons_zero, List.getElem_cons_succ]
    go_simp
    have hSn : Below (w.heap.size + 1 + 1) W2 (W4.alloc (.cells zeros 28)) := hB4.alloc (by omega) _
    refine hK _ _ ⟨HK.out _ (hSn.mono (by omega)), ?_⟩
    clear hK K
    refine wpAnyH_all (rs := [3]) (by kernel_rfl) (by simp) (fun i2 hi2 => ?_)
    obtain rfl : i2 = 3 := by simpa using hi2
    clear hi2
    refine wpOp_step rfl (fun K hK => ite_yes rfl ?_)
    simp only [List.getElem_toArray, List.getElem_cons_zero, List.getElem_cons_succ]
    go_simp
    refine (clone_any _ _ hu).mono ?_
    rintro e w1 ⟨rfl, hb⟩
    go_simp
    have hS1 : Below (w.heap.size + 1 + 1) W2 w1 := hSn.trans (hb.mono (by simp; omega))
    refine hK _ _ ⟨HK.out _ (hS1.mono (by omega)), ?_⟩
    clear hK K
    refine wpAnyH_all (rs := [6]) (by kernel_rfl) (by simp) (fun i2 hi2 => ?_)
    obtain rfl : i2 = 6 := by simpa using hi2
    clear hi2
    refine wpOp_step rfl (fun K hK => ite_yes rfl ?_)
    simp only [List.getElem_toArray, List.getElem_cons_zero, List.getElem_cons_succ]
    go_simp
    refine hK _ _ ⟨HK.out _ (hS1.mono (by omega)), ?_⟩
    clear hK K
    refine wpAnyH_all (rs := [8]) (by kernel_rfl) (by simp) (fun i2 hi2 => ?_)
    obtain rfl : i2 = 8 := by simpa using hi2
    clear hi2
    refine wpOp_step rfl (fun K hK => ite_yes rfl ?_)
    simp only [List.getElem_toArray, List.getElem_cons_zero, List.getElem_cons_succ]
    have hr3 : w1.heap[w.heap.size + 1 + 1]? = some (.cells zeros 28 (0, 0)) := by rw [← hz4]; exact (hb.block W4.heap.size (by simp)).trans (heap_alloc_new _ _)
    refine wp_store_row 28 _ _ rfl (w.heap.size + 1 + 1) _ rfl rfl 28 zeros hr3 info28 rfl (by simp [Value.oneCell']) ?_
    have hS2 : ∀ cs, Below (w.heap.size + 1 + 1) W2 (w1.setRow (w.heap.size + 1 + 1) cs) := fun cs => brow hS1 (by omega) _
    refine hK _ _ ⟨HK.out _ ((hS2 _).mono (by omega)), ?_⟩
    clear hK K
    refine wpAnyH_done (by kernel_rfl) ?_ _
    refine NoPanic.normal ?_
    try simp only [Act.put]
    exact tail (w.heap.size + 1 + 1) _ (by omega) (setRow_heap _ _ zeros _ 28 (0, 0) hr3) (hS2 _)
end Go.Proofs.YtoplmbboaobahaaDoor
