/-
  The walk of examples.
-/
import Derived.Test.YthbnegggohegkaaGreatDoorTtJ
import Derived.Test.YthbnegggohegkaaGreatDoorGmJ
import Derived.Test.YthbnegggohegkaaGreatDoorCoJ
import Derived.Test.YthbnegggohegkaaGreatDoorSmJ
namespace Go.Proofs.YthbnegggohegkaaGreatDoor
open Go.RowKit

abbrev wordT (c : UInt8) : MT := .node 14 ⟨#[c]⟩ 0 0 none 0 []
theorem wordT_in (c : UInt8) (B : Nat) (w : World) : (wordT c).In B w := by
  rw [MT.In]; exact ⟨by simp [maxLen, ByteArray.size], by simp, by simp [maxLen], .inl rfl⟩
abbrev bothT (c : UInt8) (b : Nat) (x y : MT) : MT := .node 51 ⟨#[c]⟩ 0 0 (some ⟨b, 0, none⟩) 2 [x, y]

theorem size_sum (b : Nat) : min ((bothT 43 b (wordT 97) (wordT 98)).size : Int) 1000001 = 3 := by
  have h : (bothT 43 b (wordT 97) (wordT 98)).size = 3 := by simp [MT.size, MT.sizeL]
  rw [h]; decide
theorem same_one (b : Nat) : MT.same (bothT 43 b (wordT 97) (wordT 98)) (bothT 43 b (wordT 97) (wordT 98)) = true := by
  simp [MT.same, MT.size, MT.sizeL, MT.alike, MT.alikeL, MT.kind_node, MT.text_node, MT.num_node, MT.kids_node]
theorem same_two (b : Nat) : MT.same (bothT 43 b (wordT 97) (wordT 98)) (wordT 97) = false := by
  simp [MT.same, MT.size, MT.sizeL, MT.alike, MT.kind_node]
theorem wr_word (c : UInt8) (h : Abc ⟨#[c]⟩) : Wr (wordT c) [c] := Wr.name ⟨#[c]⟩ 0 none 0 h
theorem wr_sum (b : Nat) : Wr (bothT 43 b (wordT 97) (wordT 98)) [97, 32, 43, 32, 98] := by
  have h := Wr.bin ⟨#[43]⟩ 0 (some ⟨b, 0, none⟩) 2 _ _ _ _ (.inl rfl) (wr_word 97 (by simp [Abc])) (wr_word 98 (by simp [Abc]))
  simpa [brk, lev, MT.kind_node, MT.text_node] using h
theorem wr_one (b b2 : Nat) : Wr (bothT 42 b2 (bothT 43 b (wordT 97) (wordT 98)) (wordT 99)) [40, 97, 32, 43, 32, 98, 41, 32, 42, 32, 99] := by
  have h := Wr.bin ⟨#[42]⟩ 0 (some ⟨b2, 0, none⟩) 2 _ _ _ _ (.inr rfl) (wr_sum b) (wr_word 99 (by simp [Abc]))
  simpa [brk, lev, MT.kind_node, MT.text_node] using h
theorem wr_two (b b2 : Nat) : Wr (bothT 43 b2 (wordT 97) (bothT 43 b (wordT 97) (wordT 98))) [97, 32, 43, 32, 40, 97, 32, 43, 32, 98, 41] := by
  have h := Wr.bin ⟨#[43]⟩ 0 (some ⟨b2, 0, none⟩) 2 _ _ _ _ (.inl rfl) (wr_word 97 (by simp [Abc])) (wr_sum b)
  simpa [brk, lev, MT.kind_node, MT.text_node] using h

set_option maxRecDepth 100000 in
set_option maxHeartbeats 2000000 in
theorem examples_any {gw ow gs os : Nat} (w : World) (ht : TabsAt gw ow gs os w) (hg : w.cell? ⟨0, 0, none⟩ = some (.iface 129 (.agg #[hnd 33]))) :
    Calls Tryz.prog 9 #[] w fun e w' => e = .returned (.bool true) ∧ Below w.heap.size w w' := by
  go_enter Tryz.func9, Tryz.ntmps9
  go_wp2_with fail
  refine (leafWord_any _ _).mono ?_
  rintro e w1 ⟨rfl, hb1⟩
  go_wp2_with fail
  refine (leafWord_any _ _).mono ?_
  rintro e w2 ⟨rfl, hb2⟩
  have hB2 := hb1.trans (hb2.mono hb1.size)
  go_wp2_with fail
  refine (both_any ⟨#[43]⟩ (by decide) (wordT 97) (wordT 98) _ (wordT_in _ _ _) (wordT_in _ _ _)).mono ?_
  rintro e w3 ⟨b, rfl, hb3, hin3⟩
  have hB3 := hB2.trans (hb3.mono hB2.size)
  clear hb1 hb2 hb3 hB2
  have hb4 := below1 w3 (nodeO (bothT 43 b (wordT 97) (wordT 98)))
  have hB4 := hB3.trans (hb4.mono hB3.size)
  have hz4 : (w3.alloc (nodeO (bothT 43 b (wordT 97) (wordT 98)))).heap.size = w3.heap.size + 1 := by simp
  have HN : Hid (BoxAt (w3.alloc (nodeO (bothT 43 b (wordT 97) (wordT 98)))) w3.heap.size (bothT 43 b (wordT 97) (wordT 98))) := BoxAt.new w3 _
  have HI4 : Hid ((bothT 43 b (wordT 97) (wordT 98)).In w3.heap.size (w3.alloc (nodeO (bothT 43 b (wordT 97) (wordT 98))))) := MT.In.below hb4 _ hin3
  go_wp2_with fail
  have HW : ∃ W4, W4 = w3.alloc (nodeO (bothT 43 b (wordT 97) (wordT 98))) := ⟨_, rfl⟩
  obtain ⟨W4, hW4⟩ := HW
  rw [← hW4] at hB4 hz4 HN HI4
  have hT4 := ht.below (Nat.le_refl _) hB4
  have HK : Hid (∀ W, Below W4.heap.size W4 W → (W.cell? ⟨w3.heap.size, 0, none⟩ = some (.int .i64 51) ∧ W.cell? ⟨w3.heap.size, 1, none⟩ = some (.string ⟨#[43]⟩) ∧ W.cell? ⟨w3.heap.size, 2, none⟩ = some (.int .i64 0) ∧ W.cell? ⟨w3.heap.size, 3, none⟩ = some (.int .i64 0) ∧ W.cell? ⟨w3.heap.size, 4, none⟩ = some (.slice (some ⟨b, 0, none⟩) 2 2))) := fun W hW => by
    obtain ⟨k0, k1, k2, k3, k4⟩ := HN.out.below (by omega) hW
    exact ⟨k0, k1, k2, k3, k4⟩
  have HBo : Hid (∀ W, Below W4.heap.size W4 W → Calls Tryz.prog 27 #[.string ⟨#[42]⟩, nodeV (bothT 43 b (wordT 97) (wordT 98)), nodeV (wordT 99)] W fun e w' => ∃ b2, e = .returned (.agg (binN ⟨#[42]⟩ 0 (some ⟨b2, 0, none⟩) 2)) ∧ Below W4.heap.size W4 w' ∧ (bothT 42 b2 (bothT 43 b (wordT 97) (wordT 98)) (wordT 99)).In w'.heap.size w') := fun W hW =>
    (both_any ⟨#[42]⟩ (by decide) _ _ W (MT.In.mono (by have := hW.size; omega) _ (MT.In.below (hW.mono (by omega)) _ HI4.out)) (wordT_in _ _ _)).mono
      fun _ _ ⟨b2, h1, h2, h3⟩ => ⟨b2, h1, hW.trans (h2.mono hW.size), h3⟩
  have HPr : Hid (∀ W b2, Below W4.heap.size W4 W → (bothT 42 b2 (bothT 43 b (wordT 97) (wordT 98)) (wordT 99)).In W.heap.size W → Calls Tryz.prog 26 #[.agg (binN ⟨#[42]⟩ 0 (some ⟨b2, 0, none⟩) 2)] W fun e w' => e = .returned (.tuple #[.string ⟨#[40, 97, 32, 43, 32, 98, 41, 32, 42, 32, 99]⟩, .nilIface]) ∧ Below W4.heap.size W4 w') := fun W b2 hW hI =>
    (print_bin ⟨#[42]⟩ 0 _ 2 _ _ _ (wr_one b b2) (by simp [MT.size, MT.sizeL]) W (ht.below (Nat.le_refl _) (hB4.trans (hW.mono hB4.size))) hI (by decide)).mono
      fun _ _ ⟨h1, h2⟩ => ⟨h1, hW.trans (h2.mono hW.size)⟩
  obtain ⟨k0, k1, k2, k3, k4⟩ := HK.out W4 (Below.refl _ _)
  have hW4' : w3.alloc (.cells #[.int .i64 51, .string ⟨#[43]⟩, .int .i64 0, .int .i64 0, .slice (some ⟨b, 0, none⟩) 2 2] 24) = W4 := hW4.symm
  rw [hW4']
  clear hW4 hW4'
  go_region_held3 (fun W => W.cell? ⟨w3.heap.size, 0, none⟩ = some (.int .i64 51) ∧ W.cell? ⟨w3.heap.size, 1, none⟩ = some (.string ⟨#[43]⟩) ∧ W.cell? ⟨w3.heap.size, 2, none⟩ = some (.int .i64 0) ∧ W.cell? ⟨w3.heap.size, 3, none⟩ = some (.int .i64 0) ∧ W.cell? ⟨w3.heap.size, 4, none⟩ = some (.slice (some ⟨b, 0, none⟩) 2 2))
    (first | exact HK.out _ hbE | exact HK.out _ hbD | exact HK.out _ hbC | exact HK.out _ (Below.refl _ _).drew)
    (first
      | (go_at_call 28; refine (leafWord_any _ _).mono ?_; rintro e w5 ⟨rfl, hb0⟩; have hbC : Below W4.heap.size W4 w5 := ((Below.refl _ _).drew).trans (hb0.mono (by simp)))
      | (go_at_call 27; refine (HBo.out _ hbC).mono ?_; rintro e w6 ⟨b2, rfl, hbD, hi6⟩)
      | (go_at_call 26; refine (HPr.out _ _ hbD hi6).mono ?_; rintro e w7 ⟨rfl, hbE⟩))
  have HBo2 : Hid (∀ W, Below W4.heap.size W4 W → Calls Tryz.prog 27 #[.string ⟨#[43]⟩, nodeV (wordT 97), nodeV (bothT 43 b (wordT 97) (wordT 98))] W fun e w' => ∃ b2, e = .returned (.agg (binN ⟨#[43]⟩ 0 (some ⟨b2, 0, none⟩) 2)) ∧ Below W4.heap.size W4 w' ∧ (bothT 43 b2 (wordT 97) (bothT 43 b (wordT 97) (wordT 98))).In w'.heap.size w') := fun W hW =>
    (both_any ⟨#[43]⟩ (by decide) _ _ W (wordT_in _ _ _) (MT.In.mono (by have := hW.size; omega) _ (MT.In.below (hW.mono (by omega)) _ HI4.out))).mono
      fun _ _ ⟨b2, h1, h2, h3⟩ => ⟨b2, h1, hW.trans (h2.mono hW.size), h3⟩
  have HPr2 : Hid (∀ W b2, Below W4.heap.size W4 W → (bothT 43 b2 (wordT 97) (bothT 43 b (wordT 97) (wordT 98))).In W.heap.size W → Calls Tryz.prog 26 #[.agg (binN ⟨#[43]⟩ 0 (some ⟨b2, 0, none⟩) 2)] W fun e w' => e = .returned (.tuple #[.string ⟨#[97, 32, 43, 32, 40, 97, 32, 43, 32, 98, 41]⟩, .nilIface]) ∧ Below W4.heap.size W4 w') := fun W b2 hW hI =>
    (print_bin ⟨#[43]⟩ 0 _ 2 _ _ _ (wr_two b b2) (by simp [MT.size, MT.sizeL]) W (ht.below (Nat.le_refl _) (hB4.trans (hW.mono hB4.size))) hI (by decide)).mono
      fun _ _ ⟨h1, h2⟩ => ⟨h1, hW.trans (h2.mono hW.size)⟩
  clear k0 k1 k2 k3 k4 hb0 hbC hbD hi6 HBo HPr
  go_wp2_with fail
  obtain ⟨k0, k1, k2, k3, k4⟩ := HK.out w7 hbE
  go_region_held3 (fun W => W.cell? ⟨w3.heap.size, 0, none⟩ = some (.int .i64 51) ∧ W.cell? ⟨w3.heap.size, 1, none⟩ = some (.string ⟨#[43]⟩) ∧ W.cell? ⟨w3.heap.size, 2, none⟩ = some (.int .i64 0) ∧ W.cell? ⟨w3.heap.size, 3, none⟩ = some (.int .i64 0) ∧ W.cell? ⟨w3.heap.size, 4, none⟩ = some (.slice (some ⟨b, 0, none⟩) 2 2))
    (first | exact HK.out _ hbJ | exact HK.out _ hbH | exact HK.out _ hbF | exact HK.out _ hbE.drew)
    (first
      | (go_at_call 28; refine (leafWord_any _ _).mono ?_; rintro e w8 ⟨rfl, hb0⟩; have hbF : Below W4.heap.size W4 w8 := (hbE.drew).trans (hb0.mono (by have := hbE.size; simp; omega)))
      | (go_at_call 27; refine (HBo2.out _ hbF).mono ?_; rintro e w9 ⟨b3, rfl, hbH, hi9⟩)
      | (go_at_call 26; refine (HPr2.out _ _ hbH hi9).mono ?_; rintro e w10 ⟨rfl, hbJ⟩))
  clear k0 k1 k2 k3 k4 hb0 hbF hbH hi9 HBo2 HPr2
  go_wp2_with fail
  refine (right_int 7 w10 (ht.below (Nat.le_refl _) (hB4.trans (hbJ.mono hB4.size)))).mono ?_
  rintro e w11 ⟨Bw, rfl, hBw, hrow, hb11⟩
  have hbK : Below W4.heap.size W4 w11 := hbJ.trans (hb11.mono hbJ.size)
  have h11 := hbK.size
  go_wp2_with fail
  refine (told_any Bw _ _ rfl _ w11 hrow ((hB4.trans (hbK.mono hB4.size)).cell (p := ⟨0, 0, none⟩) (by have := ht.two; show 0 < _; omega) |>.trans hg) (by omega)).mono ?_
  rintro e w12 ⟨rfl, hb12⟩
  have hbL : Below W4.heap.size W4 w12 := hbK.trans (hb12.mono hbK.size)
  clear hb11 hb12 hrow
  go_wp2_with fail
  have hb13 := below1 w12 (.cells #[.int .i64 20, .int .i64 7, .string ⟨#[48, 49]⟩] 28)
  have hr13 := heap_alloc_new w12 (.cells #[.int .i64 20, .int .i64 7, .string ⟨#[48, 49]⟩] 28)
  have hz13 : (w12.alloc (.cells #[.int .i64 20, .int .i64 7, .string ⟨#[48, 49]⟩] 28)).heap.size = w12.heap.size + 1 := by simp
  have hW13 : ∃ W5, W5 = w12.alloc (.cells #[.int .i64 20, .int .i64 7, .string ⟨#[48, 49]⟩] 28) := ⟨_, rfl⟩
  obtain ⟨W5, hW5⟩ := hW13
  rw [← hW5] at hb13 hr13 hz13 ⊢
  clear hW5
  have hbM : Below W4.heap.size W4 W5 := hbL.trans (hb13.mono hbL.size)
  have hz12 := hbL.size
  have HK5 : Hid (∀ W, Below W5.heap.size W5 W → (W.cell? ⟨w3.heap.size, 0, none⟩ = some (.int .i64 51) ∧ W.cell? ⟨w3.heap.size, 1, none⟩ = some (.string ⟨#[43]⟩) ∧ W.cell? ⟨w3.heap.size, 2, none⟩ = some (.int .i64 0) ∧ W.cell? ⟨w3.heap.size, 3, none⟩ = some (.int .i64 0) ∧ W.cell? ⟨w3.heap.size, 4, none⟩ = some (.slice (some ⟨b, 0, none⟩) 2 2) ∧ W.cell? ⟨w12.heap.size, 0, none⟩ = some (.int .i64 20) ∧ W.cell? ⟨w12.heap.size, 1, none⟩ = some (.int .i64 7) ∧ W.cell? ⟨w12.heap.size, 2, none⟩ = some (.string ⟨#[48, 49]⟩))) := fun W hW => by
    obtain ⟨k0, k1, k2, k3, k4⟩ := HK.out W (hbM.trans (hW.mono hbM.size))
    have hc := fun i => (hW.cell (p := ⟨w12.heap.size, i, none⟩) (by show w12.heap.size < _; omega)).trans (cell_row hr13 i)
    exact ⟨k0, k1, k2, k3, k4, hc 0, hc 1, hc 2⟩
  have HIn : Hid (∀ W, Below W5.heap.size W5 W → (bothT 43 b (wordT 97) (wordT 98)).In W.heap.size W) := fun W hW =>
    MT.In.mono (by have := hW.size; omega) _ (MT.In.below ((hbM.trans (hW.mono hbM.size)).mono (by omega)) _ HI4.out)
  have HCn : Hid (∀ W, Below W5.heap.size W5 W → Calls Tryz.prog 18 #[nodeV (bothT 43 b (wordT 97) (wordT 98))] W fun e w' => e = .returned (.int .i64 3) ∧ Below W5.heap.size W5 w') := fun W hW =>
    (count_any _ W (HIn.out W hW)).mono fun _ _ ⟨r, h1, _, _, h4, h5⟩ => ⟨by rw [h1, show r = 3 from h4.out.trans (size_sum b)], hW.trans (h5.mono hW.size)⟩
  have HS1 : Hid (∀ W, Below W5.heap.size W5 W → Calls Tryz.prog 17 #[nodeV (bothT 43 b (wordT 97) (wordT 98)), nodeV (bothT 43 b (wordT 97) (wordT 98))] W fun e w' => e = .returned (.bool true) ∧ Below W5.heap.size W5 w') := fun W hW =>
    (same_any _ _ W (HIn.out W hW) (HIn.out W hW)).mono fun _ _ ⟨r, h1, h2, h3⟩ => ⟨by rw [h1, show r = true from h2.out.trans (same_one b)], hW.trans (h3.mono hW.size)⟩
  have HS2 : Hid (∀ W, Below W5.heap.size W5 W → Calls Tryz.prog 17 #[nodeV (bothT 43 b (wordT 97) (wordT 98)), nodeV (wordT 97)] W fun e w' => e = .returned (.bool false) ∧ Below W5.heap.size W5 w') := fun W hW =>
    (same_any _ _ W (HIn.out W hW) (wordT_in _ _ _)).mono fun _ _ ⟨r, h1, h2, h3⟩ => ⟨by rw [h1, show r = false from h2.out.trans (same_two b)], hW.trans (h3.mono hW.size)⟩
  obtain ⟨k0, k1, k2, k3, k4, m0, m1, m2⟩ := HK5.out W5 (Below.refl _ _)
  clear hr13 hb13 HN HK
  go_region_held3 (fun W => W.cell? ⟨w3.heap.size, 0, none⟩ = some (.int .i64 51) ∧ W.cell? ⟨w3.heap.size, 1, none⟩ = some (.string ⟨#[43]⟩) ∧ W.cell? ⟨w3.heap.size, 2, none⟩ = some (.int .i64 0) ∧ W.cell? ⟨w3.heap.size, 3, none⟩ = some (.int .i64 0) ∧ W.cell? ⟨w3.heap.size, 4, none⟩ = some (.slice (some ⟨b, 0, none⟩) 2 2) ∧ W.cell? ⟨w12.heap.size, 0, none⟩ = some (.int .i64 20) ∧ W.cell? ⟨w12.heap.size, 1, none⟩ = some (.int .i64 7) ∧ W.cell? ⟨w12.heap.size, 2, none⟩ = some (.string ⟨#[48, 49]⟩))
    (first | exact HK5.out _ hbR | exact HK5.out _ hbQ | exact HK5.out _ hbP | exact HK5.out _ hbO | exact HK5.out _ (Below.refl _ _).drew)
    (first
      | (go_at_call 18; refine (HCn.out _ (Below.refl _ _).drew).mono ?_; rintro e w14 ⟨rfl, hbO⟩)
      | (go_at_call 28; refine (leafWord_any _ _).mono ?_; rintro e w16 ⟨rfl, hb0⟩; have hbQ : Below W5.heap.size W5 w16 := hbP.trans (hb0.mono hbP.size))
      | (go_at_call 17; refine (HS2.out _ hbQ).mono ?_; rintro e w17 ⟨rfl, hbR⟩)
      | (go_at_call 17; refine (HS1.out _ hbO).mono ?_; rintro e w15 ⟨rfl, hbP⟩))
  have HE : Hid (Below w.heap.size w w17) := (hB4.trans (hbM.mono hB4.size)).trans (hbR.mono (by have := hB4.size; omega))
  go_wp2_with fail
  go_ret
  exact ⟨rfl, HE.out⟩
end Go.Proofs.YthbnegggohegkaaGreatDoor
