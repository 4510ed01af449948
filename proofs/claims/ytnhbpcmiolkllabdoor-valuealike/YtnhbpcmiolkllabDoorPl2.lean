/-
  A simple datum, made: a float, a text, a map, a func.
-/
import Derived.Test.YtnhbpcmiolkllabDoorPj2
namespace Go.Proofs.YtnhbpcmiolkllabDoor
open Go.RowKit
attribute [local go_sem] refold2 cell3_0 cell3_1 b28_0 b28_01 b32_k

def sixS : Array Value := #[.string ⟨#[]⟩, .string ⟨#[97]⟩, .string ⟨#[97, 98]⟩, .string ⟨#[98]⟩, .string ⟨#[0]⟩, .string ⟨#[255]⟩]
theorem sixS_get (m : Nat) (h : m < 6) : ∃ t, sixS[m]? = some (.string t) ∧ t.size ≤ 100 := by
  match m, h with
  | 0, _ => exact ⟨_, rfl, by decide⟩
  | 1, _ => exact ⟨_, rfl, by decide⟩
  | 2, _ => exact ⟨_, rfl, by decide⟩
  | 3, _ => exact ⟨_, rfl, by decide⟩
  | 4, _ => exact ⟨_, rfl, by decide⟩
  | 5, _ => exact ⟨_, rfl, by decide⟩
set_option maxRecDepth 100000 in
set_option maxHeartbeats 4000000 in
theorem simple_3 (kb : Nat) (rp : Option Addr) (raw : List Int) (rc at_ : Nat) (w : World) (hM : MakerAt w kb rp raw rc at_) (ha : at_ ≤ 90000) (hK : nv raw at_ 9 = 3) :
    Calls Tryd.prog 21 #[.pointer (some ⟨kb, 0, none⟩)] w (SimP kb rp raw rc at_ w) := by
  have hk : kb < w.heap.size := (Array.getElem?_eq_some_iff.1 hM.row).1
  have HM : Hid (MakerAt w kb rp raw rc at_) := hM
  clear hM
  go_enter Tryd.func21, Tryd.ntmps21
  go_wp2_with fail
  refine (next_det kb rp raw rc at_ 9 _ (HM.out.below (below1 _ _)) (by omega) (by decide) (by decide)).mono ?_
  rintro r w2 ⟨c, rfl, d0, e0, hM2, hv2⟩
  obtain rfl : c = 3 := by omega
  have hr2 : w2.heap[w.heap.size]? = some (.cells zeros 32 (0, 0)) := (hv2.block _ (by simp) (by omega)).trans (heap_alloc_new _ _)
  have HS0 : Hid (St kb rp raw rc w w2 (at_ + 1)) := ⟨(Moved.of_below (below1 _ _)).trans hv2, hM2.row⟩
  have HR0 : Hid _ := hr2
  have hc0 : ∀ i, w2.cell? ⟨w.heap.size, i, none⟩ = (#[.int .i64 0, .string ⟨#[]⟩, .int .i64 0, .int .u64 0, .string ⟨#[]⟩, .int .i64 0, .int .i64 0, .int .i64 0, .int .i64 0, .slice none 0 0, .slice none 0 0] : Array Value)[i]? := row_at hr2
  have hf0 := fun i => fz _ _ _ _ i hr2
  have hy0 : w.heap.size < w2.heap.size := (Array.getElem?_eq_some_iff.1 hr2).1
  clear hM2 hv2 hr2
  go_wp2_with fail
  refine (next_det kb rp raw rc (at_ + 1) 4 _ (((Sb.new HS0.out hk HR0.out #[.int .i64 3, .string ⟨#[102, 108, 111, 97, 116]⟩, .int .i64 0, .int .u64 0, .string ⟨#[]⟩, .int .i64 0, .int .i64 0, .int .i64 0, .int .i64 0, .slice none 0 0, .slice none 0 0]).alloc (.cells #[.string ⟨#[]⟩, .string ⟨#[98, 111, 111, 108]⟩, .string ⟨#[105, 110, 116]⟩, .string ⟨#[102, 108, 111, 97, 116]⟩, .string ⟨#[116, 101, 120, 116]⟩, .string ⟨#[108, 105, 115, 116]⟩, .string ⟨#[109, 97, 112]⟩, .string ⟨#[102, 117, 110, 99]⟩, .string ⟨#[]⟩, .string ⟨#[84]⟩] 9)).maker HM.out) (by omega) (by omega) (by omega)).mono ?_
  rintro r w3 ⟨c1, rfl, d1, e1, hM1, hv1⟩
  have HS1 : Hid (Sb kb rp raw rc w w3 (at_ + 1 + 1) w2.heap.size #[.int .i64 3, .string ⟨#[102, 108, 111, 97, 116]⟩, .int .i64 0, .int .u64 0, .string ⟨#[]⟩, .int .i64 0, .int .i64 0, .int .i64 0, .int .i64 0, .slice none 0 0, .slice none 0 0]) := ((Sb.new HS0.out hk HR0.out #[.int .i64 3, .string ⟨#[102, 108, 111, 97, 116]⟩, .int .i64 0, .int .u64 0, .string ⟨#[]⟩, .int .i64 0, .int .i64 0, .int .i64 0, .int .i64 0, .slice none 0 0, .slice none 0 0]).alloc (.cells #[.string ⟨#[]⟩, .string ⟨#[98, 111, 111, 108]⟩, .string ⟨#[105, 110, 116]⟩, .string ⟨#[102, 108, 111, 97, 116]⟩, .string ⟨#[116, 101, 120, 116]⟩, .string ⟨#[108, 105, 115, 116]⟩, .string ⟨#[109, 97, 112]⟩, .string ⟨#[102, 117, 110, 99]⟩, .string ⟨#[]⟩, .string ⟨#[84]⟩] 9)).next hM1 hv1
  clear hM1 hv1
  have hc1 : ∀ i, w3.cell? ⟨w2.heap.size, i, none⟩ = _ := row_at HS1.out.box
  have hf1 := fun i => fz _ _ _ _ i HS1.out.box
  have hr1 : ∀ i, w3.cell? ⟨w.heap.size, i, none⟩ = (#[.int .i64 0, .string ⟨#[]⟩, .int .i64 0, .int .u64 0, .string ⟨#[]⟩, .int .i64 0, .int .i64 0, .int .i64 0, .int .i64 0, .slice none 0 0, .slice none 0 0] : Array Value)[i]? := row_at HS1.out.res
  have hg1 := fun i => fz _ _ _ _ i HS1.out.res
  have hz1 : w2.heap.size < w3.heap.size := (Array.getElem?_eq_some_iff.1 HS1.out.box).1
  have hy1 : w.heap.size < w3.heap.size := (Array.getElem?_eq_some_iff.1 HS1.out.res).1
  by_cases hty : c1 = 0
  · subst hty
    go_wp2_with fail
    refine (next_det kb rp raw rc (at_ + 1 + 1) 2 _ (((HS1.out).alloc (.cells #[.string ⟨#[84]⟩, .string ⟨#[85]⟩] 9)).maker HM.out) (by omega) (by omega) (by omega)).mono ?_
    rintro r w4 ⟨c2, rfl, d2, e2, hM2, hv2⟩
    have HS2 : Hid (Sb kb rp raw rc w w4 (at_ + 1 + 1 + 1) w2.heap.size #[.int .i64 3, .string ⟨#[102, 108, 111, 97, 116]⟩, .int .i64 0, .int .u64 0, .string ⟨#[]⟩, .int .i64 0, .int .i64 0, .int .i64 0, .int .i64 0, .slice none 0 0, .slice none 0 0]) := ((HS1.out).alloc (.cells #[.string ⟨#[84]⟩, .string ⟨#[85]⟩] 9)).next hM2 hv2
    have hp2 : w4.heap[w3.heap.size]? = some (.cells #[.string ⟨#[84]⟩, .string ⟨#[85]⟩] 9 (0, 0)) := (hv2.block _ (by simp) (by omega)).trans (alloc_at (by simp))
    clear hM2 hv2
    clear hc1 hf1 hr1 hg1 hz1 hy1
    have hc2 : ∀ i, w4.cell? ⟨w2.heap.size, i, none⟩ = _ := row_at HS2.out.box
    have hf2 := fun i => fz _ _ _ _ i HS2.out.box
    have hr2 : ∀ i, w4.cell? ⟨w.heap.size, i, none⟩ = (#[.int .i64 0, .string ⟨#[]⟩, .int .i64 0, .int .u64 0, .string ⟨#[]⟩, .int .i64 0, .int .i64 0, .int .i64 0, .int .i64 0, .slice none 0 0, .slice none 0 0] : Array Value)[i]? := row_at HS2.out.res
    have hg2 := fun i => fz _ _ _ _ i HS2.out.res
    have hz2 : w2.heap.size < w4.heap.size := (Array.getElem?_eq_some_iff.1 HS2.out.box).1
    have hy2 : w.heap.size < w4.heap.size := (Array.getElem?_eq_some_iff.1 HS2.out.res).1
    have q2 := nv_range raw (at_ + 1 + 1) 2 (by decide)
    obtain ⟨m, rfl⟩ : ∃ m : Nat, c2 = m := ⟨c2.toNat, by omega⟩
    have hm2 : m < 2 := by omega
    have i2 : (m : Int) < 2 := by omega
    obtain ⟨tv, htv, htd, ht0⟩ := two_get ⟨#[84]⟩ ⟨#[85]⟩ m hm2 ⟨decl_T, by decide⟩ ⟨decl_U, by decide⟩
    have hl2 := (row_at hp2 m).trans htv
    have hT : tyB 3 tv = true := tyB_decl 3 tv (by decide) (by decide) htd
    clear hp2 htv
    go_wp2_with fail
    refine (float_any kb rp raw rc (at_ + 1 + 1 + 1) _ (((HS2.out).set 1 (.string tv)).maker HM.out) (by omega)).mono ?_
    rintro r w5 ⟨c3, a3, rfl, d3, e3, k3, ha3, hM3, hv3⟩
    have HS3 : Hid (Sb kb rp raw rc w w5 (a3) w2.heap.size #[.int .i64 3, .string tv, .int .i64 0, .int .u64 0, .string ⟨#[]⟩, .int .i64 0, .int .i64 0, .int .i64 0, .int .i64 0, .slice none 0 0, .slice none 0 0]) := ((HS2.out).set 1 (.string tv)).next hM3 hv3
    clear hM3 hv3
    clear hc2 hf2 hr2 hg2 hz2 hy2
    have hc3 : ∀ i, w5.cell? ⟨w2.heap.size, i, none⟩ = _ := row_at HS3.out.box
    have hf3 := fun i => fz _ _ _ _ i HS3.out.box
    have hr3 : ∀ i, w5.cell? ⟨w.heap.size, i, none⟩ = (#[.int .i64 0, .string ⟨#[]⟩, .int .i64 0, .int .u64 0, .string ⟨#[]⟩, .int .i64 0, .int .i64 0, .int .i64 0, .int .i64 0, .slice none 0 0, .slice none 0 0] : Array Value)[i]? := row_at HS3.out.res
    have hg3 := fun i => fz _ _ _ _ i HS3.out.res
    have hz3 : w2.heap.size < w5.heap.size := (Array.getElem?_eq_some_iff.1 HS3.out.box).1
    have hy3 : w.heap.size < w5.heap.size := (Array.getElem?_eq_some_iff.1 HS3.out.res).1
    go_wp2_with fail
    refine bodyPost_ret (v := .agg #[.int .i64 3, .string tv, .int .i64 0, .int .u64 c3, .string ⟨#[]⟩, .int .i64 0, .int .i64 0, .int .i64 0, .int .i64 0, .slice none 0 0, .slice none 0 0]) (by simp [results, Tryd.results21, go_sem, hr3]) rfl ?_
    exact sim_done 3 tv 0 c3 ⟨#[]⟩ 0 0 0 0 HM.out HS3.out.st (bset ((Below.refl _ _).setCell (p := ⟨w2.heap.size, 3, none⟩) (by show _ ≤ _; simp; omega) _) (Nat.le_refl _) _ _ _ _ _ _ _ _ _ _ _) (by omega) (by decide) (by decide) ht0 (by decide) (by decide) d3 e3 (by decide) (by decide) (by decide) (by decide) (by decide) (right_flR _ _ _ _ _ _ _ _ _ hT (by simp [zeroK]) (by unfold flOK at k3; simpa [kindB] using k3) (by decide))
  · have hty2 : (c1 == 0) = false := by simpa using hty
    have hT : tyB 3 ⟨#[102, 108, 111, 97, 116]⟩ = true := by simp [tyB, Lib.toList_data]
    have ht0 : (⟨#[102, 108, 111, 97, 116]⟩ : ByteArray).size ≤ 100 := by decide
    go_wp2_with fail
    refine (float_any kb rp raw rc (at_ + 1 + 1) _ ((HS1.out).maker HM.out) (by omega)).mono ?_
    rintro r w4 ⟨c2, a2, rfl, d2, e2, k2, ha2, hM2, hv2⟩
    have HS2 : Hid (Sb kb rp raw rc w w4 (a2) w2.heap.size #[.int .i64 3, .string ⟨#[102, 108, 111, 97, 116]⟩, .int .i64 0, .int .u64 0, .string ⟨#[]⟩, .int .i64 0, .int .i64 0, .int .i64 0, .int .i64 0, .slice none 0 0, .slice none 0 0]) := (HS1.out).next hM2 hv2
    clear hM2 hv2
    clear hc1 hf1 hr1 hg1 hz1 hy1
    have hc2 : ∀ i, w4.cell? ⟨w2.heap.size, i, none⟩ = _ := row_at HS2.out.box
    have hf2 := fun i => fz _ _ _ _ i HS2.out.box
    have hr2 : ∀ i, w4.cell? ⟨w.heap.size, i, none⟩ = (#[.int .i64 0, .string ⟨#[]⟩, .int .i64 0, .int .u64 0, .string ⟨#[]⟩, .int .i64 0, .int .i64 0, .int .i64 0, .int .i64 0, .slice none 0 0, .slice none 0 0] : Array Value)[i]? := row_at HS2.out.res
    have hg2 := fun i => fz _ _ _ _ i HS2.out.res
    have hz2 : w2.heap.size < w4.heap.size := (Array.getElem?_eq_some_iff.1 HS2.out.box).1
    have hy2 : w.heap.size < w4.heap.size := (Array.getElem?_eq_some_iff.1 HS2.out.res).1
    go_wp2_with fail
    refine bodyPost_ret (v := .agg #[.int .i64 3, .string ⟨#[102, 108, 111, 97, 116]⟩, .int .i64 0, .int .u64 c2, .string ⟨#[]⟩, .int .i64 0, .int .i64 0, .int .i64 0, .int .i64 0, .slice none 0 0, .slice none 0 0]) (by simp [results, Tryd.results21, go_sem, hr2]) rfl ?_
    exact sim_done 3 ⟨#[102, 108, 111, 97, 116]⟩ 0 c2 ⟨#[]⟩ 0 0 0 0 HM.out HS2.out.st (bset ((Below.refl _ _).setCell (p := ⟨w2.heap.size, 3, none⟩) (by show _ ≤ _; simp; omega) _) (Nat.le_refl _) _ _ _ _ _ _ _ _ _ _ _) (by omega) (by decide) (by decide) ht0 (by decide) (by decide) d2 e2 (by decide) (by decide) (by decide) (by decide) (by decide) (right_flR _ _ _ _ _ _ _ _ _ hT (by simp [zeroK]) (by unfold flOK at k2; simpa [kindB] using k2) (by decide))
set_option maxRecDepth 100000 in
set_option maxHeartbeats 4000000 in
theorem simple_4 (kb : Nat) (rp : Option Addr) (raw : List Int) (rc at_ : Nat) (w : World) (hM : MakerAt w kb rp raw rc at_) (ha : at_ ≤ 90000) (hK : nv raw at_ 9 = 4) :
    Calls Tryd.prog 21 #[.pointer (some ⟨kb, 0, none⟩)] w (SimP kb rp raw rc at_ w) := by
  have hk : kb < w.heap.size := (Array.getElem?_eq_some_iff.1 hM.row).1
  have HM : Hid (MakerAt w kb rp raw rc at_) := hM
  clear hM
  go_enter Tryd.func21, Tryd.ntmps21
  go_wp2_with fail
  refine (next_det kb rp raw rc at_ 9 _ (HM.out.below (below1 _ _)) (by omega) (by decide) (by decide)).mono ?_
  rintro r w2 ⟨c, rfl, d0, e0, hM2, hv2⟩
  obtain rfl : c = 4 := by omega
  have hr2 : w2.heap[w.heap.size]? = some (.cells zeros 32 (0, 0)) := (hv2.block _ (by simp) (by omega)).trans (heap_alloc_new _ _)
  have HS0 : Hid (St kb rp raw rc w w2 (at_ + 1)) := ⟨(Moved.of_below (below1 _ _)).trans hv2, hM2.row⟩
  have HR0 : Hid _ := hr2
  have hc0 : ∀ i, w2.cell? ⟨w.heap.size, i, none⟩ = (#[.int .i64 0, .string ⟨#[]⟩, .int .i64 0, .int .u64 0, .string ⟨#[]⟩, .int .i64 0, .int .i64 0, .int .i64 0, .int .i64 0, .slice none 0 0, .slice none 0 0] : Array Value)[i]? := row_at hr2
  have hf0 := fun i => fz _ _ _ _ i hr2
  have hy0 : w.heap.size < w2.heap.size := (Array.getElem?_eq_some_iff.1 hr2).1
  clear hM2 hv2 hr2
  go_wp2_with fail
  refine (next_det kb rp raw rc (at_ + 1) 4 _ (((Sb.new HS0.out hk HR0.out #[.int .i64 4, .string ⟨#[116, 101, 120, 116]⟩, .int .i64 0, .int .u64 0, .string ⟨#[]⟩, .int .i64 0, .int .i64 0, .int .i64 0, .int .i64 0, .slice none 0 0, .slice none 0 0]).alloc (.cells #[.string ⟨#[]⟩, .string ⟨#[98, 111, 111, 108]⟩, .string ⟨#[105, 110, 116]⟩, .string ⟨#[102, 108, 111, 97, 116]⟩, .string ⟨#[116, 101, 120, 116]⟩, .string ⟨#[108, 105, 115, 116]⟩, .string ⟨#[109, 97, 112]⟩, .string ⟨#[102, 117, 110, 99]⟩, .string ⟨#[]⟩, .string ⟨#[84]⟩] 9)).maker HM.out) (by omega) (by omega) (by omega)).mono ?_
  rintro r w3 ⟨c1, rfl, d1, e1, hM1, hv1⟩
  have HS1 : Hid (Sb kb rp raw rc w w3 (at_ + 1 + 1) w2.heap.size #[.int .i64 4, .string ⟨#[116, 101, 120, 116]⟩, .int .i64 0, .int .u64 0, .string ⟨#[]⟩, .int .i64 0, .int .i64 0, .int .i64 0, .int .i64 0, .slice none 0 0, .slice none 0 0]) := ((Sb.new HS0.out hk HR0.out #[.int .i64 4, .string ⟨#[116, 101, 120, 116]⟩, .int .i64 0, .int .u64 0, .string ⟨#[]⟩, .int .i64 0, .int .i64 0, .int .i64 0, .int .i64 0, .slice none 0 0, .slice none 0 0]).alloc (.cells #[.string ⟨#[]⟩, .string ⟨#[98, 111, 111, 108]⟩, .string ⟨#[105, 110, 116]⟩, .string ⟨#[102, 108, 111, 97, 116]⟩, .string ⟨#[116, 101, 120, 116]⟩, .string ⟨#[108, 105, 115, 116]⟩, .string ⟨#[109, 97, 112]⟩, .string ⟨#[102, 117, 110, 99]⟩, .string ⟨#[]⟩, .string ⟨#[84]⟩] 9)).next hM1 hv1
  clear hM1 hv1
  have hc1 : ∀ i, w3.cell? ⟨w2.heap.size, i, none⟩ = _ := row_at HS1.out.box
  have hf1 := fun i => fz _ _ _ _ i HS1.out.box
  have hr1 : ∀ i, w3.cell? ⟨w.heap.size, i, none⟩ = (#[.int .i64 0, .string ⟨#[]⟩, .int .i64 0, .int .u64 0, .string ⟨#[]⟩, .int .i64 0, .int .i64 0, .int .i64 0, .int .i64 0, .slice none 0 0, .slice none 0 0] : Array Value)[i]? := row_at HS1.out.res
  have hg1 := fun i => fz _ _ _ _ i HS1.out.res
  have hz1 : w2.heap.size < w3.heap.size := (Array.getElem?_eq_some_iff.1 HS1.out.box).1
  have hy1 : w.heap.size < w3.heap.size := (Array.getElem?_eq_some_iff.1 HS1.out.res).1
  by_cases hty : c1 = 0
  · subst hty
    go_wp2_with fail
    refine (next_det kb rp raw rc (at_ + 1 + 1) 2 _ (((HS1.out).alloc (.cells #[.string ⟨#[84]⟩, .string ⟨#[85]⟩] 9)).maker HM.out) (by omega) (by omega) (by omega)).mono ?_
    rintro r w4 ⟨c2, rfl, d2, e2, hM2, hv2⟩
    have HS2 : Hid (Sb kb rp raw rc w w4 (at_ + 1 + 1 + 1) w2.heap.size #[.int .i64 4, .string ⟨#[116, 101, 120, 116]⟩, .int .i64 0, .int .u64 0, .string ⟨#[]⟩, .int .i64 0, .int .i64 0, .int .i64 0, .int .i64 0, .slice none 0 0, .slice none 0 0]) := ((HS1.out).alloc (.cells #[.string ⟨#[84]⟩, .string ⟨#[85]⟩] 9)).next hM2 hv2
    have hp2 : w4.heap[w3.heap.size]? = some (.cells #[.string ⟨#[84]⟩, .string ⟨#[85]⟩] 9 (0, 0)) := (hv2.block _ (by simp) (by omega)).trans (alloc_at (by simp))
    clear hM2 hv2
    clear hc1 hf1 hr1 hg1 hz1 hy1
    have hc2 : ∀ i, w4.cell? ⟨w2.heap.size, i, none⟩ = _ := row_at HS2.out.box
    have hf2 := fun i => fz _ _ _ _ i HS2.out.box
    have hr2 : ∀ i, w4.cell? ⟨w.heap.size, i, none⟩ = (#[.int .i64 0, .string ⟨#[]⟩, .int .i64 0, .int .u64 0, .string ⟨#[]⟩, .int .i64 0, .int .i64 0, .int .i64 0, .int .i64 0, .slice none 0 0, .slice none 0 0] : Array Value)[i]? := row_at HS2.out.res
    have hg2 := fun i => fz _ _ _ _ i HS2.out.res
    have hz2 : w2.heap.size < w4.heap.size := (Array.getElem?_eq_some_iff.1 HS2.out.box).1
    have hy2 : w.heap.size < w4.heap.size := (Array.getElem?_eq_some_iff.1 HS2.out.res).1
    have q2 := nv_range raw (at_ + 1 + 1) 2 (by decide)
    obtain ⟨m, rfl⟩ : ∃ m : Nat, c2 = m := ⟨c2.toNat, by omega⟩
    have hm2 : m < 2 := by omega
    have i2 : (m : Int) < 2 := by omega
    obtain ⟨tv, htv, htd, ht0⟩ := two_get ⟨#[84]⟩ ⟨#[85]⟩ m hm2 ⟨decl_T, by decide⟩ ⟨decl_U, by decide⟩
    have hl2 := (row_at hp2 m).trans htv
    have hT : tyB 4 tv = true := tyB_decl 4 tv (by decide) (by decide) htd
    clear hp2 htv
    go_wp2_with fail
    refine (next_det kb rp raw rc (at_ + 1 + 1 + 1) 6 _ ((((HS2.out).set 1 (.string tv)).alloc (.cells sixS 9)).maker HM.out) (by omega) (by omega) (by omega)).mono ?_
    rintro r w5 ⟨c3, rfl, d3, e3, hM3, hv3⟩
    have HS3 : Hid (Sb kb rp raw rc w w5 (at_ + 1 + 1 + 1 + 1) w2.heap.size #[.int .i64 4, .string tv, .int .i64 0, .int .u64 0, .string ⟨#[]⟩, .int .i64 0, .int .i64 0, .int .i64 0, .int .i64 0, .slice none 0 0, .slice none 0 0]) := (((HS2.out).set 1 (.string tv)).alloc (.cells sixS 9)).next hM3 hv3
    have hp3 : w5.heap[w4.heap.size]? = some (.cells sixS 9 (0, 0)) := (hv3.block _ (by simp) (by omega)).trans (alloc_at (by simp))
    clear hM3 hv3
    clear hc2 hf2 hr2 hg2 hz2 hy2
    have hc3 : ∀ i, w5.cell? ⟨w2.heap.size, i, none⟩ = _ := row_at HS3.out.box
    have hf3 := fun i => fz _ _ _ _ i HS3.out.box
    have hr3 : ∀ i, w5.cell? ⟨w.heap.size, i, none⟩ = (#[.int .i64 0, .string ⟨#[]⟩, .int .i64 0, .int .u64 0, .string ⟨#[]⟩, .int .i64 0, .int .i64 0, .int .i64 0, .int .i64 0, .slice none 0 0, .slice none 0 0] : Array Value)[i]? := row_at HS3.out.res
    have hg3 := fun i => fz _ _ _ _ i HS3.out.res
    have hz3 : w2.heap.size < w5.heap.size := (Array.getElem?_eq_some_iff.1 HS3.out.box).1
    have hy3 : w.heap.size < w5.heap.size := (Array.getElem?_eq_some_iff.1 HS3.out.res).1
    have q3 := nv_range raw (at_ + 1 + 1 + 1) 6 (by decide)
    obtain ⟨m, rfl⟩ : ∃ m : Nat, c3 = m := ⟨c3.toNat, by omega⟩
    have hm6 : m < 6 := by omega
    have i6 : (m : Int) < 6 := by omega
    obtain ⟨sv, hsv, hs0⟩ := sixS_get m hm6
    have hl6 := (row_at hp3 m).trans hsv
    clear hp3 hsv
    go_wp2_with fail
    refine bodyPost_ret (v := .agg #[.int .i64 4, .string tv, .int .i64 0, .int .u64 0, .string sv, .int .i64 0, .int .i64 0, .int .i64 0, .int .i64 0, .slice none 0 0, .slice none 0 0]) (by simp [results, Tryd.results21, go_sem, hr3]) rfl ?_
    exact sim_done 4 tv 0 0 sv 0 0 0 0 HM.out HS3.out.st (bset ((Below.refl _ _).setCell (p := ⟨w2.heap.size, 4, none⟩) (by show _ ≤ _; simp; omega) _) (Nat.le_refl _) _ _ _ _ _ _ _ _ _ _ _) (by omega) (by decide) (by decide) ht0 (by decide) (by decide) (by decide) (by decide) (by omega) (by decide) (by decide) (by decide) (by decide) (right_flR _ _ _ _ _ _ _ _ _ hT (by simp [zeroK]) (by unfold kindB; simp; omega) (by decide))
  · have hty2 : (c1 == 0) = false := by simpa using hty
    have hT : tyB 4 ⟨#[116, 101, 120, 116]⟩ = true := by simp [tyB, Lib.toList_data]
    have ht0 : (⟨#[116, 101, 120, 116]⟩ : ByteArray).size ≤ 100 := by decide
    go_wp2_with fail
    refine (next_det kb rp raw rc (at_ + 1 + 1) 6 _ (((HS1.out).alloc (.cells sixS 9)).maker HM.out) (by omega) (by omega) (by omega)).mono ?_
    rintro r w4 ⟨c2, rfl, d2, e2, hM2, hv2⟩
    have HS2 : Hid (Sb kb rp raw rc w w4 (at_ + 1 + 1 + 1) w2.heap.size #[.int .i64 4, .string ⟨#[116, 101, 120, 116]⟩, .int .i64 0, .int .u64 0, .string ⟨#[]⟩, .int .i64 0, .int .i64 0, .int .i64 0, .int .i64 0, .slice none 0 0, .slice none 0 0]) := ((HS1.out).alloc (.cells sixS 9)).next hM2 hv2
    have hp2 : w4.heap[w3.heap.size]? = some (.cells sixS 9 (0, 0)) := (hv2.block _ (by simp) (by omega)).trans (alloc_at (by simp))
    clear hM2 hv2
    clear hc1 hf1 hr1 hg1 hz1 hy1
    have hc2 : ∀ i, w4.cell? ⟨w2.heap.size, i, none⟩ = _ := row_at HS2.out.box
    have hf2 := fun i => fz _ _ _ _ i HS2.out.box
    have hr2 : ∀ i, w4.cell? ⟨w.heap.size, i, none⟩ = (#[.int .i64 0, .string ⟨#[]⟩, .int .i64 0, .int .u64 0, .string ⟨#[]⟩, .int .i64 0, .int .i64 0, .int .i64 0, .int .i64 0, .slice none 0 0, .slice none 0 0] : Array Value)[i]? := row_at HS2.out.res
    have hg2 := fun i => fz _ _ _ _ i HS2.out.res
    have hz2 : w2.heap.size < w4.heap.size := (Array.getElem?_eq_some_iff.1 HS2.out.box).1
    have hy2 : w.heap.size < w4.heap.size := (Array.getElem?_eq_some_iff.1 HS2.out.res).1
    have q2 := nv_range raw (at_ + 1 + 1) 6 (by decide)
    obtain ⟨m, rfl⟩ : ∃ m : Nat, c2 = m := ⟨c2.toNat, by omega⟩
    have hm6 : m < 6 := by omega
    have i6 : (m : Int) < 6 := by omega
    obtain ⟨sv, hsv, hs0⟩ := sixS_get m hm6
    have hl6 := (row_at hp2 m).trans hsv
    clear hp2 hsv
    go_wp2_with fail
    refine bodyPost_ret (v := .agg #[.int .i64 4, .string ⟨#[116, 101, 120, 116]⟩, .int .i64 0, .int .u64 0, .string sv, .int .i64 0, .int .i64 0, .int .i64 0, .int .i64 0, .slice none 0 0, .slice none 0 0]) (by simp [results, Tryd.results21, go_sem, hr2]) rfl ?_
    exact sim_done 4 ⟨#[116, 101, 120, 116]⟩ 0 0 sv 0 0 0 0 HM.out HS2.out.st (bset ((Below.refl _ _).setCell (p := ⟨w2.heap.size, 4, none⟩) (by show _ ≤ _; simp; omega) _) (Nat.le_refl _) _ _ _ _ _ _ _ _ _ _ _) (by omega) (by decide) (by decide) ht0 (by decide) (by decide) (by decide) (by decide) (by omega) (by decide) (by decide) (by decide) (by decide) (right_flR _ _ _ _ _ _ _ _ _ hT (by simp [zeroK]) (by unfold kindB; simp; omega) (by decide))
set_option maxRecDepth 100000 in
set_option maxHeartbeats 4000000 in
theorem simple_6 (kb : Nat) (rp : Option Addr) (raw : List Int) (rc at_ : Nat) (w : World) (hM : MakerAt w kb rp raw rc at_) (ha : at_ ≤ 90000) (hK : nv raw at_ 9 = 6) :
    Calls Tryd.prog 21 #[.pointer (some ⟨kb, 0, none⟩)] w (SimP kb rp raw rc at_ w) := by
  have hk : kb < w.heap.size := (Array.getElem?_eq_some_iff.1 hM.row).1
  have HM : Hid (MakerAt w kb rp raw rc at_) := hM
  clear hM
  go_enter Tryd.func21, Tryd.ntmps21
  go_wp2_with fail
  refine (next_det kb rp raw rc at_ 9 _ (HM.out.below (below1 _ _)) (by omega) (by decide) (by decide)).mono ?_
  rintro r w2 ⟨c, rfl, d0, e0, hM2, hv2⟩
  obtain rfl : c = 6 := by omega
  have hr2 : w2.heap[w.heap.size]? = some (.cells zeros 32 (0, 0)) := (hv2.block _ (by simp) (by omega)).trans (heap_alloc_new _ _)
  have HS0 : Hid (St kb rp raw rc w w2 (at_ + 1)) := ⟨(Moved.of_below (below1 _ _)).trans hv2, hM2.row⟩
  have HR0 : Hid _ := hr2
  have hc0 : ∀ i, w2.cell? ⟨w.heap.size, i, none⟩ = (#[.int .i64 0, .string ⟨#[]⟩, .int .i64 0, .int .u64 0, .string ⟨#[]⟩, .int .i64 0, .int .i64 0, .int .i64 0, .int .i64 0, .slice none 0 0, .slice none 0 0] : Array Value)[i]? := row_at hr2
  have hf0 := fun i => fz _ _ _ _ i hr2
  have hy0 : w.heap.size < w2.heap.size := (Array.getElem?_eq_some_iff.1 hr2).1
  clear hM2 hv2 hr2
  go_wp2_with fail
  refine (next_det kb rp raw rc (at_ + 1) 4 _ (((Sb.new HS0.out hk HR0.out #[.int .i64 6, .string ⟨#[109, 97, 112]⟩, .int .i64 0, .int .u64 0, .string ⟨#[]⟩, .int .i64 0, .int .i64 0, .int .i64 0, .int .i64 0, .slice none 0 0, .slice none 0 0]).alloc (.cells #[.string ⟨#[]⟩, .string ⟨#[98, 111, 111, 108]⟩, .string ⟨#[105, 110, 116]⟩, .string ⟨#[102, 108, 111, 97, 116]⟩, .string ⟨#[116, 101, 120, 116]⟩, .string ⟨#[108, 105, 115, 116]⟩, .string ⟨#[109, 97, 112]⟩, .string ⟨#[102, 117, 110, 99]⟩, .string ⟨#[]⟩, .string ⟨#[84]⟩] 9)).maker HM.out) (by omega) (by omega) (by omega)).mono ?_
  rintro r w3 ⟨c1, rfl, d1, e1, hM1, hv1⟩
  have HS1 : Hid (Sb kb rp raw rc w w3 (at_ + 1 + 1) w2.heap.size #[.int .i64 6, .string ⟨#[109, 97, 112]⟩, .int .i64 0, .int .u64 0, .string ⟨#[]⟩, .int .i64 0, .int .i64 0, .int .i64 0, .int .i64 0, .slice none 0 0, .slice none 0 0]) := ((Sb.new HS0.out hk HR0.out #[.int .i64 6, .string ⟨#[109, 97, 112]⟩, .int .i64 0, .int .u64 0, .string ⟨#[]⟩, .int .i64 0, .int .i64 0, .int .i64 0, .int .i64 0, .slice none 0 0, .slice none 0 0]).alloc (.cells #[.string ⟨#[]⟩, .string ⟨#[98, 111, 111, 108]⟩, .string ⟨#[105, 110, 116]⟩, .string ⟨#[102, 108, 111, 97, 116]⟩, .string ⟨#[116, 101, 120, 116]⟩, .string ⟨#[108, 105, 115, 116]⟩, .string ⟨#[109, 97, 112]⟩, .string ⟨#[102, 117, 110, 99]⟩, .string ⟨#[]⟩, .string ⟨#[84]⟩] 9)).next hM1 hv1
  clear hM1 hv1
  have hc1 : ∀ i, w3.cell? ⟨w2.heap.size, i, none⟩ = _ := row_at HS1.out.box
  have hf1 := fun i => fz _ _ _ _ i HS1.out.box
  have hr1 : ∀ i, w3.cell? ⟨w.heap.size, i, none⟩ = (#[.int .i64 0, .string ⟨#[]⟩, .int .i64 0, .int .u64 0, .string ⟨#[]⟩, .int .i64 0, .int .i64 0, .int .i64 0, .int .i64 0, .slice none 0 0, .slice none 0 0] : Array Value)[i]? := row_at HS1.out.res
  have hg1 := fun i => fz _ _ _ _ i HS1.out.res
  have hz1 : w2.heap.size < w3.heap.size := (Array.getElem?_eq_some_iff.1 HS1.out.box).1
  have hy1 : w.heap.size < w3.heap.size := (Array.getElem?_eq_some_iff.1 HS1.out.res).1
  by_cases hty : c1 = 0
  · subst hty
    go_wp2_with fail
    refine (next_det kb rp raw rc (at_ + 1 + 1) 2 _ (((HS1.out).alloc (.cells #[.string ⟨#[84]⟩, .string ⟨#[85]⟩] 9)).maker HM.out) (by omega) (by omega) (by omega)).mono ?_
    rintro r w4 ⟨c2, rfl, d2, e2, hM2, hv2⟩
    have HS2 : Hid (Sb kb rp raw rc w w4 (at_ + 1 + 1 + 1) w2.heap.size #[.int .i64 6, .string ⟨#[109, 97, 112]⟩, .int .i64 0, .int .u64 0, .string ⟨#[]⟩, .int .i64 0, .int .i64 0, .int .i64 0, .int .i64 0, .slice none 0 0, .slice none 0 0]) := ((HS1.out).alloc (.cells #[.string ⟨#[84]⟩, .string ⟨#[85]⟩] 9)).next hM2 hv2
    have hp2 : w4.heap[w3.heap.size]? = some (.cells #[.string ⟨#[84]⟩, .string ⟨#[85]⟩] 9 (0, 0)) := (hv2.block _ (by simp) (by omega)).trans (alloc_at (by simp))
    clear hM2 hv2
    clear hc1 hf1 hr1 hg1 hz1 hy1
    have hc2 : ∀ i, w4.cell? ⟨w2.heap.size, i, none⟩ = _ := row_at HS2.out.box
    have hf2 := fun i => fz _ _ _ _ i HS2.out.box
    have hr2 : ∀ i, w4.cell? ⟨w.heap.size, i, none⟩ = (#[.int .i64 0, .string ⟨#[]⟩, .int .i64 0, .int .u64 0, .string ⟨#[]⟩, .int .i64 0, .int .i64 0, .int .i64 0, .int .i64 0, .slice none 0 0, .slice none 0 0] : Array Value)[i]? := row_at HS2.out.res
    have hg2 := fun i => fz _ _ _ _ i HS2.out.res
    have hz2 : w2.heap.size < w4.heap.size := (Array.getElem?_eq_some_iff.1 HS2.out.box).1
    have hy2 : w.heap.size < w4.heap.size := (Array.getElem?_eq_some_iff.1 HS2.out.res).1
    have q2 := nv_range raw (at_ + 1 + 1) 2 (by decide)
    obtain ⟨m, rfl⟩ : ∃ m : Nat, c2 = m := ⟨c2.toNat, by omega⟩
    have hm2 : m < 2 := by omega
    have i2 : (m : Int) < 2 := by omega
    obtain ⟨tv, htv, htd, ht0⟩ := two_get ⟨#[84]⟩ ⟨#[85]⟩ m hm2 ⟨decl_T, by decide⟩ ⟨decl_U, by decide⟩
    have hl2 := (row_at hp2 m).trans htv
    have hT : tyB 6 tv = true := tyB_decl 6 tv (by decide) (by decide) htd
    clear hp2 htv
    go_wp2_with fail
    refine (next_det kb rp raw rc (at_ + 1 + 1 + 1) 3 _ (((HS2.out).set 1 (.string tv)).maker HM.out) (by omega) (by omega) (by omega)).mono ?_
    rintro r w5 ⟨c3, rfl, d3, e3, hM3, hv3⟩
    have HS3 : Hid (Sb kb rp raw rc w w5 (at_ + 1 + 1 + 1 + 1) w2.heap.size #[.int .i64 6, .string tv, .int .i64 0, .int .u64 0, .string ⟨#[]⟩, .int .i64 0, .int .i64 0, .int .i64 0, .int .i64 0, .slice none 0 0, .slice none 0 0]) := ((HS2.out).set 1 (.string tv)).next hM3 hv3
    clear hM3 hv3
    clear hc2 hf2 hr2 hg2 hz2 hy2
    have hc3 : ∀ i, w5.cell? ⟨w2.heap.size, i, none⟩ = _ := row_at HS3.out.box
    have hf3 := fun i => fz _ _ _ _ i HS3.out.box
    have hr3 : ∀ i, w5.cell? ⟨w.heap.size, i, none⟩ = (#[.int .i64 0, .string ⟨#[]⟩, .int .i64 0, .int .u64 0, .string ⟨#[]⟩, .int .i64 0, .int .i64 0, .int .i64 0, .int .i64 0, .slice none 0 0, .slice none 0 0] : Array Value)[i]? := row_at HS3.out.res
    have hg3 := fun i => fz _ _ _ _ i HS3.out.res
    have hz3 : w2.heap.size < w5.heap.size := (Array.getElem?_eq_some_iff.1 HS3.out.box).1
    have hy3 : w.heap.size < w5.heap.size := (Array.getElem?_eq_some_iff.1 HS3.out.res).1
    have q3 := nv_range raw (at_ + 1 + 1 + 1) 3 (by decide)
    go_wp2_with fail
    refine bodyPost_ret (v := .agg #[.int .i64 6, .string tv, .int .i64 0, .int .u64 0, .string ⟨#[]⟩, .int .i64 c3, .int .i64 0, .int .i64 0, .int .i64 0, .slice none 0 0, .slice none 0 0]) (by simp [results, Tryd.results21, go_sem, hr3]) rfl ?_
    exact sim_done 6 tv 0 0 ⟨#[]⟩ c3 0 0 0 HM.out HS3.out.st (bset ((Below.refl _ _).setCell (p := ⟨w2.heap.size, 5, none⟩) (by show _ ≤ _; simp; omega) _) (Nat.le_refl _) _ _ _ _ _ _ _ _ _ _ _) (by omega) (by decide) (by decide) ht0 (by decide) (by decide) (by decide) (by decide) (by decide) (by omega) (by decide) (by decide) (by decide) (right_flR _ _ _ _ _ _ _ _ _ hT (by simp [zeroK]) (by simp [kindB, objB]; omega) (by decide))
  · have hty2 : (c1 == 0) = false := by simpa using hty
    have hT : tyB 6 ⟨#[109, 97, 112]⟩ = true := by simp [tyB, Lib.toList_data]
    have ht0 : (⟨#[109, 97, 112]⟩ : ByteArray).size ≤ 100 := by decide
    go_wp2_with fail
    refine (next_det kb rp raw rc (at_ + 1 + 1) 3 _ ((HS1.out).maker HM.out) (by omega) (by omega) (by omega)).mono ?_
    rintro r w4 ⟨c2, rfl, d2, e2, hM2, hv2⟩
    have HS2 : Hid (Sb kb rp raw rc w w4 (at_ + 1 + 1 + 1) w2.heap.size #[.int .i64 6, .string ⟨#[109, 97, 112]⟩, .int .i64 0, .int .u64 0, .string ⟨#[]⟩, .int .i64 0, .int .i64 0, .int .i64 0, .int .i64 0, .slice none 0 0, .slice none 0 0]) := (HS1.out).next hM2 hv2
    clear hM2 hv2
    clear hc1 hf1 hr1 hg1 hz1 hy1
    have hc2 : ∀ i, w4.cell? ⟨w2.heap.size, i, none⟩ = _ := row_at HS2.out.box
    have hf2 := fun i => fz _ _ _ _ i HS2.out.box
    have hr2 : ∀ i, w4.cell? ⟨w.heap.size, i, none⟩ = (#[.int .i64 0, .string ⟨#[]⟩, .int .i64 0, .int .u64 0, .string ⟨#[]⟩, .int .i64 0, .int .i64 0, .int .i64 0, .int .i64 0, .slice none 0 0, .slice none 0 0] : Array Value)[i]? := row_at HS2.out.res
    have hg2 := fun i => fz _ _ _ _ i HS2.out.res
    have hz2 : w2.heap.size < w4.heap.size := (Array.getElem?_eq_some_iff.1 HS2.out.box).1
    have hy2 : w.heap.size < w4.heap.size := (Array.getElem?_eq_some_iff.1 HS2.out.res).1
    have q2 := nv_range raw (at_ + 1 + 1) 3 (by decide)
    go_wp2_with fail
    refine bodyPost_ret (v := .agg #[.int .i64 6, .string ⟨#[109, 97, 112]⟩, .int .i64 0, .int .u64 0, .string ⟨#[]⟩, .int .i64 c2, .int .i64 0, .int .i64 0, .int .i64 0, .slice none 0 0, .slice none 0 0]) (by simp [results, Tryd.results21, go_sem, hr2]) rfl ?_
    exact sim_done 6 ⟨#[109, 97, 112]⟩ 0 0 ⟨#[]⟩ c2 0 0 0 HM.out HS2.out.st (bset ((Below.refl _ _).setCell (p := ⟨w2.heap.size, 5, none⟩) (by show _ ≤ _; simp; omega) _) (Nat.le_refl _) _ _ _ _ _ _ _ _ _ _ _) (by omega) (by decide) (by decide) ht0 (by decide) (by decide) (by decide) (by decide) (by decide) (by omega) (by decide) (by decide) (by decide) (right_flR _ _ _ _ _ _ _ _ _ hT (by simp [zeroK]) (by simp [kindB, objB]; omega) (by decide))
set_option maxRecDepth 100000 in
set_option maxHeartbeats 4000000 in
theorem simple_7 (kb : Nat) (rp : Option Addr) (raw : List Int) (rc at_ : Nat) (w : World) (hM : MakerAt w kb rp raw rc at_) (ha : at_ ≤ 90000) (hK : nv raw at_ 9 = 7) :
    Calls Tryd.prog 21 #[.pointer (some ⟨kb, 0, none⟩)] w (SimP kb rp raw rc at_ w) := by
  have hk : kb < w.heap.size := (Array.getElem?_eq_some_iff.1 hM.row).1
  have HM : Hid (MakerAt w kb rp raw rc at_) := hM
  clear hM
  go_enter Tryd.func21, Tryd.ntmps21
  go_wp2_with fail
  refine (next_det kb rp raw rc at_ 9 _ (HM.out.below (below1 _ _)) (by omega) (by decide) (by decide)).mono ?_
  rintro r w2 ⟨c, rfl, d0, e0, hM2, hv2⟩
  obtain rfl : c = 7 := by omega
  have hr2 : w2.heap[w.heap.size]? = some (.cells zeros 32 (0, 0)) := (hv2.block _ (by simp) (by omega)).trans (heap_alloc_new _ _)
  have HS0 : Hid (St kb rp raw rc w w2 (at_ + 1)) := ⟨(Moved.of_below (below1 _ _)).trans hv2, hM2.row⟩
  have HR0 : Hid _ := hr2
  have hc0 : ∀ i, w2.cell? ⟨w.heap.size, i, none⟩ = (#[.int .i64 0, .string ⟨#[]⟩, .int .i64 0, .int .u64 0, .string ⟨#[]⟩, .int .i64 0, .int .i64 0, .int .i64 0, .int .i64 0, .slice none 0 0, .slice none 0 0] : Array Value)[i]? := row_at hr2
  have hf0 := fun i => fz _ _ _ _ i hr2
  have hy0 : w.heap.size < w2.heap.size := (Array.getElem?_eq_some_iff.1 hr2).1
  clear hM2 hv2 hr2
  go_wp2_with fail
  refine (next_det kb rp raw rc (at_ + 1) 4 _ (((Sb.new HS0.out hk HR0.out #[.int .i64 7, .string ⟨#[102, 117, 110, 99]⟩, .int .i64 0, .int .u64 0, .string ⟨#[]⟩, .int .i64 0, .int .i64 0, .int .i64 0, .int .i64 0, .slice none 0 0, .slice none 0 0]).alloc (.cells #[.string ⟨#[]⟩, .string ⟨#[98, 111, 111, 108]⟩, .string ⟨#[105, 110, 116]⟩, .string ⟨#[102, 108, 111, 97, 116]⟩, .string ⟨#[116, 101, 120, 116]⟩, .string ⟨#[108, 105, 115, 116]⟩, .string ⟨#[109, 97, 112]⟩, .string ⟨#[102, 117, 110, 99]⟩, .string ⟨#[]⟩, .string ⟨#[84]⟩] 9)).maker HM.out) (by omega) (by omega) (by omega)).mono ?_
  rintro r w3 ⟨c1, rfl, d1, e1, hM1, hv1⟩
  have HS1 : Hid (Sb kb rp raw rc w w3 (at_ + 1 + 1) w2.heap.size #[.int .i64 7, .string ⟨#[102, 117, 110, 99]⟩, .int .i64 0, .int .u64 0, .string ⟨#[]⟩, .int .i64 0, .int .i64 0, .int .i64 0, .int .i64 0, .slice none 0 0, .slice none 0 0]) := ((Sb.new HS0.out hk HR0.out #[.int .i64 7, .string ⟨#[102, 117, 110, 99]⟩, .int .i64 0, .int .u64 0, .string ⟨#[]⟩, .int .i64 0, .int .i64 0, .int .i64 0, .int .i64 0, .slice none 0 0, .slice none 0 0]).alloc (.cells #[.string ⟨#[]⟩, .string ⟨#[98, 111, 111, 108]⟩, .string ⟨#[105, 110, 116]⟩, .string ⟨#[102, 108, 111, 97, 116]⟩, .string ⟨#[116, 101, 120, 116]⟩, .string ⟨#[108, 105, 115, 116]⟩, .string ⟨#[109, 97, 112]⟩, .string ⟨#[102, 117, 110, 99]⟩, .string ⟨#[]⟩, .string ⟨#[84]⟩] 9)).next hM1 hv1
  clear hM1 hv1
  have hc1 : ∀ i, w3.cell? ⟨w2.heap.size, i, none⟩ = _ := row_at HS1.out.box
  have hf1 := fun i => fz _ _ _ _ i HS1.out.box
  have hr1 : ∀ i, w3.cell? ⟨w.heap.size, i, none⟩ = (#[.int .i64 0, .string ⟨#[]⟩, .int .i64 0, .int .u64 0, .string ⟨#[]⟩, .int .i64 0, .int .i64 0, .int .i64 0, .int .i64 0, .slice none 0 0, .slice none 0 0] : Array Value)[i]? := row_at HS1.out.res
  have hg1 := fun i => fz _ _ _ _ i HS1.out.res
  have hz1 : w2.heap.size < w3.heap.size := (Array.getElem?_eq_some_iff.1 HS1.out.box).1
  have hy1 : w.heap.size < w3.heap.size := (Array.getElem?_eq_some_iff.1 HS1.out.res).1
  by_cases hty : c1 = 0
  · subst hty
    go_wp2_with fail
    refine (next_det kb rp raw rc (at_ + 1 + 1) 2 _ (((HS1.out).alloc (.cells #[.string ⟨#[84]⟩, .string ⟨#[85]⟩] 9)).maker HM.out) (by omega) (by omega) (by omega)).mono ?_
    rintro r w4 ⟨c2, rfl, d2, e2, hM2, hv2⟩
    have HS2 : Hid (Sb kb rp raw rc w w4 (at_ + 1 + 1 + 1) w2.heap.size #[.int .i64 7, .string ⟨#[102, 117, 110, 99]⟩, .int .i64 0, .int .u64 0, .string ⟨#[]⟩, .int .i64 0, .int .i64 0, .int .i64 0, .int .i64 0, .slice none 0 0, .slice none 0 0]) := ((HS1.out).alloc (.cells #[.string ⟨#[84]⟩, .string ⟨#[85]⟩] 9)).next hM2 hv2
    have hp2 : w4.heap[w3.heap.size]? = some (.cells #[.string ⟨#[84]⟩, .string ⟨#[85]⟩] 9 (0, 0)) := (hv2.block _ (by simp) (by omega)).trans (alloc_at (by simp))
    clear hM2 hv2
    clear hc1 hf1 hr1 hg1 hz1 hy1
    have hc2 : ∀ i, w4.cell? ⟨w2.heap.size, i, none⟩ = _ := row_at HS2.out.box
    have hf2 := fun i => fz _ _ _ _ i HS2.out.box
    have hr2 : ∀ i, w4.cell? ⟨w.heap.size, i, none⟩ = (#[.int .i64 0, .string ⟨#[]⟩, .int .i64 0, .int .u64 0, .string ⟨#[]⟩, .int .i64 0, .int .i64 0, .int .i64 0, .int .i64 0, .slice none 0 0, .slice none 0 0] : Array Value)[i]? := row_at HS2.out.res
    have hg2 := fun i => fz _ _ _ _ i HS2.out.res
    have hz2 : w2.heap.size < w4.heap.size := (Array.getElem?_eq_some_iff.1 HS2.out.box).1
    have hy2 : w.heap.size < w4.heap.size := (Array.getElem?_eq_some_iff.1 HS2.out.res).1
    have q2 := nv_range raw (at_ + 1 + 1) 2 (by decide)
    obtain ⟨m, rfl⟩ : ∃ m : Nat, c2 = m := ⟨c2.toNat, by omega⟩
    have hm2 : m < 2 := by omega
    have i2 : (m : Int) < 2 := by omega
    obtain ⟨tv, htv, htd, ht0⟩ := two_get ⟨#[84]⟩ ⟨#[85]⟩ m hm2 ⟨decl_T, by decide⟩ ⟨decl_U, by decide⟩
    have hl2 := (row_at hp2 m).trans htv
    have hT : tyB 7 tv = true := tyB_decl 7 tv (by decide) (by decide) htd
    clear hp2 htv
    go_wp2_with fail
    refine (next_det kb rp raw rc (at_ + 1 + 1 + 1) 3 _ (((HS2.out).set 1 (.string tv)).maker HM.out) (by omega) (by omega) (by omega)).mono ?_
    rintro r w5 ⟨c3, rfl, d3, e3, hM3, hv3⟩
    have HS3 : Hid (Sb kb rp raw rc w w5 (at_ + 1 + 1 + 1 + 1) w2.heap.size #[.int .i64 7, .string tv, .int .i64 0, .int .u64 0, .string ⟨#[]⟩, .int .i64 0, .int .i64 0, .int .i64 0, .int .i64 0, .slice none 0 0, .slice none 0 0]) := ((HS2.out).set 1 (.string tv)).next hM3 hv3
    clear hM3 hv3
    clear hc2 hf2 hr2 hg2 hz2 hy2
    have hc3 : ∀ i, w5.cell? ⟨w2.heap.size, i, none⟩ = _ := row_at HS3.out.box
    have hf3 := fun i => fz _ _ _ _ i HS3.out.box
    have hr3 : ∀ i, w5.cell? ⟨w.heap.size, i, none⟩ = (#[.int .i64 0, .string ⟨#[]⟩, .int .i64 0, .int .u64 0, .string ⟨#[]⟩, .int .i64 0, .int .i64 0, .int .i64 0, .int .i64 0, .slice none 0 0, .slice none 0 0] : Array Value)[i]? := row_at HS3.out.res
    have hg3 := fun i => fz _ _ _ _ i HS3.out.res
    have hz3 : w2.heap.size < w5.heap.size := (Array.getElem?_eq_some_iff.1 HS3.out.box).1
    have hy3 : w.heap.size < w5.heap.size := (Array.getElem?_eq_some_iff.1 HS3.out.res).1
    have q3 := nv_range raw (at_ + 1 + 1 + 1) 3 (by decide)
    go_wp2_with fail
    refine bodyPost_ret (v := .agg #[.int .i64 7, .string tv, .int .i64 0, .int .u64 0, .string ⟨#[]⟩, .int .i64 c3, .int .i64 0, .int .i64 0, .int .i64 0, .slice none 0 0, .slice none 0 0]) (by simp [results, Tryd.results21, go_sem, hr3]) rfl ?_
    exact sim_done 7 tv 0 0 ⟨#[]⟩ c3 0 0 0 HM.out HS3.out.st (bset ((Below.refl _ _).setCell (p := ⟨w2.heap.size, 5, none⟩) (by show _ ≤ _; simp; omega) _) (Nat.le_refl _) _ _ _ _ _ _ _ _ _ _ _) (by omega) (by decide) (by decide) ht0 (by decide) (by decide) (by decide) (by decide) (by decide) (by omega) (by decide) (by decide) (by decide) (right_flR _ _ _ _ _ _ _ _ _ hT (by simp [zeroK]) (by simp [kindB, objB]; omega) (by decide))
  · have hty2 : (c1 == 0) = false := by simpa using hty
    have hT : tyB 7 ⟨#[102, 117, 110, 99]⟩ = true := by simp [tyB, Lib.toList_data]
    have ht0 : (⟨#[102, 117, 110, 99]⟩ : ByteArray).size ≤ 100 := by decide
    go_wp2_with fail
    refine (next_det kb rp raw rc (at_ + 1 + 1) 3 _ ((HS1.out).maker HM.out) (by omega) (by omega) (by omega)).mono ?_
    rintro r w4 ⟨c2, rfl, d2, e2, hM2, hv2⟩
    have HS2 : Hid (Sb kb rp raw rc w w4 (at_ + 1 + 1 + 1) w2.heap.size #[.int .i64 7, .string ⟨#[102, 117, 110, 99]⟩, .int .i64 0, .int .u64 0, .string ⟨#[]⟩, .int .i64 0, .int .i64 0, .int .i64 0, .int .i64 0, .slice none 0 0, .slice none 0 0]) := (HS1.out).next hM2 hv2
    clear hM2 hv2
    clear hc1 hf1 hr1 hg1 hz1 hy1
    have hc2 : ∀ i, w4.cell? ⟨w2.heap.size, i, none⟩ = _ := row_at HS2.out.box
    have hf2 := fun i => fz _ _ _ _ i HS2.out.box
    have hr2 : ∀ i, w4.cell? ⟨w.heap.size, i, none⟩ = (#[.int .i64 0, .string ⟨#[]⟩, .int .i64 0, .int .u64 0, .string ⟨#[]⟩, .int .i64 0, .int .i64 0, .int .i64 0, .int .i64 0, .slice none 0 0, .slice none 0 0] : Array Value)[i]? := row_at HS2.out.res
    have hg2 := fun i => fz _ _ _ _ i HS2.out.res
    have hz2 : w2.heap.size < w4.heap.size := (Array.getElem?_eq_some_iff.1 HS2.out.box).1
    have hy2 : w.heap.size < w4.heap.size := (Array.getElem?_eq_some_iff.1 HS2.out.res).1
    have q2 := nv_range raw (at_ + 1 + 1) 3 (by decide)
    go_wp2_with fail
    refine bodyPost_ret (v := .agg #[.int .i64 7, .string ⟨#[102, 117, 110, 99]⟩, .int .i64 0, .int .u64 0, .string ⟨#[]⟩, .int .i64 c2, .int .i64 0, .int .i64 0, .int .i64 0, .slice none 0 0, .slice none 0 0]) (by simp [results, Tryd.results21, go_sem, hr2]) rfl ?_
    exact sim_done 7 ⟨#[102, 117, 110, 99]⟩ 0 0 ⟨#[]⟩ c2 0 0 0 HM.out HS2.out.st (bset ((Below.refl _ _).setCell (p := ⟨w2.heap.size, 5, none⟩) (by show _ ≤ _; simp; omega) _) (Nat.le_refl _) _ _ _ _ _ _ _ _ _ _ _) (by omega) (by decide) (by decide) ht0 (by decide) (by decide) (by decide) (by decide) (by decide) (by omega) (by decide) (by decide) (by decide) (right_flR _ _ _ _ _ _ _ _ _ hT (by simp [zeroK]) (by simp [kindB, objB]; omega) (by decide))
end Go.Proofs.YtnhbpcmiolkllabDoor
