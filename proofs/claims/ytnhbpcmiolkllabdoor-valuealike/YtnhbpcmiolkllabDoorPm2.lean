/-
  A simple datum, made: a list.
-/
import Derived.Test.YtnhbpcmiolkllabDoorPj2
namespace Go.Proofs.YtnhbpcmiolkllabDoor
open Go.RowKit
attribute [local go_sem] refold2 cell3_0 cell3_1 b28_0 b28_01 b32_k

theorem piece_ok (t : ByteArray) (r0 r1 r2 r3 : Int) (h0 : 0 < r0) (h1 : r0 ≤ 100) (a0 : 0 ≤ r1) (a1 : r1 ≤ 100) (b0 : 0 ≤ r2) (b1 : r2 ≤ r3) (c1 : r3 ≤ 100) (_ : 0 ≤ r3) (_ : 0 ≤ r0) : kindB ⟨5, t, 0, 0, ⟨#[]⟩, r0, r1, r2, r3, none, [], 0⟩ = true := by
  have hne : ¬ r0 = 0 := by omega
  simp [kindB, pieceB, objB, hne]; omega
set_option maxRecDepth 100000 in
set_option maxHeartbeats 4000000 in
theorem simple_5 (kb : Nat) (rp : Option Addr) (raw : List Int) (rc at_ : Nat) (w : World) (hM : MakerAt w kb rp raw rc at_) (ha : at_ ≤ 90000) (hK : nv raw at_ 9 = 5) :
    Calls Tryd.prog 21 #[.pointer (some ⟨kb, 0, none⟩)] w (SimP kb rp raw rc at_ w) := by
  have hk : kb < w.heap.size := (Array.getElem?_eq_some_iff.1 hM.row).1
  have HM : Hid (MakerAt w kb rp raw rc at_) := hM
  clear hM
  go_enter Tryd.func21, Tryd.ntmps21
  go_wp2_with fail
  refine (next_det kb rp raw rc at_ 9 _ (HM.out.below (below1 _ _)) (by omega) (by decide) (by decide)).mono ?_
  rintro r w2 ⟨c, rfl, d0, e0, hM2, hv2⟩
  obtain rfl : c = 5 := by omega
  have hr2 : w2.heap[w.heap.size]? = some (.cells zeros 32 (0, 0)) := (hv2.block _ (by simp) (by omega)).trans (heap_alloc_new _ _)
  have HS0 : Hid (St kb rp raw rc w w2 (at_ + 1)) := ⟨(Moved.of_below (below1 _ _)).trans hv2, hM2.row⟩
  have HR0 : Hid _ := hr2
  have hc0 : ∀ i, w2.cell? ⟨w.heap.size, i, none⟩ = (#[.int .i64 0, .string ⟨#[]⟩, .int .i64 0, .int .u64 0, .string ⟨#[]⟩, .int .i64 0, .int .i64 0, .int .i64 0, .int .i64 0, .slice none 0 0, .slice none 0 0] : Array Value)[i]? := row_at hr2
  have hf0 := fun i => fz _ _ _ _ i hr2
  have hy0 : w.heap.size < w2.heap.size := (Array.getElem?_eq_some_iff.1 hr2).1
  clear hM2 hv2 hr2
  go_wp2_with fail
  refine (next_det kb rp raw rc (at_ + 1) 4 _ (((Sb.new HS0.out hk HR0.out #[.int .i64 5, .string ⟨#[108, 105, 115, 116]⟩, .int .i64 0, .int .u64 0, .string ⟨#[]⟩, .int .i64 0, .int .i64 0, .int .i64 0, .int .i64 0, .slice none 0 0, .slice none 0 0]).alloc (.cells #[.string ⟨#[]⟩, .string ⟨#[98, 111, 111, 108]⟩, .string ⟨#[105, 110, 116]⟩, .string ⟨#[102, 108, 111, 97, 116]⟩, .string ⟨#[116, 101, 120, 116]⟩, .string ⟨#[108, 105, 115, 116]⟩, .string ⟨#[109, 97, 112]⟩, .string ⟨#[102, 117, 110, 99]⟩, .string ⟨#[]⟩, .string ⟨#[84]⟩] 9)).maker HM.out) (by omega) (by omega) (by omega)).mono ?_
  rintro r w3 ⟨c1, rfl, d1, e1, hM1, hv1⟩
  have HS1 : Hid (Sb kb rp raw rc w w3 (at_ + 1 + 1) w2.heap.size #[.int .i64 5, .string ⟨#[108, 105, 115, 116]⟩, .int .i64 0, .int .u64 0, .string ⟨#[]⟩, .int .i64 0, .int .i64 0, .int .i64 0, .int .i64 0, .slice none 0 0, .slice none 0 0]) := ((Sb.new HS0.out hk HR0.out #[.int .i64 5, .string ⟨#[108, 105, 115, 116]⟩, .int .i64 0, .int .u64 0, .string ⟨#[]⟩, .int .i64 0, .int .i64 0, .int .i64 0, .int .i64 0, .slice none 0 0, .slice none 0 0]).alloc (.cells #[.string ⟨#[]⟩, .string ⟨#[98, 111, 111, 108]⟩, .string ⟨#[105, 110, 116]⟩, .string ⟨#[102, 108, 111, 97, 116]⟩, .string ⟨#[116, 101, 120, 116]⟩, .string ⟨#[108, 105, 115, 116]⟩, .string ⟨#[109, 97, 112]⟩, .string ⟨#[102, 117, 110, 99]⟩, .string ⟨#[]⟩, .string ⟨#[84]⟩] 9)).next hM1 hv1
  clear hM1 hv1
  have hc1 : ∀ i, w3.cell? ⟨w2.heap.size, i, none⟩ = _ := row_at HS1.out.box
  have hf1 := fun i => fz _ _ _ _ i HS1.out.box
  have hr1 : ∀ i, w3.cell? ⟨w.heap.size, i, none⟩ = (#[.int .i64 0, .string ⟨#[]⟩, .int .i64 0, .int .u64 0, .string ⟨#[]⟩, .int .i64 0, .int .i64 0, .int .i64 0, .int .i64 0, .slice none 0 0, .slice none 0 0] : Array Value)[i]? := row_at HS1.out.res
  have hg1 := fun i => fz _ _ _ _ i HS1.out.res
  have hz1 : w2.heap.size < w3.heap.size := (Array.getElem?_eq_some_iff.1 HS1.out.box).1
  have hy1 : w.heap.size < w3.heap.size := (Array.getElem?_eq_some_iff.1 HS1.out.res).1
  by_cases hty : c1 = 0
  · subst hty
    go_wp2_with fail
    refine (next_det kb rp raw rc (at_ + 1 + 1) 2 _ (((HS1.out).alloc (.cells #[.string ⟨#[84]⟩, .string ⟨#[85]⟩] 9)).maker HM.out) (by omega) (by omega) (by omega)).mono ?_
    rintro r w4 ⟨c2, rfl, d2, e2, hM2, hv2⟩
    have HS2 : Hid (Sb kb rp raw rc w w4 (at_ + 1 + 1 + 1) w2.heap.size #[.int .i64 5, .string ⟨#[108, 105, 115, 116]⟩, .int .i64 0, .int .u64 0, .string ⟨#[]⟩, .int .i64 0, .int .i64 0, .int .i64 0, .int .i64 0, .slice none 0 0, .slice none 0 0]) := ((HS1.out).alloc (.cells #[.string ⟨#[84]⟩, .string ⟨#[85]⟩] 9)).next hM2 hv2
    have hp2 : w4.heap[w3.heap.size]? = some (.cells #[.string ⟨#[84]⟩, .string ⟨#[85]⟩] 9 (0, 0)) := (hv2.block _ (by simp) (by omega)).trans (alloc_at (by simp))
    clear hM2 hv2
    clear hc1 hf1 hr1 hg1 hz1 hy1
    have hc2 : ∀ i, w4.cell? ⟨w2.heap.size, i, none⟩ = _ := row_at HS2.out.box
    have hf2 := fun i => fz _ _ _ _ i HS2.out.box
    have hr2 : ∀ i, w4.cell? ⟨w.heap.size, i, none⟩ = (#[.int .i64 0, .string ⟨#[]⟩, .int .i64 0, .int .u64 0, .string ⟨#[]⟩, .int .i64 0, .int .i64 0, .int .i64 0, .int .i64 0, .slice none 0 0, .slice none 0 0] : Array Value)[i]? := row_at HS2.out.res
    have hg2 := fun i => fz _ _ _ _ i HS2.out.res
    have hz2 : w2.heap.size < w4.heap.size := (Array.getElem?_eq_some_iff.1 HS2.out.box).1
    have hy2 : w.heap.size < w4.heap.size := (Array.getElem?_eq_some_iff.1 HS2.out.res).1
    have q2 := nv_range raw (at_ + 1 + 1) 2 (by decide)
    obtain ⟨m, rfl⟩ : ∃ m : Nat, c2 = m := ⟨c2.toNat, by omega⟩
    have hm2 : m < 2 := by omega
    have i2 : (m : Int) < 2 := by omega
    obtain ⟨tv, htv, htd, ht0⟩ := two_get ⟨#[84]⟩ ⟨#[85]⟩ m hm2 ⟨decl_T, by decide⟩ ⟨decl_U, by decide⟩
    have hl2 := (row_at hp2 m).trans htv
    have hT : tyB 5 tv = true := tyB_decl 5 tv (by decide) (by decide) htd
    clear hp2 htv
    go_wp2_with fail
    refine (next_det kb rp raw rc (at_ + 1 + 1 + 1) 3 _ (((HS2.out).set 1 (.string tv)).maker HM.out) (by omega) (by omega) (by omega)).mono ?_
    rintro r w5 ⟨c3, rfl, d3, e3, hM3, hv3⟩
    have HS3 : Hid (Sb kb rp raw rc w w5 (at_ + 1 + 1 + 1 + 1) w2.heap.size #[.int .i64 5, .string tv, .int .i64 0, .int .u64 0, .string ⟨#[]⟩, .int .i64 0, .int .i64 0, .int .i64 0, .int .i64 0, .slice none 0 0, .slice none 0 0]) := ((HS2.out).set 1 (.string tv)).next hM3 hv3
    clear hM3 hv3
    clear hc2 hf2 hr2 hg2 hz2 hy2
    have hc3 : ∀ i, w5.cell? ⟨w2.heap.size, i, none⟩ = _ := row_at HS3.out.box
    have hf3 := fun i => fz _ _ _ _ i HS3.out.box
    have hr3 : ∀ i, w5.cell? ⟨w.heap.size, i, none⟩ = (#[.int .i64 0, .string ⟨#[]⟩, .int .i64 0, .int .u64 0, .string ⟨#[]⟩, .int .i64 0, .int .i64 0, .int .i64 0, .int .i64 0, .slice none 0 0, .slice none 0 0] : Array Value)[i]? := row_at HS3.out.res
    have hg3 := fun i => fz _ _ _ _ i HS3.out.res
    have hz3 : w2.heap.size < w5.heap.size := (Array.getElem?_eq_some_iff.1 HS3.out.box).1
    have hy3 : w.heap.size < w5.heap.size := (Array.getElem?_eq_some_iff.1 HS3.out.res).1
    have q3 := nv_range raw (at_ + 1 + 1 + 1) 3 (by decide)
    by_cases hq : 0 < c3
    · go_wp2_with fail
      refine (next_det kb rp raw rc (at_ + 1 + 1 + 1 + 1) 4 _ (((HS3.out).set 5 (.int .i64 c3)).maker HM.out) (by omega) (by omega) (by omega)).mono ?_
      rintro r w6 ⟨c4, rfl, d4, e4, hM4, hv4⟩
      have HS4 : Hid (Sb kb rp raw rc w w6 (at_ + 1 + 1 + 1 + 1 + 1) w2.heap.size #[.int .i64 5, .string tv, .int .i64 0, .int .u64 0, .string ⟨#[]⟩, .int .i64 c3, .int .i64 0, .int .i64 0, .int .i64 0, .slice none 0 0, .slice none 0 0]) := ((HS3.out).set 5 (.int .i64 c3)).next hM4 hv4
      clear hM4 hv4
      clear hc3 hf3 hr3 hg3 hz3 hy3
      have hc4 : ∀ i, w6.cell? ⟨w2.heap.size, i, none⟩ = _ := row_at HS4.out.box
      have hf4 := fun i => fz _ _ _ _ i HS4.out.box
      have hr4 : ∀ i, w6.cell? ⟨w.heap.size, i, none⟩ = (#[.int .i64 0, .string ⟨#[]⟩, .int .i64 0, .int .u64 0, .string ⟨#[]⟩, .int .i64 0, .int .i64 0, .int .i64 0, .int .i64 0, .slice none 0 0, .slice none 0 0] : Array Value)[i]? := row_at HS4.out.res
      have hg4 := fun i => fz _ _ _ _ i HS4.out.res
      have hz4 : w2.heap.size < w6.heap.size := (Array.getElem?_eq_some_iff.1 HS4.out.box).1
      have hy4 : w.heap.size < w6.heap.size := (Array.getElem?_eq_some_iff.1 HS4.out.res).1
      have q4 := nv_range raw (at_ + 1 + 1 + 1 + 1) 4 (by decide)
      have q4b : 0 ≤ c4 ∧ c4 ≤ 3 := by omega
      go_wp2_with fail
      refine (next_det kb rp raw rc (at_ + 1 + 1 + 1 + 1 + 1) (c4 + 1) _ (((HS4.out).set 8 (.int .i64 c4)).maker HM.out) (by omega) (by omega) (by omega)).mono ?_
      rintro r w7 ⟨c5, rfl, d5, e5, hM5, hv5⟩
      have HS5 : Hid (Sb kb rp raw rc w w7 (at_ + 1 + 1 + 1 + 1 + 1 + 1) w2.heap.size #[.int .i64 5, .string tv, .int .i64 0, .int .u64 0, .string ⟨#[]⟩, .int .i64 c3, .int .i64 0, .int .i64 0, .int .i64 c4, .slice none 0 0, .slice none 0 0]) := ((HS4.out).set 8 (.int .i64 c4)).next hM5 hv5
      clear hM5 hv5
      clear hc4 hf4 hr4 hg4 hz4 hy4
      have hc5 : ∀ i, w7.cell? ⟨w2.heap.size, i, none⟩ = _ := row_at HS5.out.box
      have hf5 := fun i => fz _ _ _ _ i HS5.out.box
      have hr5 : ∀ i, w7.cell? ⟨w.heap.size, i, none⟩ = (#[.int .i64 0, .string ⟨#[]⟩, .int .i64 0, .int .u64 0, .string ⟨#[]⟩, .int .i64 0, .int .i64 0, .int .i64 0, .int .i64 0, .slice none 0 0, .slice none 0 0] : Array Value)[i]? := row_at HS5.out.res
      have hg5 := fun i => fz _ _ _ _ i HS5.out.res
      have hz5 : w2.heap.size < w7.heap.size := (Array.getElem?_eq_some_iff.1 HS5.out.box).1
      have hy5 : w.heap.size < w7.heap.size := (Array.getElem?_eq_some_iff.1 HS5.out.res).1
      have q5 := nv_range raw (at_ + 1 + 1 + 1 + 1 + 1) (c4 + 1) (by omega)
      go_wp2_with fail
      refine (next_det kb rp raw rc (at_ + 1 + 1 + 1 + 1 + 1 + 1) 3 _ (((HS5.out).set 7 (.int .i64 c5)).maker HM.out) (by omega) (by omega) (by omega)).mono ?_
      rintro r w8 ⟨c6, rfl, d6, e6, hM6, hv6⟩
      have HS6 : Hid (Sb kb rp raw rc w w8 (at_ + 1 + 1 + 1 + 1 + 1 + 1 + 1) w2.heap.size #[.int .i64 5, .string tv, .int .i64 0, .int .u64 0, .string ⟨#[]⟩, .int .i64 c3, .int .i64 0, .int .i64 c5, .int .i64 c4, .slice none 0 0, .slice none 0 0]) := ((HS5.out).set 7 (.int .i64 c5)).next hM6 hv6
      clear hM6 hv6
      clear hc5 hf5 hr5 hg5 hz5 hy5
      have hc6 : ∀ i, w8.cell? ⟨w2.heap.size, i, none⟩ = _ := row_at HS6.out.box
      have hf6 := fun i => fz _ _ _ _ i HS6.out.box
      have hr6 : ∀ i, w8.cell? ⟨w.heap.size, i, none⟩ = (#[.int .i64 0, .string ⟨#[]⟩, .int .i64 0, .int .u64 0, .string ⟨#[]⟩, .int .i64 0, .int .i64 0, .int .i64 0, .int .i64 0, .slice none 0 0, .slice none 0 0] : Array Value)[i]? := row_at HS6.out.res
      have hg6 := fun i => fz _ _ _ _ i HS6.out.res
      have hz6 : w2.heap.size < w8.heap.size := (Array.getElem?_eq_some_iff.1 HS6.out.box).1
      have hy6 : w.heap.size < w8.heap.size := (Array.getElem?_eq_some_iff.1 HS6.out.res).1
      have q6 := nv_range raw (at_ + 1 + 1 + 1 + 1 + 1 + 1) 3 (by decide)
      go_wp2_with fail
      refine bodyPost_ret (v := .agg #[.int .i64 5, .string tv, .int .i64 0, .int .u64 0, .string ⟨#[]⟩, .int .i64 c3, .int .i64 c6, .int .i64 c5, .int .i64 c4, .slice none 0 0, .slice none 0 0]) (by simp [results, Tryd.results21, go_sem, hr6]) rfl ?_
      exact sim_done 5 tv 0 0 ⟨#[]⟩ c3 c6 c5 c4 HM.out HS6.out.st (bset ((Below.refl _ _).setCell (p := ⟨w2.heap.size, 6, none⟩) (by show _ ≤ _; simp; omega) _) (Nat.le_refl _) _ _ _ _ _ _ _ _ _ _ _) (by omega) (by decide) (by decide) ht0 (by decide) (by decide) (by decide) (by decide) (by decide) (by omega) (by omega) (by omega) (by omega) (right_flR _ _ _ _ _ _ _ _ _ hT (by simp [zeroK]) (piece_ok _ _ _ _ _ (by omega) (by omega) (by omega) (by omega) (by omega) (by omega) (by omega) (by omega) (by omega)) (by decide))
    · obtain rfl : c3 = 0 := by omega
      go_wp2_with fail
      refine bodyPost_ret (v := .agg #[.int .i64 5, .string tv, .int .i64 0, .int .u64 0, .string ⟨#[]⟩, .int .i64 0, .int .i64 0, .int .i64 0, .int .i64 0, .slice none 0 0, .slice none 0 0]) (by simp [results, Tryd.results21, go_sem, hr3]) rfl ?_
      exact sim_done 5 tv 0 0 ⟨#[]⟩ 0 0 0 0 HM.out HS3.out.st (bset ((Below.refl _ _).setCell (p := ⟨w2.heap.size, 5, none⟩) (by show _ ≤ _; simp; omega) _) (Nat.le_refl _) _ _ _ _ _ _ _ _ _ _ _) (by omega) (by decide) (by decide) ht0 (by decide) (by decide) (by decide) (by decide) (by decide) (by decide) (by decide) (by decide) (by decide) (right_flR _ _ _ _ _ _ _ _ _ hT (by simp [zeroK]) (by simp [kindB, pieceB]) (by decide))
  · have hty2 : (c1 == 0) = false := by simpa using hty
    have hT : tyB 5 ⟨#[108, 105, 115, 116]⟩ = true := by simp [tyB, Lib.toList_data]
    have ht0 : (⟨#[108, 105, 115, 116]⟩ : ByteArray).size ≤ 100 := by decide
    go_wp2_with fail
    refine (next_det kb rp raw rc (at_ + 1 + 1) 3 _ ((HS1.out).maker HM.out) (by omega) (by omega) (by omega)).mono ?_
    rintro r w4 ⟨c2, rfl, d2, e2, hM2, hv2⟩
    have HS2 : Hid (Sb kb rp raw rc w w4 (at_ + 1 + 1 + 1) w2.heap.size #[.int .i64 5, .string ⟨#[108, 105, 115, 116]⟩, .int .i64 0, .int .u64 0, .string ⟨#[]⟩, .int .i64 0, .int .i64 0, .int .i64 0, .int .i64 0, .slice none 0 0, .slice none 0 0]) := (HS1.out).next hM2 hv2
    clear hM2 hv2
    clear hc1 hf1 hr1 hg1 hz1 hy1
    have hc2 : ∀ i, w4.cell? ⟨w2.heap.size, i, none⟩ = _ := row_at HS2.out.box
    have hf2 := fun i => fz _ _ _ _ i HS2.out.box
    have hr2 : ∀ i, w4.cell? ⟨w.heap.size, i, none⟩ = (#[.int .i64 0, .string ⟨#[]⟩, .int .i64 0, .int .u64 0, .string ⟨#[]⟩, .int .i64 0, .int .i64 0, .int .i64 0, .int .i64 0, .slice none 0 0, .slice none 0 0] : Array Value)[i]? := row_at HS2.out.res
    have hg2 := fun i => fz _ _ _ _ i HS2.out.res
    have hz2 : w2.heap.size < w4.heap.size := (Array.getElem?_eq_some_iff.1 HS2.out.box).1
    have hy2 : w.heap.size < w4.heap.size := (Array.getElem?_eq_some_iff.1 HS2.out.res).1
    have q2 := nv_range raw (at_ + 1 + 1) 3 (by decide)
    by_cases hq : 0 < c2
    · go_wp2_with fail
      refine (next_det kb rp raw rc (at_ + 1 + 1 + 1) 4 _ (((HS2.out).set 5 (.int .i64 c2)).maker HM.out) (by omega) (by omega) (by omega)).mono ?_
      rintro r w5 ⟨c3, rfl, d3, e3, hM3, hv3⟩
      have HS3 : Hid (Sb kb rp raw rc w w5 (at_ + 1 + 1 + 1 + 1) w2.heap.size #[.int .i64 5, .string ⟨#[108, 105, 115, 116]⟩, .int .i64 0, .int .u64 0, .string ⟨#[]⟩, .int .i64 c2, .int .i64 0, .int .i64 0, .int .i64 0, .slice none 0 0, .slice none 0 0]) := ((HS2.out).set 5 (.int .i64 c2)).next hM3 hv3
      clear hM3 hv3
      clear hc2 hf2 hr2 hg2 hz2 hy2
      have hc3 : ∀ i, w5.cell? ⟨w2.heap.size, i, none⟩ = _ := row_at HS3.out.box
      have hf3 := fun i => fz _ _ _ _ i HS3.out.box
      have hr3 : ∀ i, w5.cell? ⟨w.heap.size, i, none⟩ = (#[.int .i64 0, .string ⟨#[]⟩, .int .i64 0, .int .u64 0, .string ⟨#[]⟩, .int .i64 0, .int .i64 0, .int .i64 0, .int .i64 0, .slice none 0 0, .slice none 0 0] : Array Value)[i]? := row_at HS3.out.res
      have hg3 := fun i => fz _ _ _ _ i HS3.out.res
      have hz3 : w2.heap.size < w5.heap.size := (Array.getElem?_eq_some_iff.1 HS3.out.box).1
      have hy3 : w.heap.size < w5.heap.size := (Array.getElem?_eq_some_iff.1 HS3.out.res).1
      have q3 := nv_range raw (at_ + 1 + 1 + 1) 4 (by decide)
      have q3b : 0 ≤ c3 ∧ c3 ≤ 3 := by omega
      go_wp2_with fail
      refine (next_det kb rp raw rc (at_ + 1 + 1 + 1 + 1) (c3 + 1) _ (((HS3.out).set 8 (.int .i64 c3)).maker HM.out) (by omega) (by omega) (by omega)).mono ?_
      rintro r w6 ⟨c4, rfl, d4, e4, hM4, hv4⟩
      have HS4 : Hid (Sb kb rp raw rc w w6 (at_ + 1 + 1 + 1 + 1 + 1) w2.heap.size #[.int .i64 5, .string ⟨#[108, 105, 115, 116]⟩, .int .i64 0, .int .u64 0, .string ⟨#[]⟩, .int .i64 c2, .int .i64 0, .int .i64 0, .int .i64 c3, .slice none 0 0, .slice none 0 0]) := ((HS3.out).set 8 (.int .i64 c3)).next hM4 hv4
      clear hM4 hv4
      clear hc3 hf3 hr3 hg3 hz3 hy3
      have hc4 : ∀ i, w6.cell? ⟨w2.heap.size, i, none⟩ = _ := row_at HS4.out.box
      have hf4 := fun i => fz _ _ _ _ i HS4.out.box
      have hr4 : ∀ i, w6.cell? ⟨w.heap.size, i, none⟩ = (#[.int .i64 0, .string ⟨#[]⟩, .int .i64 0, .int .u64 0, .string ⟨#[]⟩, .int .i64 0, .int .i64 0, .int .i64 0, .int .i64 0, .slice none 0 0, .slice none 0 0] : Array Value)[i]? := row_at HS4.out.res
      have hg4 := fun i => fz _ _ _ _ i HS4.out.res
      have hz4 : w2.heap.size < w6.heap.size := (Array.getElem?_eq_some_iff.1 HS4.out.box).1
      have hy4 : w.heap.size < w6.heap.size := (Array.getElem?_eq_some_iff.1 HS4.out.res).1
      have q4 := nv_range raw (at_ + 1 + 1 + 1 + 1) (c3 + 1) (by omega)
      go_wp2_with fail
      refine (next_det kb rp raw rc (at_ + 1 + 1 + 1 + 1 + 1) 3 _ (((HS4.out).set 7 (.int .i64 c4)).maker HM.out) (by omega) (by omega) (by omega)).mono ?_
      rintro r w7 ⟨c5, rfl, d5, e5, hM5, hv5⟩
      have HS5 : Hid (Sb kb rp raw rc w w7 (at_ + 1 + 1 + 1 + 1 + 1 + 1) w2.heap.size #[.int .i64 5, .string ⟨#[108, 105, 115, 116]⟩, .int .i64 0, .int .u64 0, .string ⟨#[]⟩, .int .i64 c2, .int .i64 0, .int .i64 c4, .int .i64 c3, .slice none 0 0, .slice none 0 0]) := ((HS4.out).set 7 (.int .i64 c4)).next hM5 hv5
      clear hM5 hv5
      clear hc4 hf4 hr4 hg4 hz4 hy4
      have hc5 : ∀ i, w7.cell? ⟨w2.heap.size, i, none⟩ = _ := row_at HS5.out.box
      have hf5 := fun i => fz _ _ _ _ i HS5.out.box
      have hr5 : ∀ i, w7.cell? ⟨w.heap.size, i, none⟩ = (#[.int .i64 0, .string ⟨#[]⟩, .int .i64 0, .int .u64 0, .string ⟨#[]⟩, .int .i64 0, .int .i64 0, .int .i64 0, .int .i64 0, .slice none 0 0, .slice none 0 0] : Array Value)[i]? := row_at HS5.out.res
      have hg5 := fun i => fz _ _ _ _ i HS5.out.res
      have hz5 : w2.heap.size < w7.heap.size := (Array.getElem?_eq_some_iff.1 HS5.out.box).1
      have hy5 : w.heap.size < w7.heap.size := (Array.getElem?_eq_some_iff.1 HS5.out.res).1
      have q5 := nv_range raw (at_ + 1 + 1 + 1 + 1 + 1) 3 (by decide)
      go_wp2_with fail
      refine bodyPost_ret (v := .agg #[.int .i64 5, .string ⟨#[108, 105, 115, 116]⟩, .int .i64 0, .int .u64 0, .string ⟨#[]⟩, .int .i64 c2, .int .i64 c5, .int .i64 c4, .int .i64 c3, .slice none 0 0, .slice none 0 0]) (by simp [results, Tryd.results21, go_sem, hr5]) rfl ?_
      exact sim_done 5 ⟨#[108, 105, 115, 116]⟩ 0 0 ⟨#[]⟩ c2 c5 c4 c3 HM.out HS5.out.st (bset ((Below.refl _ _).setCell (p := ⟨w2.heap.size, 6, none⟩) (by show _ ≤ _; simp; omega) _) (Nat.le_refl _) _ _ _ _ _ _ _ _ _ _ _) (by omega) (by decide) (by decide) ht0 (by decide) (by decide) (by decide) (by decide) (by decide) (by omega) (by omega) (by omega) (by omega) (right_flR _ _ _ _ _ _ _ _ _ hT (by simp [zeroK]) (piece_ok _ _ _ _ _ (by omega) (by omega) (by omega) (by omega) (by omega) (by omega) (by omega) (by omega) (by omega)) (by decide))
    · obtain rfl : c2 = 0 := by omega
      go_wp2_with fail
      refine bodyPost_ret (v := .agg #[.int .i64 5, .string ⟨#[108, 105, 115, 116]⟩, .int .i64 0, .int .u64 0, .string ⟨#[]⟩, .int .i64 0, .int .i64 0, .int .i64 0, .int .i64 0, .slice none 0 0, .slice none 0 0]) (by simp [results, Tryd.results21, go_sem, hr2]) rfl ?_
      exact sim_done 5 ⟨#[108, 105, 115, 116]⟩ 0 0 ⟨#[]⟩ 0 0 0 0 HM.out HS2.out.st (bset ((Below.refl _ _).setCell (p := ⟨w2.heap.size, 5, none⟩) (by show _ ≤ _; simp; omega) _) (Nat.le_refl _) _ _ _ _ _ _ _ _ _ _ _) (by omega) (by decide) (by decide) ht0 (by decide) (by decide) (by decide) (by decide) (by decide) (by decide) (by decide) (by decide) (by decide) (right_flR _ _ _ _ _ _ _ _ _ hT (by simp [zeroK]) (by simp [kindB, pieceB]) (by decide))
end Go.Proofs.YtnhbpcmiolkllabDoor
