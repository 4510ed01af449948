/-
  Right at any datum; the law ValueRight.
-/
import Derived.Test.YtnhbpcmiolkllaaDoorEe
import Derived.Test.YtnhbpcmiolkllaaDoorRt
import Derived.Test.YtnhbpcmiolkllaaDoorX
namespace Go.Proofs.YtnhbpcmiolkllaaDoor
open Go.RowKit
attribute [local go_sem] refold2 cell3_0 cell3_1 b28_0 b28_01

set_option maxRecDepth 100000 in
set_option maxHeartbeats 1000000 in
theorem Right_any (n : Nat) (d : MD) (w : World) (hN : NamesAt w) (hin : MD.In w.heap.size w n d) : Calls Tryd.prog 10 #[d.val] w fun r w' => r = .returned (.bool (MD.right n d)) ∧ Below w.heap.size w w' := by
  have HR : Hid (Calls Tryd.prog 31 #[d.val, .pointer (some ⟨w.heap.size + 1, 0, none⟩)] ((w.alloc (.cells d.cells 28)).alloc (.cells #[.int .i64 100] 3)) fun r w' => r = .returned (.bool (MD.right n d)) ∧ Below w.heap.size w w') := by
    have hb2 := below2 w (.cells d.cells 28) (.cells #[.int .i64 100] 3)
    refine (right_any n d (w.heap.size + 1) 100 _ (hN.kept hb2) (by omega) ⟨row_at (heap2_1 _ _ _) 0, fz _ _ _ _ 0 (heap2_1 _ _ _), by simp⟩ (by omega) (by omega) (MD.In.mono (by omega) n d (MD.In.below hb2 n d hin))).mono ?_
    rintro r w' ⟨x, q, rfl, h1, _, h3, _⟩
    refine ⟨?_, hb2.trans (h1.mono (by omega))⟩
    rw [h3, MD.right]
    congr 3
    apply decide_eq_decide.2; omega
  clear hin hN
  generalize MD.right n d = fv at HR ⊢
  obtain ⟨⟨k, t, a, f, s, r0, r1, r2, r3, pp, path, pc⟩, ip, ic, items⟩ := d
  simp only [MD.val, D, MD.cells] at *
  go_enter Tryd.func10, Tryd.ntmps10
  go_wp2_with (go_at_call 31; refine HR.out.mono ?_; rintro r w' ⟨rfl, hb⟩)
  go_ret
  exact ⟨rfl, hb⟩

set_option maxRecDepth 100000 in
set_option maxHeartbeats 4000000 in
theorem rightLaw_any (n : Nat) (d : MD) (w : World) (hN : NamesAt w) (hin : MD.In w.heap.size w n d) : Calls Tryd.prog 3 #[d.val] w fun r w' => r = .returned (.bool true) ∧ Below w.heap.size w w' := by
  have HA : Hid (∀ W, Below w.heap.size w W → Calls Tryd.prog 10 #[d.val] W fun r w' => r = .returned (.bool (MD.right n d)) ∧ Below W.heap.size W w') := fun W hW => Right_any n d W (hN.kept hW) (hin.later (Nat.le_refl _) hW)
  have HR : Hid (∀ W, Below w.heap.size w W → Calls Tryd.prog 11 #[d.val] W fun r w' => r = .returned (.bool (MD.right n d)) ∧ Below W.heap.size W w') := fun W hW => refRightAny n d W (hin.later (Nat.le_refl _) hW)
  generalize MD.right n d = fv at HA HR
  clear hin
  obtain ⟨⟨k, t, a, f, s, r0, r1, r2, r3, pp, path, pc⟩, ip, ic, items⟩ := d
  simp only [MD.val, D] at *
  go_enter Tryd.func3, Tryd.ntmps3
  go_wp2_with fail
  refine (known_any _ (hN.kept (below1 _ _))).mono ?_
  rintro r w2 ⟨rfl, b2⟩
  have hB2 := (kept1 b2).1
  have HK : Hid (∀ W, Below w2.heap.size w2 W → ∀ j, W.cell? ⟨w.heap.size, j, none⟩ = (#[.int .i64 k, .string t, .int .i64 a, .int .u64 f, .string s, .int .i64 r0, .int .i64 r1, .int .i64 r2, .int .i64 r3, .slice pp path.length pc, .slice ip items.length ic] : Array Value)[j]?) := fun W hW j => by
    rw [hW.cell (p := ⟨w.heap.size, j, none⟩) (by have := b2.size; simp at this; show w.heap.size < _; omega)]; exact (kept1 b2).2 j
  clear b2
  go_wp2_with fail
  refine wp_region_noPanic ?_
  refine wp_region_held (S := fun W => ∀ j, W.cell? ⟨w.heap.size, j, none⟩ = (#[.int .i64 k, .string t, .int .i64 a, .int .u64 f, .string s, .int .i64 r0, .int .i64 r1, .int .i64 r2, .int .i64 r3, .slice pp path.length pc, .slice ip items.length ic] : Array Value)[j]?) (by kernel_rfl) ?_
  obtain ⟨W4, hW4⟩ : ∃ W4, W4 = w2.drew := ⟨_, rfl⟩
  have e4 : ({ w2 with drawn := w2.drawn + 1 } : World) = W4 := hW4.symm
  rw [e4]
  have hB4 : Below w2.heap.size w2 W4 := by rw [hW4]; exact (Below.refl _ _).drew
  have hS := HK.out W4 hB4
  clear e4 hW4
  refine wpAnyH_take (i := 0) (v := .bool true) rfl (by kernel_rfl) (by kernel_rfl) (by kernel_rfl) (fun _ _ _ h => h) (Or.inl ⟨by rfl, ?r⟩) hS ?_
  case r => intro W hW; simp [go_sem, execOp, Act.eval]
  simp only [List.getElem_toArray, List.getElem_cons_zero, Act.put, List.setIfInBounds_toArray, List.set_cons_succ, List.set_cons_zero]
  refine wpAnyH_take (i := 1) (v := .bool true) rfl (by kernel_rfl) (by kernel_rfl) (by kernel_rfl) (fun _ _ _ h => h) (Or.inl ⟨by rfl, ?r⟩) hS ?_
  case r => intro W hW; simp [go_sem, execOp, Act.eval]
  simp only [List.getElem_toArray, List.getElem_cons_zero, List.getElem_cons_succ, Act.put, List.setIfInBounds_toArray, List.set_cons_succ, List.set_cons_zero]
  refine wpAnyH_take (i := 2) (v := .agg #[.int .i64 k, .string t, .int .i64 a, .int .u64 f, .string s, .int .i64 r0, .int .i64 r1, .int .i64 r2, .int .i64 r3, .slice pp path.length pc, .slice ip items.length ic]) rfl (by kernel_rfl) (by kernel_rfl) (by kernel_rfl) (fun _ _ _ h => h) (Or.inl ⟨by rfl, ?r⟩) hS ?_
  case r => intro W hW; simp [go_sem, execOp, Act.eval, hW]
  simp only [List.getElem_toArray, List.getElem_cons_zero, List.getElem_cons_succ, Act.put, List.setIfInBounds_toArray, List.set_cons_succ, List.set_cons_zero]
  refine wpAnyH_take (i := 4) (v := .agg #[.int .i64 k, .string t, .int .i64 a, .int .u64 f, .string s, .int .i64 r0, .int .i64 r1, .int .i64 r2, .int .i64 r3, .slice pp path.length pc, .slice ip items.length ic]) rfl (by kernel_rfl) (by kernel_rfl) (by kernel_rfl) (fun _ _ _ h => h) (Or.inl ⟨by rfl, ?r⟩) hS ?_
  case r => intro W hW; simp [go_sem, execOp, Act.eval, hW]
  simp only [List.getElem_toArray, List.getElem_cons_zero, List.getElem_cons_succ, Act.put, List.setIfInBounds_toArray, List.set_cons_succ, List.set_cons_zero]
  refine wpAnyH_all (rs := [3]) (by kernel_rfl) (by simp) (fun i2 hi2 => ?_)
  obtain rfl : i2 = 3 := by simpa using hi2
  clear hi2
  refine wpOp_step rfl (fun K hK => ite_yes rfl ?_)
  simp only [List.getElem_toArray, List.getElem_cons_zero, List.getElem_cons_succ]
  go_simp
  refine (HA.out _ (hB2.trans (hB4.mono hB2.size))).mono ?_
  rintro e w5 ⟨rfl, b5⟩
  have hb5 : Below w2.heap.size w2 w5 := hB4.trans (b5.mono hB4.size)
  go_simp
  refine hK _ _ ⟨HK.out _ hb5, ?_⟩
  clear hK K hS
  refine wpAnyH_all (rs := [5]) (by kernel_rfl) (by simp) (fun i2 hi2 => ?_)
  obtain rfl : i2 = 5 := by simpa using hi2
  clear hi2
  refine wpOp_step rfl (fun K hK => ite_yes rfl ?_)
  simp only [List.getElem_toArray, List.getElem_cons_zero, List.getElem_cons_succ]
  go_simp
  refine (HR.out _ (hB2.trans (hb5.mono hB2.size))).mono ?_
  rintro e w6 ⟨rfl, b6⟩
  have hb6 : Below w2.heap.size w2 w6 := hb5.trans (b6.mono hb5.size)
  go_simp
  refine hK _ _ ⟨HK.out _ hb6, ?_⟩
  clear hK K
  have hS := HK.out _ hb6
  refine wpAnyH_take (i := 6) (v := .bool true) rfl (by kernel_rfl) (by kernel_rfl) (by kernel_rfl) (fun _ _ _ h => h) (Or.inl ⟨by rfl, ?r⟩) hS ?_
  case r => intro W hW; simp [go_sem, execOp, Act.eval]
  simp only [List.getElem_toArray, List.getElem_cons_zero, List.getElem_cons_succ, Act.put, List.setIfInBounds_toArray, List.set_cons_succ, List.set_cons_zero]
  refine wpAnyH_take (i := 7) (v := .bool true) rfl (by kernel_rfl) (by kernel_rfl) (by kernel_rfl) (fun _ _ _ h => h) (Or.inl ⟨by rfl, ?r⟩) hS ?_
  case r => intro W hW; simp [go_sem, execOp, Act.eval]
  simp only [List.getElem_toArray, List.getElem_cons_zero, List.getElem_cons_succ, Act.put, List.setIfInBounds_toArray, List.set_cons_succ, List.set_cons_zero]
  refine wpAnyH_take (i := 8) (v := .bool true) rfl (by kernel_rfl) (by kernel_rfl) (by kernel_rfl) (fun _ _ _ h => h) (Or.inl ⟨by rfl, ?r⟩) hS ?_
  case r => intro W hW; simp [go_sem, execOp, Act.eval]
  simp only [List.getElem_toArray, List.getElem_cons_zero, List.getElem_cons_succ, Act.put, List.setIfInBounds_toArray, List.set_cons_succ, List.set_cons_zero]
  refine wpAnyH_done (by kernel_rfl) ?_ _
  refine NoPanic.normal ?_
  try simp only [Act.put]
  go_wp2_with fail
  go_ret
  exact ⟨rfl, hB2.trans (hb6.mono hB2.size)⟩
end Go.Proofs.YtnhbpcmiolkllaaDoor
