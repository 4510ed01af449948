/-
  equal at the int 5, twice.
-/
import Derived.Test.YtnhbpcmiolkllabDoorHJ
import Derived.Test.YtnhbpcmiolkllabDoorQ
import Derived.Stop.Asserts
namespace Go.Proofs.YtnhbpcmiolkllabDoor
open Go.RowKit
attribute [local go_sem] refold2 cell3_0 cell3_1 b28_0 b28_01
theorem taE2r (v : Value) (w : World) : (Instr.typeAssert (.iface 122 v) 49 92 true).run Tryd.prog w = .ok (.tuple #[.agg #[.pointer none], .bool false]) w := by kernel_rfl
theorem taE2f (v : Value) (w : World) : (Instr.typeAssert (.iface 122 v) 49 111 true).run Tryd.prog w = .ok (.tuple #[.agg #[.pointer none], .bool false]) w := by kernel_rfl
theorem taE2k (v : Value) (w : World) : (Instr.typeAssert (.iface 122 v) 49 113 true).run Tryd.prog w = .ok (.tuple #[.iface 122 v, .bool true]) w := run_typeAssert_hasB Tryd.underlying113 (by kernel_rfl) v 49 w
theorem core5 (w : World) : (binOp .eql 116 (.agg (coreA Tryd.zeroCells116 2 ⟨#[105, 110, 116]⟩ 5 0 ⟨#[]⟩ 0 0)) (.agg (coreA Tryd.zeroCells116 2 ⟨#[105, 110, 116]⟩ 5 0 ⟨#[]⟩ 0 0))).run Tryd.prog w = .ok (.bool true) w := by kernel_rfl
theorem core5g (w : World) (x y : Operand) : (eqGuard .eql 116 x y (.agg (coreA Tryd.zeroCells116 2 ⟨#[105, 110, 116]⟩ 5 0 ⟨#[]⟩ 0 0)) (.agg (coreA Tryd.zeroCells116 2 ⟨#[105, 110, 116]⟩ 5 0 ⟨#[]⟩ 0 0))).run Tryd.prog w = .ok () w := by kernel_rfl
attribute [local go_sem] taE2r taE2f taE2k

set_option maxRecDepth 100000 in
set_option maxHeartbeats 4000000 in
theorem equal_5 (w : World) :
    Calls Tryd.prog 24 #[dat 2 ⟨#[105, 110, 116]⟩ 5 0 ⟨#[]⟩, dat 2 ⟨#[105, 110, 116]⟩ 5 0 ⟨#[]⟩] w fun r w' => r = .returned (.tuple #[.bool true, .string ⟨#[]⟩]) ∧ Below w.heap.size w w' := by
  simp only [dat, D]
  obtain ⟨W2, hW2⟩ : ∃ W2, W2 = (w.alloc (.cells #[.int .i64 2, .string ⟨#[105, 110, 116]⟩, .int .i64 5, .int .u64 0, .string ⟨#[]⟩, .int .i64 0, .int .i64 0, .int .i64 0, .int .i64 0, .slice none 0 0, .slice none 0 0] 32)).alloc (.cells #[.int .i64 2, .string ⟨#[105, 110, 116]⟩, .int .i64 5, .int .u64 0, .string ⟨#[]⟩, .int .i64 0, .int .i64 0, .int .i64 0, .int .i64 0, .slice none 0 0, .slice none 0 0] 32) := ⟨_, rfl⟩
  have hB2 : Below w.heap.size w W2 := by rw [hW2]; exact below2 _ _ _
  have hz2 : W2.heap.size = w.heap.size + 2 := by rw [hW2]; simp
  have r0 : Hid (W2.heap[w.heap.size]? = some (.cells #[.int .i64 2, .string ⟨#[105, 110, 116]⟩, .int .i64 5, .int .u64 0, .string ⟨#[]⟩, .int .i64 0, .int .i64 0, .int .i64 0, .int .i64 0, .slice none 0 0, .slice none 0 0] 32 (0, 0))) := by rw [hW2, Below.heap_alloc _ _ _ (by simp)]; exact heap_alloc_new _ _
  have r1 : Hid (W2.heap[w.heap.size + 1]? = some (.cells #[.int .i64 2, .string ⟨#[105, 110, 116]⟩, .int .i64 5, .int .u64 0, .string ⟨#[]⟩, .int .i64 0, .int .i64 0, .int .i64 0, .int .i64 0, .slice none 0 0, .slice none 0 0] 32 (0, 0))) := by rw [hW2]; exact heap2_1 _ _ _
  have HK : Hid (∀ W, Below W2.heap.size W2 W → ((∀ j, W.cell? ⟨w.heap.size, j, none⟩ = (#[.int .i64 2, .string ⟨#[105, 110, 116]⟩, .int .i64 5, .int .u64 0, .string ⟨#[]⟩, .int .i64 0, .int .i64 0, .int .i64 0, .int .i64 0, .slice none 0 0, .slice none 0 0] : Array Value)[j]?) ∧ (∀ j, W.cell? ⟨w.heap.size + 1, j, none⟩ = (#[.int .i64 2, .string ⟨#[105, 110, 116]⟩, .int .i64 5, .int .u64 0, .string ⟨#[]⟩, .int .i64 0, .int .i64 0, .int .i64 0, .int .i64 0, .slice none 0 0, .slice none 0 0] : Array Value)[j]?))) := fun W hW => ⟨fun j => row_at ((hW.block w.heap.size (by omega)).trans r0.out) j, fun j => row_at ((hW.block (w.heap.size + 1) (by omega)).trans r1.out) j⟩
  have HT : Hid (∀ (W : World), Calls Tryd.prog 42 #[.agg #[.int .i64 2, .string ⟨#[105, 110, 116]⟩, .int .i64 5, .int .u64 0, .string ⟨#[]⟩, .int .i64 0, .int .i64 0, .int .i64 0, .int .i64 0, .slice none 0 0, .slice none 0 0]] W fun r w' => r = .returned (.agg #[.int .i64 2, .string ⟨#[105, 110, 116]⟩]) ∧ Below W.heap.size W w') := fun W => typeOf_any 2 ⟨#[105, 110, 116]⟩ 5 0 ⟨#[]⟩ 0 0 0 0 _ _ W
  have HC : Hid (∀ (W : World), Calls Tryd.prog 44 #[.agg #[.int .i64 2, .string ⟨#[105, 110, 116]⟩, .int .i64 5, .int .u64 0, .string ⟨#[]⟩, .int .i64 0, .int .i64 0, .int .i64 0, .int .i64 0, .slice none 0 0, .slice none 0 0]] W fun r w' => r = .returned (.agg (coreA Tryd.zeroCells116 2 ⟨#[105, 110, 116]⟩ 5 0 ⟨#[]⟩ 0 0)) ∧ Below W.heap.size W w') := fun W => coreOf_flat 2 ⟨#[105, 110, 116]⟩ 5 0 ⟨#[]⟩ 0 0 0 0 W rfl
  go_enter Tryd.func24, Tryd.ntmps24
  go_wp2_with fail
  rw [← hW2]
  clear hW2
  refine wp_region_noPanic ?_
  refine wp_region_held (S := fun W => (∀ j, W.cell? ⟨w.heap.size, j, none⟩ = (#[.int .i64 2, .string ⟨#[105, 110, 116]⟩, .int .i64 5, .int .u64 0, .string ⟨#[]⟩, .int .i64 0, .int .i64 0, .int .i64 0, .int .i64 0, .slice none 0 0, .slice none 0 0] : Array Value)[j]?) ∧ (∀ j, W.cell? ⟨w.heap.size + 1, j, none⟩ = (#[.int .i64 2, .string ⟨#[105, 110, 116]⟩, .int .i64 5, .int .u64 0, .string ⟨#[]⟩, .int .i64 0, .int .i64 0, .int .i64 0, .int .i64 0, .slice none 0 0, .slice none 0 0] : Array Value)[j]?)) (by kernel_rfl) ?_
  obtain ⟨W4, hW4⟩ : ∃ W4, W4 = W2.drew := ⟨_, rfl⟩
  have e4 : ({ W2 with drawn := W2.drawn + 1 } : World) = W4 := hW4.symm
  rw [e4]
  have hB4 : Below W2.heap.size W2 W4 := by rw [hW4]; exact (Below.refl _ _).drew
  have hS := HK.out W4 hB4
  clear e4 hW4
  refine wpAnyH_take (i := 0) (v := .agg #[.int .i64 2, .string ⟨#[105, 110, 116]⟩, .int .i64 5, .int .u64 0, .string ⟨#[]⟩, .int .i64 0, .int .i64 0, .int .i64 0, .int .i64 0, .slice none 0 0, .slice none 0 0]) rfl (by kernel_rfl) (by kernel_rfl) (by kernel_rfl) (fun _ _ _ h => h) (Or.inl ⟨by rfl, ?r⟩) hS ?_
  case r => intro W hW; simp [go_sem, execOp, Act.eval, hW.1]
  simp only [List.getElem_toArray, List.getElem_cons_zero, Act.put, List.setIfInBounds_toArray, List.set_cons_succ, List.set_cons_zero]
  refine wpAnyH_take (i := 2) (v := .agg #[.int .i64 2, .string ⟨#[105, 110, 116]⟩, .int .i64 5, .int .u64 0, .string ⟨#[]⟩, .int .i64 0, .int .i64 0, .int .i64 0, .int .i64 0, .slice none 0 0, .slice none 0 0]) rfl (by kernel_rfl) (by kernel_rfl) (by kernel_rfl) (fun _ _ _ h => h) (Or.inl ⟨by rfl, ?r⟩) hS ?_
  case r => intro W hW; simp [go_sem, execOp, Act.eval, hW.2]
  simp only [List.getElem_toArray, List.getElem_cons_zero, List.getElem_cons_succ, Act.put, List.setIfInBounds_toArray, List.set_cons_succ, List.set_cons_zero]
  refine wpAnyH_all (rs := [1]) (by kernel_rfl) (by simp) (fun i2 hi2 => ?_)
  obtain rfl : i2 = 1 := by simpa using hi2
  clear hi2
  refine wpOp_step rfl (fun K hK => ite_yes rfl ?_)
  simp only [List.getElem_toArray, List.getElem_cons_zero, List.getElem_cons_succ]
  go_simp
  refine (HT.out _).mono ?_
  rintro e w5 ⟨rfl, b5⟩
  have hb5 : Below W2.heap.size W2 w5 := hB4.trans (b5.mono hB4.size)
  go_simp
  refine hK _ _ ⟨HK.out _ hb5, ?_⟩
  clear hK K hS
  have hS := HK.out _ hb5
  refine wpAnyH_all (rs := [3]) (by kernel_rfl) (by simp) (fun i2 hi2 => ?_)
  obtain rfl : i2 = 3 := by simpa using hi2
  clear hi2
  refine wpOp_step rfl (fun K hK => ite_yes rfl ?_)
  simp only [List.getElem_toArray, List.getElem_cons_zero, List.getElem_cons_succ]
  go_simp
  refine (HT.out _).mono ?_
  rintro e w6 ⟨rfl, b6⟩
  have hb6 : Below W2.heap.size W2 w6 := hb5.trans (b6.mono hb5.size)
  go_simp
  refine hK _ _ ⟨HK.out _ hb6, ?_⟩
  clear hK K hS
  have hS := HK.out _ hb6
  refine wpAnyH_take (i := 4) (v := .bool false) rfl (by kernel_rfl) (by kernel_rfl) (by kernel_rfl) (fun _ _ _ h => h) (Or.inl ⟨by rfl, ?r⟩) hS ?_
  case r => intro W hW; simp [go_sem, execOp, Act.eval]
  simp only [List.getElem_toArray, List.getElem_cons_zero, List.getElem_cons_succ, Act.put, List.setIfInBounds_toArray, List.set_cons_succ, List.set_cons_zero]
  refine wpAnyH_done (by kernel_rfl) ?_ _
  refine NoPanic.normal ?_
  try simp only [Act.put]
  have d6 := hS.1
  have z6 : w.heap.size < w6.heap.size := by have := hb6.size; omega
  go_wp2_with fail
  refine (behind_2 w.heap.size _ (d6 0) z6).mono ?_
  rintro r w7 ⟨rfl, b7⟩
  have hb7 : Below W2.heap.size W2 w7 := hb6.trans (b7.mono hb6.size)
  have d7 := (HK.out _ hb7).1
  clear d6
  go_wp2_with fail
  clear hS
  refine wp_region_noPanic ?_
  refine wp_region_held (S := fun W => (∀ j, W.cell? ⟨w.heap.size, j, none⟩ = (#[.int .i64 2, .string ⟨#[105, 110, 116]⟩, .int .i64 5, .int .u64 0, .string ⟨#[]⟩, .int .i64 0, .int .i64 0, .int .i64 0, .int .i64 0, .slice none 0 0, .slice none 0 0] : Array Value)[j]?) ∧ (∀ j, W.cell? ⟨w.heap.size + 1, j, none⟩ = (#[.int .i64 2, .string ⟨#[105, 110, 116]⟩, .int .i64 5, .int .u64 0, .string ⟨#[]⟩, .int .i64 0, .int .i64 0, .int .i64 0, .int .i64 0, .slice none 0 0, .slice none 0 0] : Array Value)[j]?)) (by kernel_rfl) ?_
  obtain ⟨W8, hW8⟩ : ∃ W8, W8 = w7.drew := ⟨_, rfl⟩
  have e8 : ({ w7 with drawn := w7.drawn + 1 } : World) = W8 := hW8.symm
  rw [e8]
  have hB8 : Below W2.heap.size W2 W8 := by rw [hW8]; exact hb7.trans ((Below.refl _ _).drew)
  have hS := HK.out W8 hB8
  clear e8 hW8
  refine wpAnyH_take (i := 0) (v := .agg #[.int .i64 2, .string ⟨#[105, 110, 116]⟩, .int .i64 5, .int .u64 0, .string ⟨#[]⟩, .int .i64 0, .int .i64 0, .int .i64 0, .int .i64 0, .slice none 0 0, .slice none 0 0]) rfl (by kernel_rfl) (by kernel_rfl) (by kernel_rfl) (fun _ _ _ h => h) (Or.inl ⟨by rfl, ?r⟩) hS ?_
  case r => intro W hW; simp [go_sem, execOp, Act.eval, hW.1]
  simp only [List.getElem_toArray, List.getElem_cons_zero, Act.put, List.setIfInBounds_toArray, List.set_cons_succ, List.set_cons_zero]
  refine wpAnyH_take (i := 2) (v := .agg #[.int .i64 2, .string ⟨#[105, 110, 116]⟩, .int .i64 5, .int .u64 0, .string ⟨#[]⟩, .int .i64 0, .int .i64 0, .int .i64 0, .int .i64 0, .slice none 0 0, .slice none 0 0]) rfl (by kernel_rfl) (by kernel_rfl) (by kernel_rfl) (fun _ _ _ h => h) (Or.inl ⟨by rfl, ?r⟩) hS ?_
  case r => intro W hW; simp [go_sem, execOp, Act.eval, hW.2]
  simp only [List.getElem_toArray, List.getElem_cons_zero, List.getElem_cons_succ, Act.put, List.setIfInBounds_toArray, List.set_cons_succ, List.set_cons_zero]
  refine wpAnyH_all (rs := [1]) (by kernel_rfl) (by simp) (fun i2 hi2 => ?_)
  obtain rfl : i2 = 1 := by simpa using hi2
  clear hi2
  refine wpOp_step rfl (fun K hK => ite_yes rfl ?_)
  simp only [List.getElem_toArray, List.getElem_cons_zero, List.getElem_cons_succ]
  go_simp
  refine (HC.out _).mono ?_
  rintro e w9 ⟨rfl, b9⟩
  have hb9 : Below W2.heap.size W2 w9 := hB8.trans (b9.mono hB8.size)
  go_simp
  refine hK _ _ ⟨HK.out _ hb9, ?_⟩
  clear hK K hS
  have hS := HK.out _ hb9
  refine wpAnyH_all (rs := [3]) (by kernel_rfl) (by simp) (fun i2 hi2 => ?_)
  obtain rfl : i2 = 3 := by simpa using hi2
  clear hi2
  refine wpOp_step rfl (fun K hK => ite_yes rfl ?_)
  simp only [List.getElem_toArray, List.getElem_cons_zero, List.getElem_cons_succ]
  go_simp
  refine (HC.out _).mono ?_
  rintro e w10 ⟨rfl, b10⟩
  have hb10 : Below W2.heap.size W2 w10 := hb9.trans (b10.mono hb9.size)
  go_simp
  refine hK _ _ ⟨HK.out _ hb10, ?_⟩
  clear hK K hS
  have hS := HK.out _ hb10
  refine wpAnyH_take (i := 4) (v := .bool true) rfl (by kernel_rfl) (by kernel_rfl) (by kernel_rfl) (fun _ _ _ h => h) (Or.inl ⟨by rfl, ?r⟩) hS ?_
  case r => intro W hW; simp [execOp, Act.eval, core5, core5g]
  simp only [List.getElem_toArray, List.getElem_cons_zero, List.getElem_cons_succ, Act.put, List.setIfInBounds_toArray, List.set_cons_succ, List.set_cons_zero]
  refine wpAnyH_take (i := 5) (v := .bool true) rfl (by kernel_rfl) (by kernel_rfl) (by kernel_rfl) (fun _ _ _ h => h) (Or.inl ⟨by rfl, ?r⟩) hS ?_
  case r => intro W hW; simp [go_sem, execOp, Act.eval]
  simp only [List.getElem_toArray, List.getElem_cons_zero, List.getElem_cons_succ, Act.put, List.setIfInBounds_toArray, List.set_cons_succ, List.set_cons_zero]
  refine wpAnyH_take (i := 6) (v := .string ⟨#[]⟩) rfl (by kernel_rfl) (by kernel_rfl) (by kernel_rfl) (fun _ _ _ h => h) (Or.inl ⟨by rfl, ?r⟩) hS ?_
  case r => intro W hW; simp [go_sem, execOp, Act.eval]
  simp only [List.getElem_toArray, List.getElem_cons_zero, List.getElem_cons_succ, Act.put, List.setIfInBounds_toArray, List.set_cons_succ, List.set_cons_zero]
  refine wpAnyH_done (by kernel_rfl) ?_ _
  refine NoPanic.normal ?_
  try simp only [Act.put]
  go_wp2_with fail
  refine bodyPost_ret (v := .tuple #[.bool true, .string ⟨#[]⟩]) (by simp [results, Tryd.results24, go_sem]) rfl ⟨rfl, ?_⟩
  exact hB2.trans (hb10.mono (by omega))
end Go.Proofs.YtnhbpcmiolkllabDoor
