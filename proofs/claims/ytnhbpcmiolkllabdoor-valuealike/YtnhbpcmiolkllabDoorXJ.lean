/-
  equal at the int 5, twice.
  Equal and Key at the int 5.
  Hash at the int 5; told.
  The law's first examples.
-/
import Derived.Test.YtnhbpcmiolkllabDoorJJ
import Derived.Test.YtnhbpcmiolkllabDoorQ
import Derived.Stop.Asserts
import Derived.Test.YtnhbpcmiolkllabDoorN
import Derived.Test.YtnhbpcmiolkllabDoorU
import Derived.Test.YtnhbpcmiolkllabDoorO
namespace Go.Proofs.YtnhbpcmiolkllabDoor
open Go.RowKit
attribute [local go_sem] refold2 cell3_0 cell3_1 b28_0 b28_01
theorem taE2r (v : Value) (w : World) : (Instr.typeAssert (.iface 122 v) 49 92 true).run Tryd.prog w = .ok (.tuple #[.agg #[.pointer none], .bool false]) w := by kernel_rfl
theorem taE2f (v : Value) (w : World) : (Instr.typeAssert (.iface 122 v) 49 111 true).run Tryd.prog w = .ok (.tuple #[.agg #[.pointer none], .bool false]) w := by kernel_rfl
theorem taE2k (v : Value) (w : World) : (Instr.typeAssert (.iface 122 v) 49 113 true).run Tryd.prog w = .ok (.tuple #[.iface 122 v, .bool true]) w := run_typeAssert_hasB Tryd.underlying113 (by kernel_rfl) v 49 w
theorem core5 (w : World) : (binOp .eql 116 (.agg (coreA Tryd.zeroCells116 2 ⟨#[105, 110, 116]⟩ 5 0 ⟨#[]⟩ 0 0)) (.agg (coreA Tryd.zeroCells116 2 ⟨#[105, 110, 116]⟩ 5 0 ⟨#[]⟩ 0 0))).run Tryd.prog w = .ok (.bool true) w := by kernel_rfl
theorem core5g (w : World) (x y : Operand) : (eqGuard .eql 116 x y (.agg (coreA Tryd.zeroCells116 2 ⟨#[105, 110, 116]⟩ 5 0 ⟨#[]⟩ 0 0)) (.agg (coreA Tryd.zeroCells116 2 ⟨#[105, 110, 116]⟩ 5 0 ⟨#[]⟩ 0 0))).run Tryd.prog w = .ok () w := by kernel_rfl
attribute [local go_sem] taE2r taE2f taE2k

set_option maxRecDepth 100000 in
set_option maxHeartbeats 4000000 in
theorem equal_5 (w : World) :
    Calls Tryd.prog 24 #[dat 2 ⟨#[105, 110, 116]⟩ 5 0 ⟨#[]⟩, dat 2 ⟨#[105, 110, 116]⟩ 5 0 ⟨#[]⟩] w fun r w' => r = .returned (.tuple #[.bool true, .string ⟨#[]⟩]) ∧ Below w.heap.size w w' := by
  simp only [dat, D]
  obtain ⟨W2, hW2⟩ : ∃ W2, W2 = (w.alloc (.cells #[.int .i64 2, .string ⟨#[105, 110, 116]⟩, .int .i64 5, .int .u64 0, .string ⟨#[]⟩, .int .i64 0, .int .i64 0, .int .i64 0, .int .i64 0, .slice none 0 0, .slice none 0 0] 32)).alloc (.cells #[.int .i64 2, .string ⟨#[105, 110, 116]⟩, .int .i64 5, .int .u64 0, .string ⟨#[]⟩, .int .i64 0, .int .i64 0, .int .i64 0, .int .i64 0, .slice none 0 0, .slice none 0 0] 32) := ⟨_, rfl⟩
  have hB2 : Below w.heap.size w W2 := by rw [hW2]; exact below2 _ _ _
  have hz2 : W2.heap.size = w.heap.size + 2 := by rw [hW2]; simp
  have r0 : Hid (W2.heap[w.heap.size]? = some (.cells #[.int .i64 2, .string ⟨#[105, 110, 116]⟩, .int .i64 5, .int .u64 0, .string ⟨#[]⟩, .int .i64 0, .int .i64 0, .int .i64 0, .int .i64 0, .slice none 0 0, .slice none 0 0] 32 (0, 0))) := by rw [hW2, Below.heap_alloc _ _ _ (by simp)]; exact heap_alloc_new _ _
  have r1 : Hid (W2.heap[w.heap.size + 1]? = some (.cells #[.int .i64 2, .string ⟨#[105, 110, 116]⟩, .int .i64 5, .int .u64 0, .string ⟨#[]⟩, .int .i64 0, .int .i64 0, .int .i64 0, .int .i64 0, .slice none 0 0, .slice none 0 0] 32 (0, 0))) := by rw [hW2]; exact heap2_1 _ _ _
  have HK : Hid (∀ W, Below W2.heap.size W2 W → ((∀ j, W.cell? ⟨w.heap.size, j, none⟩ = (#[.int .i64 2, .string ⟨#[105, 110, 116]⟩, .int .i64 5, .int .u64 0, .string ⟨#[]⟩, .int .i64 0, .int .i64 0, .int .i64 0, .int .i64 0, .slice none 0 0, .slice none 0 0] : Array Value)[j]?) ∧ (∀ j, W.cell? ⟨w.heap.size + 1, j, none⟩ = (#[.int .i64 2, .string ⟨#[105, 110, 116]⟩, .int .i64 5, .int .u64 0, .string ⟨#[]⟩, .int .i64 0, .int .i64 0, .int .i64 0, .int .i64 0, .slice none 0 0, .slice none 0 0] : Array Value)[j]?))) := fun W hW => ⟨fun j => row_at ((hW.block w.heap.size (by omega)).trans r0.out) j, fun j => row_at ((hW.block (w.heap.size + 1) (by omega)).trans r1.out) j⟩
  have HT : Hid (∀ (W : World), Calls Tryd.prog 42 #[.agg #[.int .i64 2, .string ⟨#[105, 110, 116]⟩, .int .i64 5, .int .u64 0, .string ⟨#[]⟩, .int .i64 0, .int .i64 0, .int .i64 0, .int .i64 0, .slice none 0 0, .slice none 0 0]] W fun r w' => r = .returned (.agg #[.int .i64 2, .string ⟨#[105, 110, 116]⟩]) ∧ Below W.heap.size W w') := fun W => typeOf_any 2 ⟨#[105, 110, 116]⟩ 5 0 ⟨#[]⟩ 0 0 0 0 _ _ W
  have HC : Hid (∀ (W : World), Calls Tryd.prog 44 #[.agg #[.int .i64 2, .string ⟨#[105, 110, 116]⟩, .int .i64 5, .int .u64 0, .string ⟨#[]⟩, .int .i64 0, .int .i64 0, .int .i64 0, .int .i64 0, .slice none 0 0, .slice none 0 0]] W fun r w' => r = .returned (.agg (coreA Tryd.zeroCells116 2 ⟨#[105, 110, 116]⟩ 5 0 ⟨#[]⟩ 0 0)) ∧ Below W.heap.size W w') := fun W => coreOf_flat 2 ⟨#[105, 110, 116]⟩ 5 0 ⟨#[]⟩ 0 0 0 0 W rfl
  go_enter Tryd.func24, Tryd.ntmps24
  go_wp2_with fail
  rw [← hW2]
  clear hW2
  refine wp_region_noPanic ?_
  refine wp_region_held (S := fun W => (∀ j, W.cell? ⟨w.heap.size, j, none⟩ = (#[.int .i64 2, .string ⟨#[105, 110, 116]⟩, .int .i64 5, .int .u64 0, .string ⟨#[]⟩, .int .i64 0, .int .i64 0, .int .i64 0, .int .i64 0, .slice none 0 0, .slice none 0 0] : Array Value)[j]?) ∧ (∀ j, W.cell? ⟨w.heap.size + 1, j, none⟩ = (#[.int .i64 2, .string ⟨#[105, 110, 116]⟩, .int .i64 5, .int .u64 0, .string ⟨#[]⟩, .int .i64 0, .int .i64 0, .int .i64 0, .int .i64 0, .slice none 0 0, .slice none 0 0] : Array Value)[j]?)) (by kernel_rfl) ?_
  obtain ⟨W4, hW4⟩ : ∃ W4, W4 = W2.drew := ⟨_, rfl⟩
  have e4 : ({ W2 with drawn := W2.drawn + 1 } : World) = W4 := hW4.symm
  rw [e4]
  have hB4 : Below W2.heap.size W2 W4 := by rw [hW4]; exact (Below.refl _ _).drew
  have hS := HK.out W4 hB4
  clear e4 hW4
  refine wpAnyH_take (i := 0) (v := .agg #[.int .i64 2, .string ⟨#[105, 110, 116]⟩, .int .i64 5, .int .u64 0, .string ⟨#[]⟩, .int .i64 0, .int .i64 0, .int .i64 0, .int .i64 0, .slice none 0 0, .slice none 0 0]) rfl (by kernel_rfl) (by kernel_rfl) (by kernel_rfl) (fun _ _ _ h => h) (Or.inl ⟨by rfl, ?r⟩) hS ?_
  case r => intro W hW; simp [go_sem, execOp, Act.eval, hW.1]
  simp only [List.getElem_toArray, List.getElem_cons_zero, Act.put, List.setIfInBounds_toArray, List.set_cons_succ, List.set_cons_zero]
  refine wpAnyH_take (i := 2) (v := .agg #[.int .i64 2, .string ⟨#[105, 110, 116]⟩, .int .i64 5, .int .u64 0, .string ⟨#[]⟩, .int .i64 0, .int .i64 0, .int .i64 0, .int .i64 0, .slice none 0 0, .slice none 0 0]) rfl (by kernel_rfl) (by kernel_rfl) (by kernel_rfl) (fun _ _ _ h => h) (Or.inl ⟨by rfl, ?r⟩) hS ?_
  case r => intro W hW; simp [go_sem, execOp, Act.eval, hW.2]
  simp only [List.getElem_toArray, List.getElem_cons_zero, List.getElem_cons_succ, Act.put, List.setIfInBounds_toArray, List.set_cons_succ, List.set_cons_zero]
  refine wpAnyH_all (rs := [1]) (by kernel_rfl) (by simp) (fun i2 hi2 => ?_)
  obtain rfl : i2 = 1 := by simpa using hi2
  clear hi2
  refine wpOp_step rfl (fun K hK => ite_yes rfl ?_)
  simp only [List.getElem_toArray, List.getElem_cons_zero, List.getElem_cons_succ]
  go_simp
  refine (HT.out _).mono ?_
  rintro e w5 ⟨rfl, b5⟩
  have hb5 : Below W2.heap.size W2 w5 := hB4.trans (b5.mono hB4.size)
  go_simp
  refine hK _ _ ⟨HK.out _ hb5, ?_⟩
  clear hK K hS
  have hS := HK.out _ hb5
  refine wpAnyH_all (rs := [3]) (by kernel_rfl) (by simp) (fun i2 hi2 => ?_)
  obtain rfl : i2 = 3 := by simpa using hi2
  clear hi2
  refine wpOp_step rfl (fun K hK => ite_yes rfl ?_)
  simp only [List.getElem_toArray, List.getElem_cons_zero, List.getElem_cons_succ]
  go_simp
  refine (HT.out _).mono ?_
  rintro e w6 ⟨rfl, b6⟩
  have hb6 : Below W2.heap.size W2 w6 := hb5.trans (b6.mono hb5.size)
  go_simp
  refine hK _ _ ⟨HK.out _ hb6, ?_⟩
  clear hK K hS
  have hS := HK.out _ hb6
  refine wpAnyH_take (i := 4) (v := .bool false) rfl (by kernel_rfl) (by kernel_rfl) (by kernel_rfl) (fun _ _ _ h => h) (Or.inl ⟨by rfl, ?r⟩) hS ?_
  case r => intro W hW; simp [go_sem, execOp, Act.eval]
  simp only [List.getElem_toArray, List.getElem_cons_zero, List.getElem_cons_succ, Act.put, List.setIfInBounds_toArray, List.set_cons_succ, List.set_cons_zero]
  refine wpAnyH_done (by kernel_rfl) ?_ _
  refine NoPanic.normal ?_
  try simp only [Act.put]
  have d6 := hS.1
  have z6 : w.heap.size < w6.heap.size := by have := hb6.size; omega
  go_wp2_with fail
  refine (behind_2 w.heap.size _ (d6 0) z6).mono ?_
  rintro r w7 ⟨rfl, b7⟩
  have hb7 : Below W2.heap.size W2 w7 := hb6.trans (b7.mono hb6.size)
  have d7 := (HK.out _ hb7).1
  clear d6
  go_wp2_with fail
  clear hS
  refine wp_region_noPanic ?_
  refine wp_region_held (S := fun W => (∀ j, W.cell? ⟨w.heap.size, j, none⟩ = (#[.int .i64 2, .string ⟨#[105, 110, 116]⟩, .int .i64 5, .int .u64 0, .string ⟨#[]⟩, .int .i64 0, .int .i64 0, .int .i64 0, .int .i64 0, .slice none 0 0, .slice none 0 0] : Array Value)[j]?) ∧ (∀ j, W.cell? ⟨w.heap.size + 1, j, none⟩ = (#[.int .i64 2, .string ⟨#[105, 110, 116]⟩, .int .i64 5, .int .u64 0, .string ⟨#[]⟩, .int .i64 0, .int .i64 0, .int .i64 0, .int .i64 0, .slice none 0 0, .slice none 0 0] : Array Value)[j]?)) (by kernel_rfl) ?_
  obtain ⟨W8, hW8⟩ : ∃ W8, W8 = w7.drew := ⟨_, rfl⟩
  have e8 : ({ w7 with drawn := w7.drawn + 1 } : World) = W8 := hW8.symm
  rw [e8]
  have hB8 : Below W2.heap.size W2 W8 := by rw [hW8]; exact hb7.trans ((Below.refl _ _).drew)
  have hS := HK.out W8 hB8
  clear e8 hW8
  refine wpAnyH_take (i := 0) (v := .agg #[.int .i64 2, .string ⟨#[105, 110, 116]⟩, .int .i64 5, .int .u64 0, .string ⟨#[]⟩, .int .i64 0, .int .i64 0, .int .i64 0, .int .i64 0, .slice none 0 0, .slice none 0 0]) rfl (by kernel_rfl) (by kernel_rfl) (by kernel_rfl) (fun _ _ _ h => h) (Or.inl ⟨by rfl, ?r⟩) hS ?_
  case r => intro W hW; simp [go_sem, execOp, Act.eval, hW.1]
  simp only [List.getElem_toArray, List.getElem_cons_zero, Act.put, List.setIfInBounds_toArray, List.set_cons_succ, List.set_cons_zero]
  refine wpAnyH_take (i := 2) (v := .agg #[.int .i64 2, .string ⟨#[105, 110, 116]⟩, .int .i64 5, .int .u64 0, .string ⟨#[]⟩, .int .i64 0, .int .i64 0, .int .i64 0, .int .i64 0, .slice none 0 0, .slice none 0 0]) rfl (by kernel_rfl) (by kernel_rfl) (by kernel_rfl) (fun _ _ _ h => h) (Or.inl ⟨by rfl, ?r⟩) hS ?_
  case r => intro W hW; simp [go_sem, execOp, Act.eval, hW.2]
  simp only [List.getElem_toArray, List.getElem_cons_zero, List.getElem_cons_succ, Act.put, List.setIfInBounds_toArray, List.set_cons_succ, List.set_cons_zero]
  refine wpAnyH_all (rs := [1]) (by kernel_rfl) (by simp) (fun i2 hi2 => ?_)
  obtain rfl : i2 = 1 := by simpa using hi2
  clear hi2
  refine wpOp_step rfl (fun K hK => ite_yes rfl ?_)
  simp only [List.getElem_toArray, List.getElem_cons_zero, List.getElem_cons_succ]
  go_simp
  refine (HC.out _).mono ?_
  rintro e w9 ⟨rfl, b9⟩
  have hb9 : Below W2.heap.size W2 w9 := hB8.trans (b9.mono hB8.size)
  go_simp
  refine hK _ _ ⟨HK.out _ hb9, ?_⟩
  clear hK K hS
  have hS := HK.out _ hb9
  refine wpAnyH_all (rs := [3]) (by kernel_rfl) (by simp) (fun i2 hi2 => ?_)
  obtain rfl : i2 = 3 := by simpa using hi2
  clear hi2
  refine wpOp_step rfl (fun K hK => ite_yes rfl ?_)
  simp only [List.getElem_toArray, List.getElem_cons_zero, List.getElem_cons_succ]
  go_simp
  refine (HC.out _).mono ?_
  rintro e w10 ⟨rfl, b10⟩
  have hb10 : Below W2.heap.size W2 w10 := hb9.trans (b10.mono hb9.size)
  go_simp
  refine hK _ _ ⟨HK.out _ hb10, ?_⟩
  clear hK K hS
  have hS := HK.out _ hb10
  refine wpAnyH_take (i := 4) (v := .bool true) rfl (by kernel_rfl) (by kernel_rfl) (by kernel_rfl) (fun _ _ _ h => h) (Or.inl ⟨by rfl, ?r⟩) hS ?_
  case r => intro W hW; simp [execOp, Act.eval, core5, core5g]
  simp only [List.getElem_toArray, List.getElem_cons_zero, List.getElem_cons_succ, Act.put, List.setIfInBounds_toArray, List.set_cons_succ, List.set_cons_zero]
  refine wpAnyH_take (i := 5) (v := .bool true) rfl (by kernel_rfl) (by kernel_rfl) (by kernel_rfl) (fun _ _ _ h => h) (Or.inl ⟨by rfl, ?r⟩) hS ?_
  case r => intro W hW; simp [go_sem, execOp, Act.eval]
  simp only [List.getElem_toArray, List.getElem_cons_zero, List.getElem_cons_succ, Act.put, List.setIfInBounds_toArray, List.set_cons_succ, List.set_cons_zero]
  refine wpAnyH_take (i := 6) (v := .string ⟨#[]⟩) rfl (by kernel_rfl) (by kernel_rfl) (by kernel_rfl) (fun _ _ _ h => h) (Or.inl ⟨by rfl, ?r⟩) hS ?_
  case r => intro W hW; simp [go_sem, execOp, Act.eval]
  simp only [List.getElem_toArray, List.getElem_cons_zero, List.getElem_cons_succ, Act.put, List.setIfInBounds_toArray, List.set_cons_succ, List.set_cons_zero]
  refine wpAnyH_done (by kernel_rfl) ?_ _
  refine NoPanic.normal ?_
  try simp only [Act.put]
  go_wp2_with fail
  refine bodyPost_ret (v := .tuple #[.bool true, .string ⟨#[]⟩]) (by simp [results, Tryd.results24, go_sem]) rfl ⟨rfl, ?_⟩
  exact hB2.trans (hb10.mono (by omega))
end Go.Proofs.YtnhbpcmiolkllabDoor
namespace Go.Proofs.YtnhbpcmiolkllabDoor
open Go.RowKit
attribute [local go_sem] refold2 cell3_0 cell3_1 b28_0 b28_01

theorem Right_5 (W : World) (h : NamesAt W) : Calls Tryd.prog 8 #[dat 2 ⟨#[105, 110, 116]⟩ 5 0 ⟨#[]⟩] W fun r w' => r = .returned (.bool true) ∧ Below W.heap.size W w' := by
  have hq : ((⟨#[105, 110, 116]⟩ : ByteArray).toList == [105, 110, 116] || declB ⟨#[105, 110, 116]⟩) = true := by rw [show ((⟨#[105, 110, 116]⟩ : ByteArray).toList == [105, 110, 116]) = true by rw [Lib.toList_data]; rfl]; rfl
  have h2 := Right_int ⟨#[105, 110, 116]⟩ 5 W h
  rw [hq] at h2
  exact h2

set_option maxRecDepth 100000 in
set_option maxHeartbeats 2000000 in
theorem Equal_5 (w : World) (hN : NamesAt w) :
    Calls Tryd.prog 10 #[dat 2 ⟨#[105, 110, 116]⟩ 5 0 ⟨#[]⟩, dat 2 ⟨#[105, 110, 116]⟩ 5 0 ⟨#[]⟩] w fun r w' => r = .returned (.tuple #[.bool true, .nilIface]) ∧ Below w.heap.size w w' := by
  have HR : Hid (∀ W, NamesAt W → Calls Tryd.prog 8 #[dat 2 ⟨#[105, 110, 116]⟩ 5 0 ⟨#[]⟩] W fun r w' => r = .returned (.bool true) ∧ Below W.heap.size W w') := Right_5
  have HE : Hid (∀ W, Calls Tryd.prog 24 #[dat 2 ⟨#[105, 110, 116]⟩ 5 0 ⟨#[]⟩, dat 2 ⟨#[105, 110, 116]⟩ 5 0 ⟨#[]⟩] W fun r w' => r = .returned (.tuple #[.bool true, .string ⟨#[]⟩]) ∧ Below W.heap.size W w') := equal_5
  simp only [dat, D] at HR HE ⊢
  go_enter Tryd.func10, Tryd.ntmps10
  go_wp2_with fail
  refine (HR.out _ (hN.kept (below2 _ _ _))).mono ?_
  rintro r w1 ⟨rfl, b1⟩
  obtain ⟨e1, d1⟩ := two_kept _ _ _ _ b1
  have q1 : Below w.heap.size w w1 := (below2 _ _ _).trans (b1.mono (by simp; omega))
  go_wp2_with fail
  refine (HR.out _ (hN.kept q1)).mono ?_
  rintro r w2 ⟨rfl, b2⟩
  have c2 := b1.trans (b2.mono b1.size)
  obtain ⟨e2, d2⟩ := two_kept _ _ _ _ c2
  have q2 := q1.trans (b2.mono q1.size)
  clear e1 d1
  go_wp2_with fail
  refine (HE.out _).mono ?_
  rintro r w3 ⟨rfl, b3⟩
  have q3 := q2.trans (b3.mono q2.size)
  clear e2 d2
  go_wp2_with fail
  refine bodyPost_ret (v := .tuple #[.bool true, .nilIface]) (by simp [results, Tryd.results10, go_sem]) rfl ⟨rfl, q3⟩

set_option maxRecDepth 100000 in
set_option maxHeartbeats 2000000 in
theorem incomparable_5 (w : World) : Calls Tryd.prog 26 #[dat 2 ⟨#[105, 110, 116]⟩ 5 0 ⟨#[]⟩] w fun r w' => r = .returned (.string ⟨#[]⟩) ∧ Below w.heap.size w w' := by
  have HE : Hid (∀ W, Calls Tryd.prog 24 #[dat 2 ⟨#[105, 110, 116]⟩ 5 0 ⟨#[]⟩, dat 2 ⟨#[105, 110, 116]⟩ 5 0 ⟨#[]⟩] W fun r w' => r = .returned (.tuple #[.bool true, .string ⟨#[]⟩]) ∧ Below W.heap.size W w') := equal_5
  simp only [dat, D] at HE ⊢
  go_enter Tryd.func26, Tryd.ntmps26
  go_wp2_with (go_at_call 24; refine (HE.out _).mono ?_; rintro r w' ⟨rfl, hb⟩)
  go_ret
  exact ⟨rfl, (below1 _ _).trans (hb.mono (by simp))⟩

set_option maxRecDepth 100000 in
set_option maxHeartbeats 2000000 in
theorem Key_5 (w : World) (hN : NamesAt w) :
    Calls Tryd.prog 11 #[dat 2 ⟨#[105, 110, 116]⟩ 5 0 ⟨#[]⟩] w fun r w' => r = .returned .nilIface ∧ Below w.heap.size w w' := by
  have HR : Hid (∀ W, NamesAt W → Calls Tryd.prog 8 #[dat 2 ⟨#[105, 110, 116]⟩ 5 0 ⟨#[]⟩] W fun r w' => r = .returned (.bool true) ∧ Below W.heap.size W w') := Right_5
  have HI : Hid (∀ W, Calls Tryd.prog 26 #[dat 2 ⟨#[105, 110, 116]⟩ 5 0 ⟨#[]⟩] W fun r w' => r = .returned (.string ⟨#[]⟩) ∧ Below W.heap.size W w') := incomparable_5
  simp only [dat, D] at HR HI ⊢
  go_enter Tryd.func11, Tryd.ntmps11
  go_wp2_with fail
  refine (HR.out _ (hN.kept (below1 _ _))).mono ?_
  rintro r w1 ⟨rfl, b1⟩
  have e1 := one_kept _ _ _ b1
  have q1 : Below w.heap.size w w1 := (below1 _ _).trans (b1.mono (by simp))
  go_wp2_with fail
  refine (HI.out _).mono ?_
  rintro r w2 ⟨rfl, b2⟩
  have q2 := q1.trans (b2.mono q1.size)
  clear e1
  go_wp2_with fail
  go_ret
  exact ⟨rfl, q2⟩

end Go.Proofs.YtnhbpcmiolkllabDoor
namespace Go.Proofs.YtnhbpcmiolkllabDoor
open Go.RowKit
attribute [local go_sem] refold2 cell3_0 cell3_1 b28_0 b28_01

set_option maxRecDepth 100000 in
set_option maxHeartbeats 2000000 in
theorem Hash_5 (w : World) (hN : NamesAt w) :
    Calls Tryd.prog 13 #[dat 2 ⟨#[105, 110, 116]⟩ 5 0 ⟨#[]⟩] w fun r w' => r = .returned (.tuple #[.int .u64 (hash5 14695981039346656037), .nilIface]) ∧ Below w.heap.size w w' := by
  have HKy : Hid (∀ W, NamesAt W → Calls Tryd.prog 11 #[dat 2 ⟨#[105, 110, 116]⟩ 5 0 ⟨#[]⟩] W fun r w' => r = .returned .nilIface ∧ Below W.heap.size W w') := Key_5
  have HH : Hid (∀ W, Calls Tryd.prog 29 #[dat 2 ⟨#[105, 110, 116]⟩ 5 0 ⟨#[]⟩] W fun r w' => r = .returned (.int .u64 (hash5 14695981039346656037)) ∧ Below W.heap.size W w') := hashed_5
  generalize hash5 14695981039346656037 = hv at HH ⊢
  simp only [dat, D] at HKy HH ⊢
  go_enter Tryd.func13, Tryd.ntmps13
  go_wp2_with fail
  refine (HKy.out _ (hN.kept (below1 _ _))).mono ?_
  rintro r w1 ⟨rfl, b1⟩
  have e1 := one_kept _ _ _ b1
  have q1 : Below w.heap.size w w1 := (below1 _ _).trans (b1.mono (by simp))
  go_wp2_with (go_at_call 29; refine (HH.out _).mono ?_; rintro r w2 ⟨rfl, b2⟩)
  refine bodyPost_ret (v := .tuple #[.int .u64 hv, .nilIface]) (by simp [results, Tryd.results13, go_sem]) rfl ⟨rfl, q1.trans (b2.mono q1.size)⟩

theorem ta97 (v : Value) (W : World) : (Instr.typeAssert (.iface 97 v) 36 97 true).run Tryd.prog W = .ok (.tuple #[v, .bool true]) W := by
  simp [Instr.typeAssert, go_sem]
set_option maxRecDepth 100000 in
set_option maxHeartbeats 2000000 in
theorem told_hit (n : Nat) (word more : ByteArray) (w : World) (hn : w.heap[n]? = some (.cells #[.string word, .string more] 64 (0, 0))) (hne : word.size ≠ 0) :
    Calls Tryd.prog 19 #[.iface 97 (.pointer (some ⟨n, 0, none⟩)), .agg #[.string word, .string more]] w fun r w' => r = .returned (.bool true) ∧ Below w.heap.size w w' := by
  have hc0 : w.cell? ⟨n, 0, none⟩ = some (.string word) := by simp [World.cell?, hn]
  have hc1 : w.cell? ⟨n, 1, none⟩ = some (.string more) := by simp [World.cell?, hn]
  have hb : n < w.heap.size := (Array.getElem?_eq_some_iff.1 hn).1
  have hta := ta97
  have he := ne_empty hne
  clear hn hne
  go_enter Tryd.func19, Tryd.ntmps19
  go_wp2
  go_region
  go_wp2
  go_ret
  exact ⟨rfl, (below1 _ _).drew⟩

set_option maxRecDepth 100000 in
set_option maxHeartbeats 2000000 in
theorem whole_any (n : Int) (w : World) : Calls Tryd.prog 18 #[.int .i64 n] w fun r w' => r = .returned (dat 2 ⟨#[105, 110, 116]⟩ n 0 ⟨#[]⟩) ∧ Below w.heap.size w w' := by
  have hb := b28_012
  go_enter Tryd.func18, Tryd.ntmps18
  go_wp2
  refine bodyPost_ret (v := dat 2 ⟨#[105, 110, 116]⟩ n 0 ⟨#[]⟩) (by simp [results, Tryd.results18, go_sem, dat, D]) rfl ⟨rfl, below1 _ _⟩
end Go.Proofs.YtnhbpcmiolkllabDoor
namespace Go.Proofs.YtnhbpcmiolkllabDoor
open Go.RowKit
theorem taO (v : Value) (W : World) : (Instr.typeAssert (.iface 122 v) 49 58 true).run Tryd.prog W = .ok (.tuple #[.iface 122 v, .bool true]) W := run_typeAssert_hasB Tryd.underlying58 (by kernel_rfl) v 49 W
theorem tk (x : Value) (h1 : 90 < Tryd.prog.types.size) (h2 : 94 < Tryd.prog.types.size) : List.take (Tryd.prog.types[90]'h1).size (List.take (Tryd.prog.types[94]'h2).size [x]) = [x] := by kernel_rfl
theorem naR (b : Nat) (W : World) : (nilAhead 253 122 (.agg #[.pointer (some ⟨b, 0, none⟩)]) "Rank").run Tryd.prog W = .ok (some false) W := by kernel_rfl
attribute [local go_sem] refold2 cell3_0 cell3_1 b28_0 b28_01 taO tk naR

theorem decl_F : (((⟨#[70]⟩ : ByteArray)).toList == [102, 117, 110, 99] || declB ⟨#[70]⟩) = true := by
  have h : takenB ⟨#[70]⟩ = false := by unfold takenB; rw [Lib.toList_data]; rfl
  have h2 : declB ⟨#[70]⟩ = true := by unfold declB; rw [h]; rfl
  rw [h2, Bool.or_true]
theorem own_list : (((⟨#[108, 105, 115, 116]⟩ : ByteArray)).toList == [108, 105, 115, 116] || declB ⟨#[108, 105, 115, 116]⟩) = true := by
  rw [show (((⟨#[108, 105, 115, 116]⟩ : ByteArray)).toList == [108, 105, 115, 116]) = true by rw [Lib.toList_data]; rfl]; rfl

set_option maxRecDepth 100000 in
set_option maxHeartbeats 4000000 in
theorem known_any (w : World) (hN : NamesAt w) : Calls Tryd.prog 6 #[] w fun r w' => r = .returned (.bool true) ∧ Below w.heap.size w w' := by
  have hq : ((⟨#[105, 110, 116]⟩ : ByteArray).toList == [105, 110, 116] || declB ⟨#[105, 110, 116]⟩) = true := by rw [show ((⟨#[105, 110, 116]⟩ : ByteArray).toList == [105, 110, 116]) = true by rw [Lib.toList_data]; rfl]; rfl
  have HW : Hid (∀ (n : Int) (W : World), Calls Tryd.prog 18 #[.int .i64 n] W fun r w' => r = .returned (dat 2 ⟨#[105, 110, 116]⟩ n 0 ⟨#[]⟩) ∧ Below W.heap.size W w') := whole_any
  have HO := Of_int ⟨#[105, 110, 116]⟩ 5
  go_enter Tryd.func6, Tryd.ntmps6
  go_wp2_with fail
  refine (HW.out _ _).mono ?_
  rintro r w1 ⟨rfl, b1⟩
  have N1 := hN.kept b1
  go_wp2_with fail
  refine (HO _ N1 (by decide) hq).mono ?_
  rintro r w2 ⟨b, rfl, hb2, hr2, b2⟩
  have q2 := b1.trans (b2.mono b1.size)
  have hbl : b < w2.heap.size := row_ltT hr2
  go_wp2_with fail
  refine (type_any b 2 ⟨#[105, 110, 116]⟩ 5 0 ⟨#[]⟩ 0 0 0 0 (.slice none 0 0) (.slice none 0 0) w2 (by decide) hr2).mono ?_
  rintro r w3 ⟨rfl, b3⟩
  have q3 := q2.trans (b3.mono q2.size)
  have N3 := hN.kept q3
  have hr3 := (b3.block b hbl).trans hr2
  have hnm : nm 2 ⟨#[105, 110, 116]⟩ = ⟨#[105, 110, 116]⟩ := rfl
  rw [hnm]
  clear hr2 b1 b2 N1
  go_wp2_with fail
  refine wp_region_noPanic ?_
  refine wp_region_held (S := fun W => Below w.heap.size w W ∧ W.heap[b]? = some (.cells #[.int .i64 2, .string ⟨#[105, 110, 116]⟩, .int .i64 5, .int .u64 0, .string ⟨#[]⟩, .int .i64 0, .int .i64 0, .int .i64 0, .int .i64 0, .slice none 0 0, .slice none 0 0] 32 (0, 0))) (by kernel_rfl) ?_
  obtain ⟨W4, hW4⟩ : ∃ W4, W4 = w3.drew := ⟨_, rfl⟩
  have e4 : ({ w3 with drawn := w3.drawn + 1 } : World) = W4 := hW4.symm
  rw [e4]
  have hS : Below w.heap.size w W4 ∧ W4.heap[b]? = some (.cells #[.int .i64 2, .string ⟨#[105, 110, 116]⟩, .int .i64 5, .int .u64 0, .string ⟨#[]⟩, .int .i64 0, .int .i64 0, .int .i64 0, .int .i64 0, .slice none 0 0, .slice none 0 0] 32 (0, 0)) := by rw [hW4]; exact ⟨q3.drew, hr3⟩
  clear e4 hW4 N3 hr3 q3 b3
  refine wpAnyH_take (i := 0) (v := .iface 122 (.agg #[.pointer (some ⟨b, 0, none⟩)])) rfl (by kernel_rfl) (by kernel_rfl) (by kernel_rfl) (fun _ _ _ h => h) (Or.inl ⟨by rfl, ?r⟩) hS ?_
  case r => intro W hW; simp [go_sem, execOp, Act.eval]
  simp only [List.getElem_toArray, List.getElem_cons_zero, Act.put, List.setIfInBounds_toArray, List.set_cons_succ, List.set_cons_zero]
  refine wpAnyH_take (i := 2) (v := .func (.method "Rank") #[.iface 122 (.agg #[.pointer (some ⟨b, 0, none⟩)])] #[]) rfl (by kernel_rfl) (by kernel_rfl) (by kernel_rfl) (fun _ _ _ h => h) (Or.inl ⟨by rfl, ?r⟩) hS ?_
  case r => intro W hW; simp [go_sem, execOp, Act.eval]
  simp only [List.getElem_toArray, List.getElem_cons_zero, List.getElem_cons_succ, Act.put, List.setIfInBounds_toArray, List.set_cons_succ, List.set_cons_zero]
  refine wpAnyH_take (i := 3) (v := .func (.method "Rank") #[.iface 122 (.agg #[.pointer (some ⟨b, 0, none⟩)])] #[]) rfl (by kernel_rfl) (by kernel_rfl) (by kernel_rfl) (fun _ _ _ h => h) (Or.inl ⟨by rfl, ?r⟩) hS ?_
  case r => intro W hW; simp [go_sem, execOp, Act.eval]
  simp only [List.getElem_toArray, List.getElem_cons_zero, List.getElem_cons_succ, Act.put, List.setIfInBounds_toArray, List.set_cons_succ, List.set_cons_zero]
  refine wpAnyH_take (i := 4) (v := .iface 122 (.agg #[.pointer (some ⟨b, 0, none⟩)])) rfl (by kernel_rfl) (by kernel_rfl) (by kernel_rfl) (fun _ _ _ h => h) (Or.inl ⟨by rfl, ?r⟩) hS ?_
  case r => intro W hW; simp [go_sem, execOp, Act.eval]
  simp only [List.getElem_toArray, List.getElem_cons_zero, List.getElem_cons_succ, Act.put, List.setIfInBounds_toArray, List.set_cons_succ, List.set_cons_zero]
  refine wpAnyH_all (rs := [1]) (by kernel_rfl) (by simp) (fun i2 hi2 => ?_)
  obtain rfl : i2 = 1 := by simpa using hi2
  clear hi2
  refine wpOp_step rfl (fun K hK => ite_yes rfl ?_)
  simp only [List.getElem_toArray, List.getElem_cons_zero, List.getElem_cons_succ]
  go_simp
  refine (HW.out _ _).mono ?_
  rintro e w5 ⟨rfl, b5⟩
  go_simp
  have hS5 : Below w.heap.size w w5 ∧ w5.heap[b]? = some (.cells #[.int .i64 2, .string ⟨#[105, 110, 116]⟩, .int .i64 5, .int .u64 0, .string ⟨#[]⟩, .int .i64 0, .int .i64 0, .int .i64 0, .int .i64 0, .slice none 0 0, .slice none 0 0] 32 (0, 0)) := ⟨hS.1.trans (b5.mono hS.1.size), (b5.block b (row_ltT hS.2)).trans hS.2⟩
  refine hK _ _ ⟨hS5, ?_⟩
  clear hK K hS
  refine wpAnyH_all (rs := [5]) (by kernel_rfl) (by simp) (fun i2 hi2 => ?_)
  obtain rfl : i2 = 5 := by simpa using hi2
  clear hi2
  refine wpOp_step rfl (fun K hK => ite_yes rfl ?_)
  simp only [List.getElem_toArray, List.getElem_cons_zero, List.getElem_cons_succ]
  go_simp
  go_invoke
  go_simp
  refine (Rank_int b ⟨#[105, 110, 116]⟩ 5 7 w5 (hN.kept hS5.1) hS5.2 hq).mono ?_
  rintro e w6 ⟨rfl, b6⟩
  rw [show rankI 5 7 = -1 from rfl]
  go_simp
  have hS : Below w.heap.size w w6 ∧ w6.heap[b]? = some (.cells #[.int .i64 2, .string ⟨#[105, 110, 116]⟩, .int .i64 5, .int .u64 0, .string ⟨#[]⟩, .int .i64 0, .int .i64 0, .int .i64 0, .int .i64 0, .slice none 0 0, .slice none 0 0] 32 (0, 0)) := ⟨hS5.1.trans (b6.mono hS5.1.size), (b6.block b (row_ltT hS5.2)).trans hS5.2⟩
  refine hK _ _ ⟨hS, ?_⟩
  clear hK K hS5
  refine wpAnyH_take (i := 6) (v := .tuple #[.int .i64 (-1), .bool true]) rfl (by kernel_rfl) (by kernel_rfl) (by kernel_rfl) (fun _ _ _ h => h) (Or.inl ⟨by rfl, ?r⟩) hS ?_
  case r => intro W hW; simp [go_sem, execOp, Act.eval]
  simp only [List.getElem_toArray, List.getElem_cons_zero, List.getElem_cons_succ, Act.put, List.setIfInBounds_toArray, List.set_cons_succ, List.set_cons_zero]
  refine wpAnyH_take (i := 7) (v := .int .i64 (-1)) rfl (by kernel_rfl) (by kernel_rfl) (by kernel_rfl) (fun _ _ _ h => h) (Or.inl ⟨by rfl, ?r⟩) hS ?_
  case r => intro W hW; simp [go_sem, execOp, Act.eval]
  simp only [List.getElem_toArray, List.getElem_cons_zero, List.getElem_cons_succ, Act.put, List.setIfInBounds_toArray, List.set_cons_succ, List.set_cons_zero]
  refine wpAnyH_take (i := 8) (v := .bool true) rfl (by kernel_rfl) (by kernel_rfl) (by kernel_rfl) (fun _ _ _ h => h) (Or.inl ⟨by rfl, ?r⟩) hS ?_
  case r => intro W hW; simp [go_sem, execOp, Act.eval]
  simp only [List.getElem_toArray, List.getElem_cons_zero, List.getElem_cons_succ, Act.put, List.setIfInBounds_toArray, List.set_cons_succ, List.set_cons_zero]
  refine wpAnyH_take (i := 9) (v := .int .i64 (-1)) rfl (by kernel_rfl) (by kernel_rfl) (by kernel_rfl) (fun _ _ _ h => h) (Or.inl ⟨by rfl, ?r⟩) hS ?_
  case r => intro W hW; simp [go_sem, execOp, Act.eval]
  simp only [List.getElem_toArray, List.getElem_cons_zero, List.getElem_cons_succ, Act.put, List.setIfInBounds_toArray, List.set_cons_succ, List.set_cons_zero]
  refine wpAnyH_take (i := 10) (v := .bool true) rfl (by kernel_rfl) (by kernel_rfl) (by kernel_rfl) (fun _ _ _ h => h) (Or.inl ⟨by rfl, ?r⟩) hS ?_
  case r => intro W hW; simp [go_sem, execOp, Act.eval]
  simp only [List.getElem_toArray, List.getElem_cons_zero, List.getElem_cons_succ, Act.put, List.setIfInBounds_toArray, List.set_cons_succ, List.set_cons_zero]
  refine wpAnyH_done (by kernel_rfl) ?_ _
  refine NoPanic.normal ?_
  try simp only [Act.put]
  have q6 := hS.1
  have N6 := hN.kept q6
  clear hS b5 b6
  go_wp2_with fail
  refine (HW.out _ _).mono ?_
  rintro r w7 ⟨rfl, b7⟩
  have q7 := q6.trans (b7.mono q6.size)
  go_wp2_with fail
  refine (HW.out _ _).mono ?_
  rintro r w8 ⟨rfl, b8⟩
  have q8 := q7.trans (b8.mono q7.size)
  go_wp2_with fail
  refine (Equal_5 _ (hN.kept q8)).mono ?_
  rintro r w9 ⟨rfl, b9⟩
  have q9 := q8.trans (b9.mono q8.size)
  go_wp2_with fail
  refine (Equal_list ⟨#[108, 105, 115, 116]⟩ _ (hN.kept q9) (by decide) (by decide) own_list).mono ?_
  rintro r w10 ⟨n1, rfl, hn1, hr1, b10⟩
  have q10 := q9.trans (b10.mono q9.size)
  go_wp2_with fail
  refine (Key_func ⟨#[70]⟩ _ (hN.kept q10) (by decide) (by decide) decl_F).mono ?_
  rintro r w11 ⟨n2, rfl, hn2, hr2, b11⟩
  have q11 := q10.trans (b11.mono q10.size)
  go_wp2_with fail
  refine (HW.out _ _).mono ?_
  rintro r w12 ⟨rfl, b12⟩
  have q12 := q11.trans (b12.mono q11.size)
  go_wp2_with fail
  refine (Hash_5 _ (hN.kept q12)).mono ?_
  rintro r w13 ⟨rfl, b13⟩
  have q13 := q12.trans (b13.mono q12.size)
  go_wp2_with fail
  refine (HW.out _ _).mono ?_
  rintro r w14 ⟨rfl, b14⟩
  have q14 := q13.trans (b14.mono q13.size)
  go_wp2_with fail
  refine (Hash_5 _ (hN.kept q14)).mono ?_
  rintro r w15 ⟨rfl, b15⟩
  have q15 := q14.trans (b15.mono q14.size)
  go_wp2_with fail
  have c12 := b11.trans (b12.mono b11.size)
  have c13 := c12.trans (b13.mono c12.size)
  have c14 := c13.trans (b14.mono c13.size)
  have c15 := c14.trans (b15.mono c14.size)
  have d13 := b12.trans (b13.mono b12.size)
  have d14 := d13.trans (b14.mono d13.size)
  have d15 := d14.trans (b15.mono d14.size)
  refine (told_hit n1 _ _ _ ((c15.block _ (row_ltT hr1)).trans hr1) (by decide)).mono ?_
  rintro r w16 ⟨rfl, b16⟩
  have q16 := q15.trans (b16.mono q15.size)
  have d16 := d15.trans (b16.mono d15.size)
  go_wp2_with fail
  refine (told_hit n2 _ _ _ ((d16.block _ (row_ltT hr2)).trans hr2) (by decide)).mono ?_
  rintro r w17 ⟨rfl, b17⟩
  have q17 := q16.trans (b17.mono q16.size)
  clear c12 c13 c14 c15 d13 d14 d15 d16 hr1 hr2 hn1 hn2 b7 b8 b9 b10 b11 b12 b13 b14 b15 b16 b17 q7 q8 q9 q10 q11 q12 q13 q14 q15 q16
  generalize hash5 14695981039346656037 = hv
  go_wp2_with fail
  refine (Right_nil _ (hN.kept q17)).mono ?_
  rintro r w18 ⟨rfl, b18⟩
  have q18 := q17.trans (b18.mono q17.size)
  clear b18 q17
  go_wp2_with fail
  refine (HW.out _ _).mono ?_
  rintro r w19 ⟨rfl, b19⟩
  have q19 := q18.trans (b19.mono q18.size)
  clear b19 q18
  go_wp2_with fail
  refine (HW.out _ _).mono ?_
  rintro r w20 ⟨rfl, b20⟩
  have q20 := q19.trans (b20.mono q19.size)
  clear b20 q19
  go_wp2_with fail
  refine (Same_yes ⟨#[105, 110, 116]⟩ 5 _).mono ?_
  rintro r w21 ⟨rfl, b21⟩
  have q21 := q20.trans (b21.mono q20.size)
  clear b21 q20
  go_wp2_with fail
  refine (HW.out _ _).mono ?_
  rintro r w22 ⟨rfl, b22⟩
  have q22 := q21.trans (b22.mono q21.size)
  clear b22 q21
  go_wp2_with fail
  refine (HW.out _ _).mono ?_
  rintro r w23 ⟨rfl, b23⟩
  have q23 := q22.trans (b23.mono q22.size)
  clear b23 q22
  go_wp2_with fail
  refine (Same_no ⟨#[105, 110, 116]⟩ 5 6 _ rfl).mono ?_
  rintro r w24 ⟨rfl, b24⟩
  have q24 := q23.trans (b24.mono q23.size)
  clear b24 q23
  go_wp2_with fail
  go_ret
  exact ⟨rfl, q24⟩
end Go.Proofs.YtnhbpcmiolkllabDoor
