/-
  equal, where there is nothing to be said of two.
-/
import Derived.Test.YtnhbpcmiolkllabDoorI
import Derived.Stop.Asserts
namespace Go.Proofs.YtnhbpcmiolkllabDoor
open Go.RowKit
attribute [local go_sem] refold2 cell3_0 cell3_1 b28_0 b28_01

set_option maxHeartbeats 2000000 in
theorem fault_any (x y : ByteArray) (w : World) :
    Calls Tryd.prog 25 #[.string x, .string y] w fun r w' => r = .returned (.iface 97 (.pointer (some ⟨w.heap.size, 0, none⟩))) ∧ w' = w.alloc (.cells #[.string x, .string y] 64) := by
  go_enter Tryd.func25, Tryd.ntmps25
  go_wp2
  go_ret
  exact ⟨rfl, rfl⟩
theorem taE5r (v : Value) (w : World) : (Instr.typeAssert (.iface 126 v) 49 92 true).run Tryd.prog w = .ok (.tuple #[.agg #[.pointer none], .bool false]) w := by kernel_rfl
theorem taE5f (v : Value) (w : World) : (Instr.typeAssert (.iface 126 v) 49 111 true).run Tryd.prog w = .ok (.tuple #[.agg #[.pointer none], .bool false]) w := by kernel_rfl
theorem taE5k (v : Value) (w : World) : (Instr.typeAssert (.iface 126 v) 49 113 true).run Tryd.prog w = .ok (.tuple #[.nilIface, .bool false]) w := run_typeAssert_lacksB Tryd.underlying113 (by kernel_rfl) (by kernel_rfl) v 49 w
theorem taE6r (v : Value) (w : World) : (Instr.typeAssert (.iface 127 v) 49 92 true).run Tryd.prog w = .ok (.tuple #[.agg #[.pointer none], .bool false]) w := by kernel_rfl
theorem taE6f (v : Value) (w : World) : (Instr.typeAssert (.iface 127 v) 49 111 true).run Tryd.prog w = .ok (.tuple #[.agg #[.pointer none], .bool false]) w := by kernel_rfl
theorem taE6k (v : Value) (w : World) : (Instr.typeAssert (.iface 127 v) 49 113 true).run Tryd.prog w = .ok (.tuple #[.nilIface, .bool false]) w := run_typeAssert_lacksB Tryd.underlying113 (by kernel_rfl) (by kernel_rfl) v 49 w
theorem taE7r (v : Value) (w : World) : (Instr.typeAssert (.iface 128 v) 49 92 true).run Tryd.prog w = .ok (.tuple #[.agg #[.pointer none], .bool false]) w := by kernel_rfl
theorem taE7f (v : Value) (w : World) : (Instr.typeAssert (.iface 128 v) 49 111 true).run Tryd.prog w = .ok (.tuple #[.agg #[.pointer none], .bool false]) w := by kernel_rfl
theorem taE7k (v : Value) (w : World) : (Instr.typeAssert (.iface 128 v) 49 113 true).run Tryd.prog w = .ok (.tuple #[.nilIface, .bool false]) w := run_typeAssert_lacksB Tryd.underlying113 (by kernel_rfl) (by kernel_rfl) v 49 w
attribute [local go_sem] taE5r taE5f taE5k taE6r taE6f taE6k taE7r taE7f taE7k

set_option maxRecDepth 100000 in
set_option maxHeartbeats 4000000 in
theorem equal_list (t : ByteArray) (w : World) (ht : t.size ≤ 140737488351232) :
    Calls Tryd.prog 24 #[dat 5 t 0 0 ⟨#[]⟩, dat 5 t 0 0 ⟨#[]⟩] w fun r w' => r = .returned (.tuple #[.bool false, .string t]) ∧ Below w.heap.size w w' := by
  have HN : Hid (∀ W, Calls Tryd.prog 45 #[.agg #[.int .i64 5, .string t, .int .i64 0, .int .u64 0, .string ⟨#[]⟩, .int .i64 0, .int .i64 0, .int .i64 0, .int .i64 0, .slice none 0 0, .slice none 0 0]] W fun r w' => r = .returned (.string t) ∧ Below W.heap.size W w') := fun W => name_any 5 t 0 0 ⟨#[]⟩ 0 0 0 0 _ _ W ht
  clear ht
  simp only [dat, D]
  obtain ⟨W2, hW2⟩ : ∃ W2, W2 = (w.alloc (.cells #[.int .i64 5, .string t, .int .i64 0, .int .u64 0, .string ⟨#[]⟩, .int .i64 0, .int .i64 0, .int .i64 0, .int .i64 0, .slice none 0 0, .slice none 0 0] 32)).alloc (.cells #[.int .i64 5, .string t, .int .i64 0, .int .u64 0, .string ⟨#[]⟩, .int .i64 0, .int .i64 0, .int .i64 0, .int .i64 0, .slice none 0 0, .slice none 0 0] 32) := ⟨_, rfl⟩
  have hB2 : Below w.heap.size w W2 := by rw [hW2]; exact below2 _ _ _
  have hz2 : W2.heap.size = w.heap.size + 2 := by rw [hW2]; simp
  have r0 : Hid (W2.heap[w.heap.size]? = some (.cells #[.int .i64 5, .string t, .int .i64 0, .int .u64 0, .string ⟨#[]⟩, .int .i64 0, .int .i64 0, .int .i64 0, .int .i64 0, .slice none 0 0, .slice none 0 0] 32 (0, 0))) := by rw [hW2, Below.heap_alloc _ _ _ (by simp)]; exact heap_alloc_new _ _
  have r1 : Hid (W2.heap[w.heap.size + 1]? = some (.cells #[.int .i64 5, .string t, .int .i64 0, .int .u64 0, .string ⟨#[]⟩, .int .i64 0, .int .i64 0, .int .i64 0, .int .i64 0, .slice none 0 0, .slice none 0 0] 32 (0, 0))) := by rw [hW2]; exact heap2_1 _ _ _
  have HK : Hid (∀ W, Below W2.heap.size W2 W → ((∀ j, W.cell? ⟨w.heap.size, j, none⟩ = (#[.int .i64 5, .string t, .int .i64 0, .int .u64 0, .string ⟨#[]⟩, .int .i64 0, .int .i64 0, .int .i64 0, .int .i64 0, .slice none 0 0, .slice none 0 0] : Array Value)[j]?) ∧ (∀ j, W.cell? ⟨w.heap.size + 1, j, none⟩ = (#[.int .i64 5, .string t, .int .i64 0, .int .u64 0, .string ⟨#[]⟩, .int .i64 0, .int .i64 0, .int .i64 0, .int .i64 0, .slice none 0 0, .slice none 0 0] : Array Value)[j]?))) := fun W hW => ⟨fun j => row_at ((hW.block w.heap.size (by omega)).trans r0.out) j, fun j => row_at ((hW.block (w.heap.size + 1) (by omega)).trans r1.out) j⟩
  have HT : Hid (∀ (k : Int) (u : ByteArray) (W : World), Calls Tryd.prog 42 #[.agg #[.int .i64 k, .string u, .int .i64 0, .int .u64 0, .string ⟨#[]⟩, .int .i64 0, .int .i64 0, .int .i64 0, .int .i64 0, .slice none 0 0, .slice none 0 0]] W fun r w' => r = .returned (.agg #[.int .i64 k, .string u]) ∧ Below W.heap.size W w') := fun k u W => typeOf_any k u 0 0 ⟨#[]⟩ 0 0 0 0 _ _ W
  go_enter Tryd.func24, Tryd.ntmps24
  go_wp2_with fail
  rw [← hW2]
  clear hW2
  refine wp_region_noPanic ?_
  refine wp_region_held (S := fun W => (∀ j, W.cell? ⟨w.heap.size, j, none⟩ = (#[.int .i64 5, .string t, .int .i64 0, .int .u64 0, .string ⟨#[]⟩, .int .i64 0, .int .i64 0, .int .i64 0, .int .i64 0, .slice none 0 0, .slice none 0 0] : Array Value)[j]?) ∧ (∀ j, W.cell? ⟨w.heap.size + 1, j, none⟩ = (#[.int .i64 5, .string t, .int .i64 0, .int .u64 0, .string ⟨#[]⟩, .int .i64 0, .int .i64 0, .int .i64 0, .int .i64 0, .slice none 0 0, .slice none 0 0] : Array Value)[j]?)) (by kernel_rfl) ?_
  obtain ⟨W4, hW4⟩ : ∃ W4, W4 = W2.drew := ⟨_, rfl⟩
  have e4 : ({ W2 with drawn := W2.drawn + 1 } : World) = W4 := hW4.symm
  rw [e4]
  have hB4 : Below W2.heap.size W2 W4 := by rw [hW4]; exact (Below.refl _ _).drew
  have hS := HK.out W4 hB4
  clear e4 hW4
  refine wpAnyH_take (i := 0) (v := .agg #[.int .i64 5, .string t, .int .i64 0, .int .u64 0, .string ⟨#[]⟩, .int .i64 0, .int .i64 0, .int .i64 0, .int .i64 0, .slice none 0 0, .slice none 0 0]) rfl (by kernel_rfl) (by kernel_rfl) (by kernel_rfl) (fun _ _ _ h => h) (Or.inl ⟨by rfl, ?r⟩) hS ?_
  case r => intro W hW; simp [go_sem, execOp, Act.eval, hW.1]
  simp only [List.getElem_toArray, List.getElem_cons_zero, Act.put, List.setIfInBounds_toArray, List.set_cons_succ, List.set_cons_zero]
  refine wpAnyH_take (i := 2) (v := .agg #[.int .i64 5, .string t, .int .i64 0, .int .u64 0, .string ⟨#[]⟩, .int .i64 0, .int .i64 0, .int .i64 0, .int .i64 0, .slice none 0 0, .slice none 0 0]) rfl (by kernel_rfl) (by kernel_rfl) (by kernel_rfl) (fun _ _ _ h => h) (Or.inl ⟨by rfl, ?r⟩) hS ?_
  case r => intro W hW; simp [go_sem, execOp, Act.eval, hW.2]
  simp only [List.getElem_toArray, List.getElem_cons_zero, List.getElem_cons_succ, Act.put, List.setIfInBounds_toArray, List.set_cons_succ, List.set_cons_zero]
  refine wpAnyH_all (rs := [1]) (by kernel_rfl) (by simp) (fun i2 hi2 => ?_)
  obtain rfl : i2 = 1 := by simpa using hi2
  clear hi2
  refine wpOp_step rfl (fun K hK => ite_yes rfl ?_)
  simp only [List.getElem_toArray, List.getElem_cons_zero, List.getElem_cons_succ]
  go_simp
  refine (HT.out _ _ _).mono ?_
  rintro e w5 ⟨rfl, b5⟩
  have hb5 : Below W2.heap.size W2 w5 := hB4.trans (b5.mono hB4.size)
  go_simp
  refine hK _ _ ⟨HK.out _ hb5, ?_⟩
  clear hK K hS
  have hS := HK.out _ hb5
  refine wpAnyH_all (rs := [3]) (by kernel_rfl) (by simp) (fun i2 hi2 => ?_)
  obtain rfl : i2 = 3 := by simpa using hi2
  clear hi2
  refine wpOp_step rfl (fun K hK => ite_yes rfl ?_)
  simp only [List.getElem_toArray, List.getElem_cons_zero, List.getElem_cons_succ]
  go_simp
  refine (HT.out _ _ _).mono ?_
  rintro e w6 ⟨rfl, b6⟩
  have hb6 : Below W2.heap.size W2 w6 := hb5.trans (b6.mono hb5.size)
  go_simp
  refine hK _ _ ⟨HK.out _ hb6, ?_⟩
  clear hK K hS
  have hS := HK.out _ hb6
  refine wpAnyH_take (i := 4) (v := .bool false) rfl (by kernel_rfl) (by kernel_rfl) (by kernel_rfl) (fun _ _ _ h => h) (Or.inl ⟨by rfl, ?r⟩) hS ?_
  case r => intro W hW; simp [go_sem, execOp, Act.eval]
  simp only [List.getElem_toArray, List.getElem_cons_zero, List.getElem_cons_succ, Act.put, List.setIfInBounds_toArray, List.set_cons_succ, List.set_cons_zero]
  refine wpAnyH_done (by kernel_rfl) ?_ _
  refine NoPanic.normal ?_
  try simp only [Act.put]
  have d6 := hS.1
  have z6 : w.heap.size < w6.heap.size := by have := hb6.size; omega
  go_wp2_with fail
  refine (behind_5 w.heap.size _ (d6 0) z6).mono ?_
  rintro r w7 ⟨rfl, b7⟩
  have hb7 : Below W2.heap.size W2 w7 := hb6.trans (b7.mono hb6.size)
  have d7 := (HK.out _ hb7).1
  clear d6
  go_wp2_with (go_at_call 45; refine (HN.out _).mono ?_; rintro r w8 ⟨rfl, b8⟩)
  refine bodyPost_ret (v := .tuple #[.bool false, .string t]) (by simp [results, Tryd.results24, go_sem]) rfl ⟨rfl, ?_⟩
  exact (hB2.trans (hb7.mono (by omega))).trans (b8.mono (by have := hb7.size; omega))

set_option maxRecDepth 100000 in
set_option maxHeartbeats 4000000 in
theorem equal_func (t : ByteArray) (w : World) (ht : t.size ≤ 140737488351232) :
    Calls Tryd.prog 24 #[dat 7 t 0 0 ⟨#[]⟩, dat 7 t 0 0 ⟨#[]⟩] w fun r w' => r = .returned (.tuple #[.bool false, .string t]) ∧ Below w.heap.size w w' := by
  have HN : Hid (∀ W, Calls Tryd.prog 45 #[.agg #[.int .i64 7, .string t, .int .i64 0, .int .u64 0, .string ⟨#[]⟩, .int .i64 0, .int .i64 0, .int .i64 0, .int .i64 0, .slice none 0 0, .slice none 0 0]] W fun r w' => r = .returned (.string t) ∧ Below W.heap.size W w') := fun W => name_any 7 t 0 0 ⟨#[]⟩ 0 0 0 0 _ _ W ht
  clear ht
  simp only [dat, D]
  obtain ⟨W2, hW2⟩ : ∃ W2, W2 = (w.alloc (.cells #[.int .i64 7, .string t, .int .i64 0, .int .u64 0, .string ⟨#[]⟩, .int .i64 0, .int .i64 0, .int .i64 0, .int .i64 0, .slice none 0 0, .slice none 0 0] 32)).alloc (.cells #[.int .i64 7, .string t, .int .i64 0, .int .u64 0, .string ⟨#[]⟩, .int .i64 0, .int .i64 0, .int .i64 0, .int .i64 0, .slice none 0 0, .slice none 0 0] 32) := ⟨_, rfl⟩
  have hB2 : Below w.heap.size w W2 := by rw [hW2]; exact below2 _ _ _
  have hz2 : W2.heap.size = w.heap.size + 2 := by rw [hW2]; simp
  have r0 : Hid (W2.heap[w.heap.size]? = some (.cells #[.int .i64 7, .string t, .int .i64 0, .int .u64 0, .string ⟨#[]⟩, .int .i64 0, .int .i64 0, .int .i64 0, .int .i64 0, .slice none 0 0, .slice none 0 0] 32 (0, 0))) := by rw [hW2, Below.heap_alloc _ _ _ (by simp)]; exact heap_alloc_new _ _
  have r1 : Hid (W2.heap[w.heap.size + 1]? = some (.cells #[.int .i64 7, .string t, .int .i64 0, .int .u64 0, .string ⟨#[]⟩, .int .i64 0, .int .i64 0, .int .i64 0, .int .i64 0, .slice none 0 0, .slice none 0 0] 32 (0, 0))) := by rw [hW2]; exact heap2_1 _ _ _
  have HK : Hid (∀ W, Below W2.heap.size W2 W → ((∀ j, W.cell? ⟨w.heap.size, j, none⟩ = (#[.int .i64 7, .string t, .int .i64 0, .int .u64 0, .string ⟨#[]⟩, .int .i64 0, .int .i64 0, .int .i64 0, .int .i64 0, .slice none 0 0, .slice none 0 0] : Array Value)[j]?) ∧ (∀ j, W.cell? ⟨w.heap.size + 1, j, none⟩ = (#[.int .i64 7, .string t, .int .i64 0, .int .u64 0, .string ⟨#[]⟩, .int .i64 0, .int .i64 0, .int .i64 0, .int .i64 0, .slice none 0 0, .slice none 0 0] : Array Value)[j]?))) := fun W hW => ⟨fun j => row_at ((hW.block w.heap.size (by omega)).trans r0.out) j, fun j => row_at ((hW.block (w.heap.size + 1) (by omega)).trans r1.out) j⟩
  have HT : Hid (∀ (k : Int) (u : ByteArray) (W : World), Calls Tryd.prog 42 #[.agg #[.int .i64 k, .string u, .int .i64 0, .int .u64 0, .string ⟨#[]⟩, .int .i64 0, .int .i64 0, .int .i64 0, .int .i64 0, .slice none 0 0, .slice none 0 0]] W fun r w' => r = .returned (.agg #[.int .i64 k, .string u]) ∧ Below W.heap.size W w') := fun k u W => typeOf_any k u 0 0 ⟨#[]⟩ 0 0 0 0 _ _ W
  go_enter Tryd.func24, Tryd.ntmps24
  go_wp2_with fail
  rw [← hW2]
  clear hW2
  refine wp_region_noPanic ?_
  refine wp_region_held (S := fun W => (∀ j, W.cell? ⟨w.heap.size, j, none⟩ = (#[.int .i64 7, .string t, .int .i64 0, .int .u64 0, .string ⟨#[]⟩, .int .i64 0, .int .i64 0, .int .i64 0, .int .i64 0, .slice none 0 0, .slice none 0 0] : Array Value)[j]?) ∧ (∀ j, W.cell? ⟨w.heap.size + 1, j, none⟩ = (#[.int .i64 7, .string t, .int .i64 0, .int .u64 0, .string ⟨#[]⟩, .int .i64 0, .int .i64 0, .int .i64 0, .int .i64 0, .slice none 0 0, .slice none 0 0] : Array Value)[j]?)) (by kernel_rfl) ?_
  obtain ⟨W4, hW4⟩ : ∃ W4, W4 = W2.drew := ⟨_, rfl⟩
  have e4 : ({ W2 with drawn := W2.drawn + 1 } : World) = W4 := hW4.symm
  rw [e4]
  have hB4 : Below W2.heap.size W2 W4 := by rw [hW4]; exact (Below.refl _ _).drew
  have hS := HK.out W4 hB4
  clear e4 hW4
  refine wpAnyH_take (i := 0) (v := .agg #[.int .i64 7, .string t, .int .i64 0, .int .u64 0, .string ⟨#[]⟩, .int .i64 0, .int .i64 0, .int .i64 0, .int .i64 0, .slice none 0 0, .slice none 0 0]) rfl (by kernel_rfl) (by kernel_rfl) (by kernel_rfl) (fun _ _ _ h => h) (Or.inl ⟨by rfl, ?r⟩) hS ?_
  case r => intro W hW; simp [go_sem, execOp, Act.eval, hW.1]
  simp only [List.getElem_toArray, List.getElem_cons_zero, Act.put, List.setIfInBounds_toArray, List.set_cons_succ, List.set_cons_zero]
  refine wpAnyH_take (i := 2) (v := .agg #[.int .i64 7, .string t, .int .i64 0, .int .u64 0, .string ⟨#[]⟩, .int .i64 0, .int .i64 0, .int .i64 0, .int .i64 0, .slice none 0 0, .slice none 0 0]) rfl (by kernel_rfl) (by kernel_rfl) (by kernel_rfl) (fun _ _ _ h => h) (Or.inl ⟨by rfl, ?r⟩) hS ?_
  case r => intro W hW; simp [go_sem, execOp, Act.eval, hW.2]
  simp only [List.getElem_toArray, List.getElem_cons_zero, List.getElem_cons_succ, Act.put, List.setIfInBounds_toArray, List.set_cons_succ, List.set_cons_zero]
  refine wpAnyH_all (rs := [1]) (by kernel_rfl) (by simp) (fun i2 hi2 => ?_)
  obtain rfl : i2 = 1 := by simpa using hi2
  clear hi2
  refine wpOp_step rfl (fun K hK => ite_yes rfl ?_)
  simp only [List.getElem_toArray, List.getElem_cons_zero, List.getElem_cons_succ]
  go_simp
  refine (HT.out _ _ _).mono ?_
  rintro e w5 ⟨rfl, b5⟩
  have hb5 : Below W2.heap.size W2 w5 := hB4.trans (b5.mono hB4.size)
  go_simp
  refine hK _ _ ⟨HK.out _ hb5, ?_⟩
  clear hK K hS
  have hS := HK.out _ hb5
  refine wpAnyH_all (rs := [3]) (by kernel_rfl) (by simp) (fun i2 hi2 => ?_)
  obtain rfl : i2 = 3 := by simpa using hi2
  clear hi2
  refine wpOp_step rfl (fun K hK => ite_yes rfl ?_)
  simp only [List.getElem_toArray, List.getElem_cons_zero, List.getElem_cons_succ]
  go_simp
  refine (HT.out _ _ _).mono ?_
  rintro e w6 ⟨rfl, b6⟩
  have hb6 : Below W2.heap.size W2 w6 := hb5.trans (b6.mono hb5.size)
  go_simp
  refine hK _ _ ⟨HK.out _ hb6, ?_⟩
  clear hK K hS
  have hS := HK.out _ hb6
  refine wpAnyH_take (i := 4) (v := .bool false) rfl (by kernel_rfl) (by kernel_rfl) (by kernel_rfl) (fun _ _ _ h => h) (Or.inl ⟨by rfl, ?r⟩) hS ?_
  case r => intro W hW; simp [go_sem, execOp, Act.eval]
  simp only [List.getElem_toArray, List.getElem_cons_zero, List.getElem_cons_succ, Act.put, List.setIfInBounds_toArray, List.set_cons_succ, List.set_cons_zero]
  refine wpAnyH_done (by kernel_rfl) ?_ _
  refine NoPanic.normal ?_
  try simp only [Act.put]
  have d6 := hS.1
  have z6 : w.heap.size < w6.heap.size := by have := hb6.size; omega
  go_wp2_with fail
  refine (behind_7 w.heap.size _ (d6 0) z6).mono ?_
  rintro r w7 ⟨rfl, b7⟩
  have hb7 : Below W2.heap.size W2 w7 := hb6.trans (b7.mono hb6.size)
  have d7 := (HK.out _ hb7).1
  clear d6
  go_wp2_with (go_at_call 45; refine (HN.out _).mono ?_; rintro r w8 ⟨rfl, b8⟩)
  refine bodyPost_ret (v := .tuple #[.bool false, .string t]) (by simp [results, Tryd.results24, go_sem]) rfl ⟨rfl, ?_⟩
  exact (hB2.trans (hb7.mono (by omega))).trans (b8.mono (by have := hb7.size; omega))

end Go.Proofs.YtnhbpcmiolkllabDoor
