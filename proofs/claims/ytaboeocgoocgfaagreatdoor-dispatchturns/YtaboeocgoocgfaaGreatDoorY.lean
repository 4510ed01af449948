/-
  A cache in memory: an entry is laid down behind the others.
-/
import Derived.Test.YtaboeocgoocgfaaGreatDoorX
namespace Go.Proofs.YtaboeocgoocgfaaGreatDoor
open Go.RowKit Go.ChangeMaps

set_option maxRecDepth 100000 in
set_option maxHeartbeats 4000000 in
theorem join_none {d0 d1 d2 d3 d4 d5 d6 d7 d8 d9 d10 d11 d12 d13 d14 d15 a0 a1 a2 a3 a4 a5 a6 a7 a8 a9 : Value} (cb eb : Nat) (o n nw : Value) (w : World) (hc : w.heap[cb]? = some (.cells #[d0, d1, d2, d3, d4, d5, d6, d7, d8, d9, d10, d11, d12, d13, d14, d15, .pointer (some ⟨cb, 6, none⟩), nw] 74)) (he : w.heap[eb]? = some (.cells #[a0, a1, a2, a3, a4, a5, a6, a7, a8, a9, o, n] 72)) (hne : cb ≠ eb) :
    Calls Tryz.prog 56 #[.pointer (some ⟨cb, 0, none⟩), .pointer (some ⟨eb, 0, none⟩)] w fun e w' => e = .returned (.tuple #[]) ∧ w'.heap[eb]? = some (.cells #[a0, a1, a2, a3, a4, a5, a6, a7, a8, a9, .pointer (some ⟨cb, 6, none⟩), .pointer (some ⟨cb, 6, none⟩)] 72) ∧ w'.heap[cb]? = some (.cells #[d0, d1, d2, d3, d4, d5, d6, d7, d8, d9, d10, d11, d12, d13, d14, d15, .pointer (some ⟨eb, 0, none⟩), .pointer (some ⟨eb, 0, none⟩)] 74) ∧ Kp (fun i => i = cb ∨ i = eb) w w' := by
  go_enter Tryz.func56, Tryz.ntmps56
  go_wp2_with fail
  refine wp_region_noPanic ?_
  refine wp_region_held (S := fun W => (∀ j, W.cell? ⟨cb, j, none⟩ = (#[d0, d1, d2, d3, d4, d5, d6, d7, d8, d9, d10, d11, d12, d13, d14, d15, .pointer (some ⟨cb, 6, none⟩), nw] : Array Value)[j]?)) (by kernel_rfl) ?_
  obtain ⟨V1, hV1⟩ : ∃ W4, W4 = (w).drew := ⟨_, rfl⟩
  have e4 : ({ w with drawn := (w).drawn + 1 } : World) = V1 := hV1.symm
  rw [e4]
  have hB4 : Below (w).heap.size (w) V1 := by rw [hV1]; exact (Below.refl _ _).drew
  have hS : (∀ j, V1.cell? ⟨cb, j, none⟩ = (#[d0, d1, d2, d3, d4, d5, d6, d7, d8, d9, d10, d11, d12, d13, d14, d15, .pointer (some ⟨cb, 6, none⟩), nw] : Array Value)[j]?) := (cells_of ((hB4.block _ (heap_lt hc)).trans hc)).1
  have HV1 : Hid (V1 = (w).drew) := hV1
  clear e4 hV1
  refine wpAnyH_take (i := 0) (v := .pointer (some ⟨eb, 0, none⟩)) rfl (by kernel_rfl) (by kernel_rfl) (by kernel_rfl) (fun _ _ _ h => h) (Or.inl ⟨by rfl, ?r⟩) hS ?_
  case r => intro W hW; simp [go_sem, execOp, Act.eval]
  simp only [List.getElem_toArray, List.getElem_cons_zero, Act.put, List.setIfInBounds_toArray, List.set_cons_succ, List.set_cons_zero]
  refine wpAnyH_take (i := 1) (v := .pointer (some ⟨eb, 0, none⟩)) rfl (by kernel_rfl) (by kernel_rfl) (by kernel_rfl) (fun _ _ _ h => h) (Or.inl ⟨by rfl, ?r⟩) hS ?_
  case r => intro W hW; simp [go_sem, execOp, Act.eval]
  simp only [List.getElem_toArray, List.getElem_cons_zero, List.getElem_cons_succ, Act.put, List.setIfInBounds_toArray, List.set_cons_succ, List.set_cons_zero]
  refine wpAnyH_take (i := 2) (v := .pointer (some ⟨cb, 0, none⟩)) rfl (by kernel_rfl) (by kernel_rfl) (by kernel_rfl) (fun _ _ _ h => h) (Or.inl ⟨by rfl, ?r⟩) hS ?_
  case r => intro W hW; simp [go_sem, execOp, Act.eval]
  simp only [List.getElem_toArray, List.getElem_cons_zero, List.getElem_cons_succ, Act.put, List.setIfInBounds_toArray, List.set_cons_succ, List.set_cons_zero]
  refine wpAnyH_take (i := 3) (v := .pointer (some ⟨cb, 0, none⟩)) rfl (by kernel_rfl) (by kernel_rfl) (by kernel_rfl) (fun _ _ _ h => h) (Or.inl ⟨by rfl, ?r⟩) hS ?_
  case r => intro W hW; simp [go_sem, execOp, Act.eval]
  simp only [List.getElem_toArray, List.getElem_cons_zero, List.getElem_cons_succ, Act.put, List.setIfInBounds_toArray, List.set_cons_succ, List.set_cons_zero]
  refine wpAnyH_take (i := 4) (v := .pointer (some ⟨cb, 6, none⟩)) rfl (by kernel_rfl) (by kernel_rfl) (by kernel_rfl) (fun _ _ _ h => h) (Or.inl ⟨by rfl, ?r⟩) hS ?_
  case r => intro W hW; simp [go_sem, execOp, Act.eval]
  simp only [List.getElem_toArray, List.getElem_cons_zero, List.getElem_cons_succ, Act.put, List.setIfInBounds_toArray, List.set_cons_succ, List.set_cons_zero]
  refine wpAnyH_take (i := 5) (v := .pointer (some ⟨cb, 16, none⟩)) rfl (by kernel_rfl) (by kernel_rfl) (by kernel_rfl) (fun _ _ _ h => h) (Or.inl ⟨by rfl, ?r⟩) hS ?_
  case r => intro W hW; simp [go_sem, execOp, Act.eval]
  simp only [List.getElem_toArray, List.getElem_cons_zero, List.getElem_cons_succ, Act.put, List.setIfInBounds_toArray, List.set_cons_succ, List.set_cons_zero]
  refine wpAnyH_take (i := 6) (v := .pointer (some ⟨cb, 6, none⟩)) rfl (by kernel_rfl) (by kernel_rfl) (by kernel_rfl) (fun _ _ _ h => h) (Or.inl ⟨by rfl, ?r⟩) hS ?_
  case r => intro W hW; simp [go_sem, execOp, Act.eval, hW]
  simp only [List.getElem_toArray, List.getElem_cons_zero, List.getElem_cons_succ, Act.put, List.setIfInBounds_toArray, List.set_cons_succ, List.set_cons_zero]
  refine wpAnyH_take (i := 7) (v := .pointer (some ⟨cb, 0, none⟩)) rfl (by kernel_rfl) (by kernel_rfl) (by kernel_rfl) (fun _ _ _ h => h) (Or.inl ⟨by rfl, ?r⟩) hS ?_
  case r => intro W hW; simp [go_sem, execOp, Act.eval]
  simp only [List.getElem_toArray, List.getElem_cons_zero, List.getElem_cons_succ, Act.put, List.setIfInBounds_toArray, List.set_cons_succ, List.set_cons_zero]
  refine wpAnyH_take (i := 8) (v := .pointer (some ⟨cb, 0, none⟩)) rfl (by kernel_rfl) (by kernel_rfl) (by kernel_rfl) (fun _ _ _ h => h) (Or.inl ⟨by rfl, ?r⟩) hS ?_
  case r => intro W hW; simp [go_sem, execOp, Act.eval]
  simp only [List.getElem_toArray, List.getElem_cons_zero, List.getElem_cons_succ, Act.put, List.setIfInBounds_toArray, List.set_cons_succ, List.set_cons_zero]
  refine wpAnyH_take (i := 9) (v := .pointer (some ⟨cb, 6, none⟩)) rfl (by kernel_rfl) (by kernel_rfl) (by kernel_rfl) (fun _ _ _ h => h) (Or.inl ⟨by rfl, ?r⟩) hS ?_
  case r => intro W hW; simp [go_sem, execOp, Act.eval]
  simp only [List.getElem_toArray, List.getElem_cons_zero, List.getElem_cons_succ, Act.put, List.setIfInBounds_toArray, List.set_cons_succ, List.set_cons_zero]
  have hc1 : V1.heap[cb]? = _ := (hB4.block _ (heap_lt hc)).trans hc
  have he1 : V1.heap[eb]? = _ := (hB4.block _ (heap_lt he)).trans he
  have kV1 : Kp (fun i => i = cb ∨ i = eb) w V1 := Kp.of hB4
  clear HV1 hB4
  obtain ⟨ec1, ef1⟩ := cells_of he1
  refine wpAnyH_take (i := 10) (v := .pointer (some ⟨eb, 0, none⟩)) rfl (by kernel_rfl) (by kernel_rfl) (by kernel_rfl) (fun _ _ _ h => h) (Or.inl ⟨by rfl, ?r⟩) hS ?_
  case r => intro W hW; simp [go_sem, execOp, Act.eval]
  simp only [List.getElem_toArray, List.getElem_cons_zero, List.getElem_cons_succ, Act.put, List.setIfInBounds_toArray, List.set_cons_succ, List.set_cons_zero]
  refine wpAnyH_take (i := 11) (v := .pointer (some ⟨eb, 10, none⟩)) rfl (by kernel_rfl) (by kernel_rfl) (by kernel_rfl) (fun _ _ _ h => h) (Or.inl ⟨by rfl, ?r⟩) hS ?_
  case r => intro W hW; simp [go_sem, execOp, Act.eval]
  simp only [List.getElem_toArray, List.getElem_cons_zero, List.getElem_cons_succ, Act.put, List.setIfInBounds_toArray, List.set_cons_succ, List.set_cons_zero]
  refine wpAnyH_all (rs := [12]) (by kernel_rfl) (by simp) (fun i2 hi2 => ?_)
  obtain rfl : i2 = 12 := by simpa using hi2
  clear hi2
  refine wpOp_step rfl (fun K hK => ite_yes rfl ?_)
  simp only [List.getElem_toArray, List.getElem_cons_zero, List.getElem_cons_succ]
  go_simp
  obtain ⟨V2, hV2⟩ : ∃ W, W = V1.setCell ⟨eb, 10, none⟩ (.pointer (some ⟨cb, 6, none⟩)) := ⟨_, rfl⟩
  rw [← hV2]
  have kV2 : Kp (· = eb) V1 V2 := by rw [hV2]; exact Kp.set _ _ _ _ rfl
  have he2 : V2.heap[eb]? = some (.cells #[a0, a1, a2, a3, a4, a5, a6, a7, a8, a9, .pointer (some ⟨cb, 6, none⟩), n] 72) := by rw [hV2]; exact heap_set he1 10 _
  clear hV2
  have hc2 : V2.heap[cb]? = _ := (kV2.block _ (heap_lt hc1) hne).trans hc1
  have hSV2 : (∀ j, V2.cell? ⟨cb, j, none⟩ = (#[d0, d1, d2, d3, d4, d5, d6, d7, d8, d9, d10, d11, d12, d13, d14, d15, .pointer (some ⟨cb, 6, none⟩), nw] : Array Value)[j]?) := (cells_of hc2).1
  refine hK _ _ ⟨hSV2, ?_⟩
  clear hK K hS
  have hS := hSV2
  clear hSV2
  try simp only [Act.put, List.setIfInBounds_toArray, List.set_cons_succ, List.set_cons_zero]
  refine wpAnyH_take (i := 13) (v := .pointer (some ⟨eb, 0, none⟩)) rfl (by kernel_rfl) (by kernel_rfl) (by kernel_rfl) (fun _ _ _ h => h) (Or.inl ⟨by rfl, ?r⟩) hS ?_
  case r => intro W hW; simp [go_sem, execOp, Act.eval]
  simp only [List.getElem_toArray, List.getElem_cons_zero, List.getElem_cons_succ, Act.put, List.setIfInBounds_toArray, List.set_cons_succ, List.set_cons_zero]
  refine wpAnyH_take (i := 14) (v := .pointer (some ⟨eb, 11, none⟩)) rfl (by kernel_rfl) (by kernel_rfl) (by kernel_rfl) (fun _ _ _ h => h) (Or.inl ⟨by rfl, ?r⟩) hS ?_
  case r => intro W hW; simp [go_sem, execOp, Act.eval]
  simp only [List.getElem_toArray, List.getElem_cons_zero, List.getElem_cons_succ, Act.put, List.setIfInBounds_toArray, List.set_cons_succ, List.set_cons_zero]
  obtain ⟨ec2, ef2⟩ := cells_of he2
  refine wpAnyH_all (rs := [15]) (by kernel_rfl) (by simp) (fun i2 hi2 => ?_)
  obtain rfl : i2 = 15 := by simpa using hi2
  clear hi2
  refine wpOp_step rfl (fun K hK => ite_yes rfl ?_)
  simp only [List.getElem_toArray, List.getElem_cons_zero, List.getElem_cons_succ]
  go_simp
  obtain ⟨V3, hV3⟩ : ∃ W, W = V2.setCell ⟨eb, 11, none⟩ (.pointer (some ⟨cb, 6, none⟩)) := ⟨_, rfl⟩
  rw [← hV3]
  have kV3 : Kp (· = eb) V2 V3 := by rw [hV3]; exact Kp.set _ _ _ _ rfl
  have he3 : V3.heap[eb]? = some (.cells #[a0, a1, a2, a3, a4, a5, a6, a7, a8, a9, .pointer (some ⟨cb, 6, none⟩), .pointer (some ⟨cb, 6, none⟩)] 72) := by rw [hV3]; exact heap_set he2 11 _
  clear hV3
  have hc3 : V3.heap[cb]? = _ := (kV3.block _ (heap_lt hc2) hne).trans hc2
  have hSV3 : (∀ j, V3.cell? ⟨cb, j, none⟩ = (#[d0, d1, d2, d3, d4, d5, d6, d7, d8, d9, d10, d11, d12, d13, d14, d15, .pointer (some ⟨cb, 6, none⟩), nw] : Array Value)[j]?) := (cells_of hc3).1
  refine hK _ _ ⟨hSV3, ?_⟩
  clear hK K hS
  have hS := hSV3
  clear hSV3
  try simp only [Act.put, List.setIfInBounds_toArray, List.set_cons_succ, List.set_cons_zero]
  refine wpAnyH_done (by kernel_rfl) ?_ _
  refine NoPanic.normal ?_
  try simp only [Act.put]
  have kA : Kp (fun i => i = cb ∨ i = eb) w V3 := (kV1.trans kV2 fun _ _ h => Or.inr h).trans kV3 fun _ _ h => Or.inr h
  clear hS
  go_wp2_with fail
  refine wp_region_noPanic ?_
  refine wp_region_held (S := fun W => (∀ j, W.cell? ⟨eb, j, none⟩ = (#[a0, a1, a2, a3, a4, a5, a6, a7, a8, a9, .pointer (some ⟨cb, 6, none⟩), .pointer (some ⟨cb, 6, none⟩)] : Array Value)[j]?)) (by kernel_rfl) ?_
  obtain ⟨V4, hV4⟩ : ∃ W4, W4 = (V3).drew := ⟨_, rfl⟩
  have e4 : ({ V3 with drawn := (V3).drawn + 1 } : World) = V4 := hV4.symm
  rw [e4]
  have hB4 : Below (V3).heap.size (V3) V4 := by rw [hV4]; exact (Below.refl _ _).drew
  have hS : (∀ j, V4.cell? ⟨eb, j, none⟩ = (#[a0, a1, a2, a3, a4, a5, a6, a7, a8, a9, .pointer (some ⟨cb, 6, none⟩), .pointer (some ⟨cb, 6, none⟩)] : Array Value)[j]?) := (cells_of ((hB4.block _ (heap_lt he3)).trans he3)).1
  have HV4 : Hid (V4 = (V3).drew) := hV4
  clear e4 hV4
  refine wpAnyH_take (i := 0) (v := .pointer (some ⟨eb, 0, none⟩)) rfl (by kernel_rfl) (by kernel_rfl) (by kernel_rfl) (fun _ _ _ h => h) (Or.inl ⟨by rfl, ?r⟩) hS ?_
  case r => intro W hW; simp [go_sem, execOp, Act.eval]
  simp only [List.getElem_toArray, List.getElem_cons_zero, Act.put, List.setIfInBounds_toArray, List.set_cons_succ, List.set_cons_zero]
  refine wpAnyH_take (i := 1) (v := .pointer (some ⟨eb, 0, none⟩)) rfl (by kernel_rfl) (by kernel_rfl) (by kernel_rfl) (fun _ _ _ h => h) (Or.inl ⟨by rfl, ?r⟩) hS ?_
  case r => intro W hW; simp [go_sem, execOp, Act.eval]
  simp only [List.getElem_toArray, List.getElem_cons_zero, List.getElem_cons_succ, Act.put, List.setIfInBounds_toArray, List.set_cons_succ, List.set_cons_zero]
  refine wpAnyH_take (i := 2) (v := .pointer (some ⟨eb, 10, none⟩)) rfl (by kernel_rfl) (by kernel_rfl) (by kernel_rfl) (fun _ _ _ h => h) (Or.inl ⟨by rfl, ?r⟩) hS ?_
  case r => intro W hW; simp [go_sem, execOp, Act.eval]
  simp only [List.getElem_toArray, List.getElem_cons_zero, List.getElem_cons_succ, Act.put, List.setIfInBounds_toArray, List.set_cons_succ, List.set_cons_zero]
  refine wpAnyH_take (i := 3) (v := .pointer (some ⟨cb, 6, none⟩)) rfl (by kernel_rfl) (by kernel_rfl) (by kernel_rfl) (fun _ _ _ h => h) (Or.inl ⟨by rfl, ?r⟩) hS ?_
  case r => intro W hW; simp [go_sem, execOp, Act.eval, hW]
  simp only [List.getElem_toArray, List.getElem_cons_zero, List.getElem_cons_succ, Act.put, List.setIfInBounds_toArray, List.set_cons_succ, List.set_cons_zero]
  refine wpAnyH_take (i := 4) (v := .pointer (some ⟨eb, 0, none⟩)) rfl (by kernel_rfl) (by kernel_rfl) (by kernel_rfl) (fun _ _ _ h => h) (Or.inl ⟨by rfl, ?r⟩) hS ?_
  case r => intro W hW; simp [go_sem, execOp, Act.eval]
  simp only [List.getElem_toArray, List.getElem_cons_zero, List.getElem_cons_succ, Act.put, List.setIfInBounds_toArray, List.set_cons_succ, List.set_cons_zero]
  refine wpAnyH_take (i := 5) (v := .pointer (some ⟨eb, 0, none⟩)) rfl (by kernel_rfl) (by kernel_rfl) (by kernel_rfl) (fun _ _ _ h => h) (Or.inl ⟨by rfl, ?r⟩) hS ?_
  case r => intro W hW; simp [go_sem, execOp, Act.eval]
  simp only [List.getElem_toArray, List.getElem_cons_zero, List.getElem_cons_succ, Act.put, List.setIfInBounds_toArray, List.set_cons_succ, List.set_cons_zero]
  refine wpAnyH_take (i := 6) (v := .pointer (some ⟨eb, 11, none⟩)) rfl (by kernel_rfl) (by kernel_rfl) (by kernel_rfl) (fun _ _ _ h => h) (Or.inl ⟨by rfl, ?r⟩) hS ?_
  case r => intro W hW; simp [go_sem, execOp, Act.eval]
  simp only [List.getElem_toArray, List.getElem_cons_zero, List.getElem_cons_succ, Act.put, List.setIfInBounds_toArray, List.set_cons_succ, List.set_cons_zero]
  refine wpAnyH_take (i := 7) (v := .pointer (some ⟨cb, 6, none⟩)) rfl (by kernel_rfl) (by kernel_rfl) (by kernel_rfl) (fun _ _ _ h => h) (Or.inl ⟨by rfl, ?r⟩) hS ?_
  case r => intro W hW; simp [go_sem, execOp, Act.eval, hW]
  simp only [List.getElem_toArray, List.getElem_cons_zero, List.getElem_cons_succ, Act.put, List.setIfInBounds_toArray, List.set_cons_succ, List.set_cons_zero]
  refine wpAnyH_take (i := 8) (v := .pointer (some ⟨eb, 0, none⟩)) rfl (by kernel_rfl) (by kernel_rfl) (by kernel_rfl) (fun _ _ _ h => h) (Or.inl ⟨by rfl, ?r⟩) hS ?_
  case r => intro W hW; simp [go_sem, execOp, Act.eval]
  simp only [List.getElem_toArray, List.getElem_cons_zero, List.getElem_cons_succ, Act.put, List.setIfInBounds_toArray, List.set_cons_succ, List.set_cons_zero]
  refine wpAnyH_take (i := 9) (v := .pointer (some ⟨eb, 0, none⟩)) rfl (by kernel_rfl) (by kernel_rfl) (by kernel_rfl) (fun _ _ _ h => h) (Or.inl ⟨by rfl, ?r⟩) hS ?_
  case r => intro W hW; simp [go_sem, execOp, Act.eval]
  simp only [List.getElem_toArray, List.getElem_cons_zero, List.getElem_cons_succ, Act.put, List.setIfInBounds_toArray, List.set_cons_succ, List.set_cons_zero]
  refine wpAnyH_take (i := 10) (v := .pointer (some ⟨cb, 6, none⟩)) rfl (by kernel_rfl) (by kernel_rfl) (by kernel_rfl) (fun _ _ _ h => h) (Or.inl ⟨by rfl, ?r⟩) hS ?_
  case r => intro W hW; simp [go_sem, execOp, Act.eval]
  simp only [List.getElem_toArray, List.getElem_cons_zero, List.getElem_cons_succ, Act.put, List.setIfInBounds_toArray, List.set_cons_succ, List.set_cons_zero]
  refine wpAnyH_take (i := 11) (v := .pointer (some ⟨cb, 17, none⟩)) rfl (by kernel_rfl) (by kernel_rfl) (by kernel_rfl) (fun _ _ _ h => h) (Or.inl ⟨by rfl, ?r⟩) hS ?_
  case r => intro W hW; simp [go_sem, execOp, Act.eval]
  simp only [List.getElem_toArray, List.getElem_cons_zero, List.getElem_cons_succ, Act.put, List.setIfInBounds_toArray, List.set_cons_succ, List.set_cons_zero]
  have hc4 : V4.heap[cb]? = _ := (hB4.block _ (heap_lt hc3)).trans hc3
  have he4 : V4.heap[eb]? = _ := (hB4.block _ (heap_lt he3)).trans he3
  have kV4 : Kp (fun i => i = cb ∨ i = eb) V3 V4 := Kp.of hB4
  clear HV4 hB4
  obtain ⟨cc4, cf4⟩ := cells_of hc4
  refine wpAnyH_all (rs := [12]) (by kernel_rfl) (by simp) (fun i2 hi2 => ?_)
  obtain rfl : i2 = 12 := by simpa using hi2
  clear hi2
  refine wpOp_step rfl (fun K hK => ite_yes rfl ?_)
  simp only [List.getElem_toArray, List.getElem_cons_zero, List.getElem_cons_succ]
  go_simp
  obtain ⟨V5, hV5⟩ : ∃ W, W = V4.setCell ⟨cb, 17, none⟩ (.pointer (some ⟨eb, 0, none⟩)) := ⟨_, rfl⟩
  rw [← hV5]
  have kV5 : Kp (· = cb) V4 V5 := by rw [hV5]; exact Kp.set _ _ _ _ rfl
  have hc5 : V5.heap[cb]? = some (.cells #[d0, d1, d2, d3, d4, d5, d6, d7, d8, d9, d10, d11, d12, d13, d14, d15, .pointer (some ⟨cb, 6, none⟩), .pointer (some ⟨eb, 0, none⟩)] 74) := by rw [hV5]; exact heap_set hc4 17 _
  clear hV5
  have he5 : V5.heap[eb]? = _ := (kV5.block _ (heap_lt he4) (Ne.symm hne)).trans he4
  have hSV5 : (∀ j, V5.cell? ⟨eb, j, none⟩ = (#[a0, a1, a2, a3, a4, a5, a6, a7, a8, a9, .pointer (some ⟨cb, 6, none⟩), .pointer (some ⟨cb, 6, none⟩)] : Array Value)[j]?) := (cells_of he5).1
  refine hK _ _ ⟨hSV5, ?_⟩
  clear hK K hS
  have hS := hSV5
  clear hSV5
  try simp only [Act.put, List.setIfInBounds_toArray, List.set_cons_succ, List.set_cons_zero]
  refine wpAnyH_take (i := 13) (v := .pointer (some ⟨cb, 6, none⟩)) rfl (by kernel_rfl) (by kernel_rfl) (by kernel_rfl) (fun _ _ _ h => h) (Or.inl ⟨by rfl, ?r⟩) hS ?_
  case r => intro W hW; simp [go_sem, execOp, Act.eval]
  simp only [List.getElem_toArray, List.getElem_cons_zero, List.getElem_cons_succ, Act.put, List.setIfInBounds_toArray, List.set_cons_succ, List.set_cons_zero]
  refine wpAnyH_take (i := 14) (v := .pointer (some ⟨cb, 16, none⟩)) rfl (by kernel_rfl) (by kernel_rfl) (by kernel_rfl) (fun _ _ _ h => h) (Or.inl ⟨by rfl, ?r⟩) hS ?_
  case r => intro W hW; simp [go_sem, execOp, Act.eval]
  simp only [List.getElem_toArray, List.getElem_cons_zero, List.getElem_cons_succ, Act.put, List.setIfInBounds_toArray, List.set_cons_succ, List.set_cons_zero]
  obtain ⟨cc5, cf5⟩ := cells_of hc5
  refine wpAnyH_all (rs := [15]) (by kernel_rfl) (by simp) (fun i2 hi2 => ?_)
  obtain rfl : i2 = 15 := by simpa using hi2
  clear hi2
  refine wpOp_step rfl (fun K hK => ite_yes rfl ?_)
  simp only [List.getElem_toArray, List.getElem_cons_zero, List.getElem_cons_succ]
  go_simp
  obtain ⟨V6, hV6⟩ : ∃ W, W = V5.setCell ⟨cb, 16, none⟩ (.pointer (some ⟨eb, 0, none⟩)) := ⟨_, rfl⟩
  rw [← hV6]
  have kV6 : Kp (· = cb) V5 V6 := by rw [hV6]; exact Kp.set _ _ _ _ rfl
  have hc6 : V6.heap[cb]? = some (.cells #[d0, d1, d2, d3, d4, d5, d6, d7, d8, d9, d10, d11, d12, d13, d14, d15, .pointer (some ⟨eb, 0, none⟩), .pointer (some ⟨eb, 0, none⟩)] 74) := by rw [hV6]; exact heap_set hc5 16 _
  clear hV6
  have he6 : V6.heap[eb]? = _ := (kV6.block _ (heap_lt he5) (Ne.symm hne)).trans he5
  have hSV6 : (∀ j, V6.cell? ⟨eb, j, none⟩ = (#[a0, a1, a2, a3, a4, a5, a6, a7, a8, a9, .pointer (some ⟨cb, 6, none⟩), .pointer (some ⟨cb, 6, none⟩)] : Array Value)[j]?) := (cells_of he6).1
  refine hK _ _ ⟨hSV6, ?_⟩
  clear hK K hS
  have hS := hSV6
  clear hSV6
  try simp only [Act.put, List.setIfInBounds_toArray, List.set_cons_succ, List.set_cons_zero]
  refine wpAnyH_done (by kernel_rfl) ?_ _
  refine NoPanic.normal ?_
  try simp only [Act.put]
  go_wp2_with fail
  exact bodyPost_end (v := .tuple #[]) (results_none rfl _ _ _) rfl ⟨rfl, he6, hc6, ((kA.trans kV4 fun _ _ h => h).trans kV5 fun _ _ h => Or.inl h).trans kV6 fun _ _ h => Or.inl h⟩

set_option maxRecDepth 100000 in
set_option maxHeartbeats 4000000 in
theorem join_some {d0 d1 d2 d3 d4 d5 d6 d7 d8 d9 d10 d11 d12 d13 d14 d15 a0 a1 a2 a3 a4 a5 a6 a7 a8 a9 x0 x1 x2 x3 x4 x5 x6 x7 x8 x9 : Value} (cb eb rb : Nat) (o n nw ro rn : Value) (w : World) (hc : w.heap[cb]? = some (.cells #[d0, d1, d2, d3, d4, d5, d6, d7, d8, d9, d10, d11, d12, d13, d14, d15, .pointer (some ⟨rb, 0, none⟩), nw] 74)) (he : w.heap[eb]? = some (.cells #[a0, a1, a2, a3, a4, a5, a6, a7, a8, a9, o, n] 72)) (hr : w.heap[rb]? = some (.cells #[x0, x1, x2, x3, x4, x5, x6, x7, x8, x9, ro, rn] 72)) (hne : cb ≠ eb) (hne2 : rb ≠ cb) (hne3 : rb ≠ eb) :
    Calls Tryz.prog 56 #[.pointer (some ⟨cb, 0, none⟩), .pointer (some ⟨eb, 0, none⟩)] w fun e w' => e = .returned (.tuple #[]) ∧ w'.heap[eb]? = some (.cells #[a0, a1, a2, a3, a4, a5, a6, a7, a8, a9, .pointer (some ⟨rb, 0, none⟩), .pointer (some ⟨cb, 6, none⟩)] 72) ∧ w'.heap[cb]? = some (.cells #[d0, d1, d2, d3, d4, d5, d6, d7, d8, d9, d10, d11, d12, d13, d14, d15, .pointer (some ⟨eb, 0, none⟩), nw] 74) ∧ w'.heap[rb]? = some (.cells #[x0, x1, x2, x3, x4, x5, x6, x7, x8, x9, ro, .pointer (some ⟨eb, 0, none⟩)] 72) ∧ Kp (fun i => i = cb ∨ i = eb ∨ i = rb) w w' := by
  go_enter Tryz.func56, Tryz.ntmps56
  go_wp2_with fail
  refine wp_region_noPanic ?_
  refine wp_region_held (S := fun W => (∀ j, W.cell? ⟨cb, j, none⟩ = (#[d0, d1, d2, d3, d4, d5, d6, d7, d8, d9, d10, d11, d12, d13, d14, d15, .pointer (some ⟨rb, 0, none⟩), nw] : Array Value)[j]?)) (by kernel_rfl) ?_
  obtain ⟨V1, hV1⟩ : ∃ W4, W4 = (w).drew := ⟨_, rfl⟩
  have e4 : ({ w with drawn := (w).drawn + 1 } : World) = V1 := hV1.symm
  rw [e4]
  have hB4 : Below (w).heap.size (w) V1 := by rw [hV1]; exact (Below.refl _ _).drew
  have hS : (∀ j, V1.cell? ⟨cb, j, none⟩ = (#[d0, d1, d2, d3, d4, d5, d6, d7, d8, d9, d10, d11, d12, d13, d14, d15, .pointer (some ⟨rb, 0, none⟩), nw] : Array Value)[j]?) := (cells_of ((hB4.block _ (heap_lt hc)).trans hc)).1
  have HV1 : Hid (V1 = (w).drew) := hV1
  clear e4 hV1
  refine wpAnyH_take (i := 0) (v := .pointer (some ⟨eb, 0, none⟩)) rfl (by kernel_rfl) (by kernel_rfl) (by kernel_rfl) (fun _ _ _ h => h) (Or.inl ⟨by rfl, ?r⟩) hS ?_
  case r => intro W hW; simp [go_sem, execOp, Act.eval]
  simp only [List.getElem_toArray, List.getElem_cons_zero, Act.put, List.setIfInBounds_toArray, List.set_cons_succ, List.set_cons_zero]
  refine wpAnyH_take (i := 1) (v := .pointer (some ⟨eb, 0, none⟩)) rfl (by kernel_rfl) (by kernel_rfl) (by kernel_rfl) (fun _ _ _ h => h) (Or.inl ⟨by rfl, ?r⟩) hS ?_
  case r => intro W hW; simp [go_sem, execOp, Act.eval]
  simp only [List.getElem_toArray, List.getElem_cons_zero, List.getElem_cons_succ, Act.put, List.setIfInBounds_toArray, List.set_cons_succ, List.set_cons_zero]
  refine wpAnyH_take (i := 2) (v := .pointer (some ⟨cb, 0, none⟩)) rfl (by kernel_rfl) (by kernel_rfl) (by kernel_rfl) (fun _ _ _ h => h) (Or.inl ⟨by rfl, ?r⟩) hS ?_
  case r => intro W hW; simp [go_sem, execOp, Act.eval]
  simp only [List.getElem_toArray, List.getElem_cons_zero, List.getElem_cons_succ, Act.put, List.setIfInBounds_toArray, List.set_cons_succ, List.set_cons_zero]
  refine wpAnyH_take (i := 3) (v := .pointer (some ⟨cb, 0, none⟩)) rfl (by kernel_rfl) (by kernel_rfl) (by kernel_rfl) (fun _ _ _ h => h) (Or.inl ⟨by rfl, ?r⟩) hS ?_
  case r => intro W hW; simp [go_sem, execOp, Act.eval]
  simp only [List.getElem_toArray, List.getElem_cons_zero, List.getElem_cons_succ, Act.put, List.setIfInBounds_toArray, List.set_cons_succ, List.set_cons_zero]
  refine wpAnyH_take (i := 4) (v := .pointer (some ⟨cb, 6, none⟩)) rfl (by kernel_rfl) (by kernel_rfl) (by kernel_rfl) (fun _ _ _ h => h) (Or.inl ⟨by rfl, ?r⟩) hS ?_
  case r => intro W hW; simp [go_sem, execOp, Act.eval]
  simp only [List.getElem_toArray, List.getElem_cons_zero, List.getElem_cons_succ, Act.put, List.setIfInBounds_toArray, List.set_cons_succ, List.set_cons_zero]
  refine wpAnyH_take (i := 5) (v := .pointer (some ⟨cb, 16, none⟩)) rfl (by kernel_rfl) (by kernel_rfl) (by kernel_rfl) (fun _ _ _ h => h) (Or.inl ⟨by rfl, ?r⟩) hS ?_
  case r => intro W hW; simp [go_sem, execOp, Act.eval]
  simp only [List.getElem_toArray, List.getElem_cons_zero, List.getElem_cons_succ, Act.put, List.setIfInBounds_toArray, List.set_cons_succ, List.set_cons_zero]
  refine wpAnyH_take (i := 6) (v := .pointer (some ⟨rb, 0, none⟩)) rfl (by kernel_rfl) (by kernel_rfl) (by kernel_rfl) (fun _ _ _ h => h) (Or.inl ⟨by rfl, ?r⟩) hS ?_
  case r => intro W hW; simp [go_sem, execOp, Act.eval, hW]
  simp only [List.getElem_toArray, List.getElem_cons_zero, List.getElem_cons_succ, Act.put, List.setIfInBounds_toArray, List.set_cons_succ, List.set_cons_zero]
  refine wpAnyH_take (i := 7) (v := .pointer (some ⟨cb, 0, none⟩)) rfl (by kernel_rfl) (by kernel_rfl) (by kernel_rfl) (fun _ _ _ h => h) (Or.inl ⟨by rfl, ?r⟩) hS ?_
  case r => intro W hW; simp [go_sem, execOp, Act.eval]
  simp only [List.getElem_toArray, List.getElem_cons_zero, List.getElem_cons_succ, Act.put, List.setIfInBounds_toArray, List.set_cons_succ, List.set_cons_zero]
  refine wpAnyH_take (i := 8) (v := .pointer (some ⟨cb, 0, none⟩)) rfl (by kernel_rfl) (by kernel_rfl) (by kernel_rfl) (fun _ _ _ h => h) (Or.inl ⟨by rfl, ?r⟩) hS ?_
  case r => intro W hW; simp [go_sem, execOp, Act.eval]
  simp only [List.getElem_toArray, List.getElem_cons_zero, List.getElem_cons_succ, Act.put, List.setIfInBounds_toArray, List.set_cons_succ, List.set_cons_zero]
  refine wpAnyH_take (i := 9) (v := .pointer (some ⟨cb, 6, none⟩)) rfl (by kernel_rfl) (by kernel_rfl) (by kernel_rfl) (fun _ _ _ h => h) (Or.inl ⟨by rfl, ?r⟩) hS ?_
  case r => intro W hW; simp [go_sem, execOp, Act.eval]
  simp only [List.getElem_toArray, List.getElem_cons_zero, List.getElem_cons_succ, Act.put, List.setIfInBounds_toArray, List.set_cons_succ, List.set_cons_zero]
  have hc1 : V1.heap[cb]? = _ := (hB4.block _ (heap_lt hc)).trans hc
  have he1 : V1.heap[eb]? = _ := (hB4.block _ (heap_lt he)).trans he
  have kV1 : Kp (fun i => i = cb ∨ i = eb) w V1 := Kp.of hB4
  clear HV1 hB4
  obtain ⟨ec1, ef1⟩ := cells_of he1
  refine wpAnyH_take (i := 10) (v := .pointer (some ⟨eb, 0, none⟩)) rfl (by kernel_rfl) (by kernel_rfl) (by kernel_rfl) (fun _ _ _ h => h) (Or.inl ⟨by rfl, ?r⟩) hS ?_
  case r => intro W hW; simp [go_sem, execOp, Act.eval]
  simp only [List.getElem_toArray, List.getElem_cons_zero, List.getElem_cons_succ, Act.put, List.setIfInBounds_toArray, List.set_cons_succ, List.set_cons_zero]
  refine wpAnyH_take (i := 11) (v := .pointer (some ⟨eb, 10, none⟩)) rfl (by kernel_rfl) (by kernel_rfl) (by kernel_rfl) (fun _ _ _ h => h) (Or.inl ⟨by rfl, ?r⟩) hS ?_
  case r => intro W hW; simp [go_sem, execOp, Act.eval]
  simp only [List.getElem_toArray, List.getElem_cons_zero, List.getElem_cons_succ, Act.put, List.setIfInBounds_toArray, List.set_cons_succ, List.set_cons_zero]
  refine wpAnyH_all (rs := [12]) (by kernel_rfl) (by simp) (fun i2 hi2 => ?_)
  obtain rfl : i2 = 12 := by simpa using hi2
  clear hi2
  refine wpOp_step rfl (fun K hK => ite_yes rfl ?_)
  simp only [List.getElem_toArray, List.getElem_cons_zero, List.getElem_cons_succ]
  go_simp
  obtain ⟨V2, hV2⟩ : ∃ W, W = V1.setCell ⟨eb, 10, none⟩ (.pointer (some ⟨rb, 0, none⟩)) := ⟨_, rfl⟩
  rw [← hV2]
  have kV2 : Kp (· = eb) V1 V2 := by rw [hV2]; exact Kp.set _ _ _ _ rfl
  have he2 : V2.heap[eb]? = some (.cells #[a0, a1, a2, a3, a4, a5, a6, a7, a8, a9, .pointer (some ⟨rb, 0, none⟩), n] 72) := by rw [hV2]; exact heap_set he1 10 _
  clear hV2
  have hc2 : V2.heap[cb]? = _ := (kV2.block _ (heap_lt hc1) hne).trans hc1
  have hSV2 : (∀ j, V2.cell? ⟨cb, j, none⟩ = (#[d0, d1, d2, d3, d4, d5, d6, d7, d8, d9, d10, d11, d12, d13, d14, d15, .pointer (some ⟨rb, 0, none⟩), nw] : Array Value)[j]?) := (cells_of hc2).1
  refine hK _ _ ⟨hSV2, ?_⟩
  clear hK K hS
  have hS := hSV2
  clear hSV2
  try simp only [Act.put, List.setIfInBounds_toArray, List.set_cons_succ, List.set_cons_zero]
  refine wpAnyH_take (i := 13) (v := .pointer (some ⟨eb, 0, none⟩)) rfl (by kernel_rfl) (by kernel_rfl) (by kernel_rfl) (fun _ _ _ h => h) (Or.inl ⟨by rfl, ?r⟩) hS ?_
  case r => intro W hW; simp [go_sem, execOp, Act.eval]
  simp only [List.getElem_toArray, List.getElem_cons_zero, List.getElem_cons_succ, Act.put, List.setIfInBounds_toArray, List.set_cons_succ, List.set_cons_zero]
  refine wpAnyH_take (i := 14) (v := .pointer (some ⟨eb, 11, none⟩)) rfl (by kernel_rfl) (by kernel_rfl) (by kernel_rfl) (fun _ _ _ h => h) (Or.inl ⟨by rfl, ?r⟩) hS ?_
  case r => intro W hW; simp [go_sem, execOp, Act.eval]
  simp only [List.getElem_toArray, List.getElem_cons_zero, List.getElem_cons_succ, Act.put, List.setIfInBounds_toArray, List.set_cons_succ, List.set_cons_zero]
  obtain ⟨ec2, ef2⟩ := cells_of he2
  refine wpAnyH_all (rs := [15]) (by kernel_rfl) (by simp) (fun i2 hi2 => ?_)
  obtain rfl : i2 = 15 := by simpa using hi2
  clear hi2
  refine wpOp_step rfl (fun K hK => ite_yes rfl ?_)
  simp only [List.getElem_toArray, List.getElem_cons_zero, List.getElem_cons_succ]
  go_simp
  obtain ⟨V3, hV3⟩ : ∃ W, W = V2.setCell ⟨eb, 11, none⟩ (.pointer (some ⟨cb, 6, none⟩)) := ⟨_, rfl⟩
  rw [← hV3]
  have kV3 : Kp (· = eb) V2 V3 := by rw [hV3]; exact Kp.set _ _ _ _ rfl
  have he3 : V3.heap[eb]? = some (.cells #[a0, a1, a2, a3, a4, a5, a6, a7, a8, a9, .pointer (some ⟨rb, 0, none⟩), .pointer (some ⟨cb, 6, none⟩)] 72) := by rw [hV3]; exact heap_set he2 11 _
  clear hV3
  have hc3 : V3.heap[cb]? = _ := (kV3.block _ (heap_lt hc2) hne).trans hc2
  have hSV3 : (∀ j, V3.cell? ⟨cb, j, none⟩ = (#[d0, d1, d2, d3, d4, d5, d6, d7, d8, d9, d10, d11, d12, d13, d14, d15, .pointer (some ⟨rb, 0, none⟩), nw] : Array Value)[j]?) := (cells_of hc3).1
  refine hK _ _ ⟨hSV3, ?_⟩
  clear hK K hS
  have hS := hSV3
  clear hSV3
  try simp only [Act.put, List.setIfInBounds_toArray, List.set_cons_succ, List.set_cons_zero]
  refine wpAnyH_done (by kernel_rfl) ?_ _
  refine NoPanic.normal ?_
  try simp only [Act.put]
  have kA : Kp (fun i => i = cb ∨ i = eb) w V3 := (kV1.trans kV2 fun _ _ h => Or.inr h).trans kV3 fun _ _ h => Or.inr h
  clear hS
  go_wp2_with fail
  refine wp_region_noPanic ?_
  refine wp_region_held (S := fun W => (∀ j, W.cell? ⟨eb, j, none⟩ = (#[a0, a1, a2, a3, a4, a5, a6, a7, a8, a9, .pointer (some ⟨rb, 0, none⟩), .pointer (some ⟨cb, 6, none⟩)] : Array Value)[j]?)) (by kernel_rfl) ?_
  obtain ⟨V4, hV4⟩ : ∃ W4, W4 = (V3).drew := ⟨_, rfl⟩
  have e4 : ({ V3 with drawn := (V3).drawn + 1 } : World) = V4 := hV4.symm
  rw [e4]
  have hB4 : Below (V3).heap.size (V3) V4 := by rw [hV4]; exact (Below.refl _ _).drew
  have hS : (∀ j, V4.cell? ⟨eb, j, none⟩ = (#[a0, a1, a2, a3, a4, a5, a6, a7, a8, a9, .pointer (some ⟨rb, 0, none⟩), .pointer (some ⟨cb, 6, none⟩)] : Array Value)[j]?) := (cells_of ((hB4.block _ (heap_lt he3)).trans he3)).1
  have HV4 : Hid (V4 = (V3).drew) := hV4
  clear e4 hV4
  refine wpAnyH_take (i := 0) (v := .pointer (some ⟨eb, 0, none⟩)) rfl (by kernel_rfl) (by kernel_rfl) (by kernel_rfl) (fun _ _ _ h => h) (Or.inl ⟨by rfl, ?r⟩) hS ?_
  case r => intro W hW; simp [go_sem, execOp, Act.eval]
  simp only [List.getElem_toArray, List.getElem_cons_zero, Act.put, List.setIfInBounds_toArray, List.set_cons_succ, List.set_cons_zero]
  refine wpAnyH_take (i := 1) (v := .pointer (some ⟨eb, 0, none⟩)) rfl (by kernel_rfl) (by kernel_rfl) (by kernel_rfl) (fun _ _ _ h => h) (Or.inl ⟨by rfl, ?r⟩) hS ?_
  case r => intro W hW; simp [go_sem, execOp, Act.eval]
  simp only [List.getElem_toArray, List.getElem_cons_zero, List.getElem_cons_succ, Act.put, List.setIfInBounds_toArray, List.set_cons_succ, List.set_cons_zero]
  refine wpAnyH_take (i := 2) (v := .pointer (some ⟨eb, 10, none⟩)) rfl (by kernel_rfl) (by kernel_rfl) (by kernel_rfl) (fun _ _ _ h => h) (Or.inl ⟨by rfl, ?r⟩) hS ?_
  case r => intro W hW; simp [go_sem, execOp, Act.eval]
  simp only [List.getElem_toArray, List.getElem_cons_zero, List.getElem_cons_succ, Act.put, List.setIfInBounds_toArray, List.set_cons_succ, List.set_cons_zero]
  refine wpAnyH_take (i := 3) (v := .pointer (some ⟨rb, 0, none⟩)) rfl (by kernel_rfl) (by kernel_rfl) (by kernel_rfl) (fun _ _ _ h => h) (Or.inl ⟨by rfl, ?r⟩) hS ?_
  case r => intro W hW; simp [go_sem, execOp, Act.eval, hW]
  simp only [List.getElem_toArray, List.getElem_cons_zero, List.getElem_cons_succ, Act.put, List.setIfInBounds_toArray, List.set_cons_succ, List.set_cons_zero]
  refine wpAnyH_take (i := 4) (v := .pointer (some ⟨eb, 0, none⟩)) rfl (by kernel_rfl) (by kernel_rfl) (by kernel_rfl) (fun _ _ _ h => h) (Or.inl ⟨by rfl, ?r⟩) hS ?_
  case r => intro W hW; simp [go_sem, execOp, Act.eval]
  simp only [List.getElem_toArray, List.getElem_cons_zero, List.getElem_cons_succ, Act.put, List.setIfInBounds_toArray, List.set_cons_succ, List.set_cons_zero]
  refine wpAnyH_take (i := 5) (v := .pointer (some ⟨eb, 0, none⟩)) rfl (by kernel_rfl) (by kernel_rfl) (by kernel_rfl) (fun _ _ _ h => h) (Or.inl ⟨by rfl, ?r⟩) hS ?_
  case r => intro W hW; simp [go_sem, execOp, Act.eval]
  simp only [List.getElem_toArray, List.getElem_cons_zero, List.getElem_cons_succ, Act.put, List.setIfInBounds_toArray, List.set_cons_succ, List.set_cons_zero]
  refine wpAnyH_take (i := 6) (v := .pointer (some ⟨eb, 11, none⟩)) rfl (by kernel_rfl) (by kernel_rfl) (by kernel_rfl) (fun _ _ _ h => h) (Or.inl ⟨by rfl, ?r⟩) hS ?_
  case r => intro W hW; simp [go_sem, execOp, Act.eval]
  simp only [List.getElem_toArray, List.getElem_cons_zero, List.getElem_cons_succ, Act.put, List.setIfInBounds_toArray, List.set_cons_succ, List.set_cons_zero]
  refine wpAnyH_take (i := 7) (v := .pointer (some ⟨cb, 6, none⟩)) rfl (by kernel_rfl) (by kernel_rfl) (by kernel_rfl) (fun _ _ _ h => h) (Or.inl ⟨by rfl, ?r⟩) hS ?_
  case r => intro W hW; simp [go_sem, execOp, Act.eval, hW]
  simp only [List.getElem_toArray, List.getElem_cons_zero, List.getElem_cons_succ, Act.put, List.setIfInBounds_toArray, List.set_cons_succ, List.set_cons_zero]
  refine wpAnyH_take (i := 8) (v := .pointer (some ⟨eb, 0, none⟩)) rfl (by kernel_rfl) (by kernel_rfl) (by kernel_rfl) (fun _ _ _ h => h) (Or.inl ⟨by rfl, ?r⟩) hS ?_
  case r => intro W hW; simp [go_sem, execOp, Act.eval]
  simp only [List.getElem_toArray, List.getElem_cons_zero, List.getElem_cons_succ, Act.put, List.setIfInBounds_toArray, List.set_cons_succ, List.set_cons_zero]
  refine wpAnyH_take (i := 9) (v := .pointer (some ⟨eb, 0, none⟩)) rfl (by kernel_rfl) (by kernel_rfl) (by kernel_rfl) (fun _ _ _ h => h) (Or.inl ⟨by rfl, ?r⟩) hS ?_
  case r => intro W hW; simp [go_sem, execOp, Act.eval]
  simp only [List.getElem_toArray, List.getElem_cons_zero, List.getElem_cons_succ, Act.put, List.setIfInBounds_toArray, List.set_cons_succ, List.set_cons_zero]
  refine wpAnyH_take (i := 10) (v := .pointer (some ⟨rb, 0, none⟩)) rfl (by kernel_rfl) (by kernel_rfl) (by kernel_rfl) (fun _ _ _ h => h) (Or.inl ⟨by rfl, ?r⟩) hS ?_
  case r => intro W hW; simp [go_sem, execOp, Act.eval]
  simp only [List.getElem_toArray, List.getElem_cons_zero, List.getElem_cons_succ, Act.put, List.setIfInBounds_toArray, List.set_cons_succ, List.set_cons_zero]
  refine wpAnyH_take (i := 11) (v := .pointer (some ⟨rb, 11, none⟩)) rfl (by kernel_rfl) (by kernel_rfl) (by kernel_rfl) (fun _ _ _ h => h) (Or.inl ⟨by rfl, ?r⟩) hS ?_
  case r => intro W hW; simp [go_sem, execOp, Act.eval]
  simp only [List.getElem_toArray, List.getElem_cons_zero, List.getElem_cons_succ, Act.put, List.setIfInBounds_toArray, List.set_cons_succ, List.set_cons_zero]
  have hc4 : V4.heap[cb]? = _ := (hB4.block _ (heap_lt hc3)).trans hc3
  have he4 : V4.heap[eb]? = _ := (hB4.block _ (heap_lt he3)).trans he3
  have hr3 : V3.heap[rb]? = _ := (kA.block _ (heap_lt hr) (by omega)).trans hr
  have hr4 : V4.heap[rb]? = _ := (hB4.block _ (heap_lt hr3)).trans hr3
  have kV4 : Kp (fun i => i = cb ∨ i = eb) V3 V4 := Kp.of hB4
  clear HV4 hB4
  obtain ⟨cc4, cf4⟩ := cells_of hc4
  obtain ⟨rc4, rf4⟩ := cells_of hr4
  refine wpAnyH_all (rs := [12]) (by kernel_rfl) (by simp) (fun i2 hi2 => ?_)
  obtain rfl : i2 = 12 := by simpa using hi2
  clear hi2
  refine wpOp_step rfl (fun K hK => ite_yes rfl ?_)
  simp only [List.getElem_toArray, List.getElem_cons_zero, List.getElem_cons_succ]
  go_simp
  obtain ⟨V5, hV5⟩ : ∃ W, W = V4.setCell ⟨rb, 11, none⟩ (.pointer (some ⟨eb, 0, none⟩)) := ⟨_, rfl⟩
  rw [← hV5]
  have kV5 : Kp (· = rb) V4 V5 := by rw [hV5]; exact Kp.set _ _ _ _ rfl
  have hr5 : V5.heap[rb]? = some (.cells #[x0, x1, x2, x3, x4, x5, x6, x7, x8, x9, ro, .pointer (some ⟨eb, 0, none⟩)] 72) := by rw [hV5]; exact heap_set hr4 11 _
  clear hV5
  have he5 : V5.heap[eb]? = _ := (kV5.block _ (heap_lt he4) (by omega)).trans he4
  have hc5 : V5.heap[cb]? = _ := (kV5.block _ (heap_lt hc4) (by omega)).trans hc4
  have hSV5 : (∀ j, V5.cell? ⟨eb, j, none⟩ = (#[a0, a1, a2, a3, a4, a5, a6, a7, a8, a9, .pointer (some ⟨rb, 0, none⟩), .pointer (some ⟨cb, 6, none⟩)] : Array Value)[j]?) := (cells_of he5).1
  refine hK _ _ ⟨hSV5, ?_⟩
  clear hK K hS
  have hS := hSV5
  clear hSV5
  try simp only [Act.put, List.setIfInBounds_toArray, List.set_cons_succ, List.set_cons_zero]
  refine wpAnyH_take (i := 13) (v := .pointer (some ⟨cb, 6, none⟩)) rfl (by kernel_rfl) (by kernel_rfl) (by kernel_rfl) (fun _ _ _ h => h) (Or.inl ⟨by rfl, ?r⟩) hS ?_
  case r => intro W hW; simp [go_sem, execOp, Act.eval]
  simp only [List.getElem_toArray, List.getElem_cons_zero, List.getElem_cons_succ, Act.put, List.setIfInBounds_toArray, List.set_cons_succ, List.set_cons_zero]
  refine wpAnyH_take (i := 14) (v := .pointer (some ⟨cb, 16, none⟩)) rfl (by kernel_rfl) (by kernel_rfl) (by kernel_rfl) (fun _ _ _ h => h) (Or.inl ⟨by rfl, ?r⟩) hS ?_
  case r => intro W hW; simp [go_sem, execOp, Act.eval]
  simp only [List.getElem_toArray, List.getElem_cons_zero, List.getElem_cons_succ, Act.put, List.setIfInBounds_toArray, List.set_cons_succ, List.set_cons_zero]
  obtain ⟨cc5, cf5⟩ := cells_of hc5
  refine wpAnyH_all (rs := [15]) (by kernel_rfl) (by simp) (fun i2 hi2 => ?_)
  obtain rfl : i2 = 15 := by simpa using hi2
  clear hi2
  refine wpOp_step rfl (fun K hK => ite_yes rfl ?_)
  simp only [List.getElem_toArray, List.getElem_cons_zero, List.getElem_cons_succ]
  go_simp
  obtain ⟨V6, hV6⟩ : ∃ W, W = V5.setCell ⟨cb, 16, none⟩ (.pointer (some ⟨eb, 0, none⟩)) := ⟨_, rfl⟩
  rw [← hV6]
  have kV6 : Kp (· = cb) V5 V6 := by rw [hV6]; exact Kp.set _ _ _ _ rfl
  have hc6 : V6.heap[cb]? = some (.cells #[d0, d1, d2, d3, d4, d5, d6, d7, d8, d9, d10, d11, d12, d13, d14, d15, .pointer (some ⟨eb, 0, none⟩), nw] 74) := by rw [hV6]; exact heap_set hc5 16 _
  clear hV6
  have he6 : V6.heap[eb]? = _ := (kV6.block _ (heap_lt he5) (by omega)).trans he5
  have hr6 : V6.heap[rb]? = _ := (kV6.block _ (heap_lt hr5) (by omega)).trans hr5
  have hSV6 : (∀ j, V6.cell? ⟨eb, j, none⟩ = (#[a0, a1, a2, a3, a4, a5, a6, a7, a8, a9, .pointer (some ⟨rb, 0, none⟩), .pointer (some ⟨cb, 6, none⟩)] : Array Value)[j]?) := (cells_of he6).1
  refine hK _ _ ⟨hSV6, ?_⟩
  clear hK K hS
  have hS := hSV6
  clear hSV6
  try simp only [Act.put, List.setIfInBounds_toArray, List.set_cons_succ, List.set_cons_zero]
  refine wpAnyH_done (by kernel_rfl) ?_ _
  refine NoPanic.normal ?_
  try simp only [Act.put]
  go_wp2_with fail
  exact bodyPost_end (v := .tuple #[]) (results_none rfl _ _ _) rfl ⟨rfl, he6, hc6, hr6, (((Kp.refl (fun i => i = cb ∨ i = eb ∨ i = rb) w).trans (kA.trans kV4 fun _ _ h => h) fun _ _ h => by omega).trans kV5 fun _ _ h => by omega).trans kV6 fun _ _ h => by omega⟩

set_option maxRecDepth 100000 in
set_option maxHeartbeats 4000000 in
theorem leave_only {d0 d1 d2 d3 d4 d5 d6 d7 d8 d9 d10 d11 d12 d13 d14 d15 a0 a1 a2 a3 a4 a5 a6 a7 a8 a9 : Value} (cb eb : Nat) (w : World) (hc : w.heap[cb]? = some (.cells #[d0, d1, d2, d3, d4, d5, d6, d7, d8, d9, d10, d11, d12, d13, d14, d15, .pointer (some ⟨eb, 0, none⟩), .pointer (some ⟨eb, 0, none⟩)] 74)) (he : w.heap[eb]? = some (.cells #[a0, a1, a2, a3, a4, a5, a6, a7, a8, a9, .pointer (some ⟨cb, 6, none⟩), .pointer (some ⟨cb, 6, none⟩)] 72)) (hne : cb ≠ eb) :
    Calls Tryz.prog 54 #[.pointer (some ⟨eb, 0, none⟩)] w fun e w' => e = .returned (.tuple #[]) ∧ w'.heap[eb]? = some (.cells #[a0, a1, a2, a3, a4, a5, a6, a7, a8, a9, .pointer (some ⟨cb, 6, none⟩), .pointer (some ⟨cb, 6, none⟩)] 72) ∧ w'.heap[cb]? = some (.cells #[d0, d1, d2, d3, d4, d5, d6, d7, d8, d9, d10, d11, d12, d13, d14, d15, .pointer (some ⟨cb, 6, none⟩), .pointer (some ⟨cb, 6, none⟩)] 74) ∧ Kp (· = cb) w w' := by
  go_enter Tryz.func54, Tryz.ntmps54
  go_wp2_with fail
  refine wp_region_noPanic ?_
  refine wp_region_held (S := fun W => (∀ j, W.cell? ⟨eb, j, none⟩ = (#[a0, a1, a2, a3, a4, a5, a6, a7, a8, a9, .pointer (some ⟨cb, 6, none⟩), .pointer (some ⟨cb, 6, none⟩)] : Array Value)[j]?)) (by kernel_rfl) ?_
  obtain ⟨V1, hV1⟩ : ∃ W4, W4 = (w).drew := ⟨_, rfl⟩
  have e4 : ({ w with drawn := (w).drawn + 1 } : World) = V1 := hV1.symm
  rw [e4]
  have hB4 : Below (w).heap.size (w) V1 := by rw [hV1]; exact (Below.refl _ _).drew
  have hS : (∀ j, V1.cell? ⟨eb, j, none⟩ = (#[a0, a1, a2, a3, a4, a5, a6, a7, a8, a9, .pointer (some ⟨cb, 6, none⟩), .pointer (some ⟨cb, 6, none⟩)] : Array Value)[j]?) := (cells_of ((hB4.block _ (heap_lt he)).trans he)).1
  have HV1 : Hid (V1 = (w).drew) := hV1
  clear e4 hV1
  refine wpAnyH_take (i := 0) (v := .pointer (some ⟨eb, 0, none⟩)) rfl (by kernel_rfl) (by kernel_rfl) (by kernel_rfl) (fun _ _ _ h => h) (Or.inl ⟨by rfl, ?r⟩) hS ?_
  case r => intro W hW; simp [go_sem, execOp, Act.eval]
  simp only [List.getElem_toArray, List.getElem_cons_zero, Act.put, List.setIfInBounds_toArray, List.set_cons_succ, List.set_cons_zero]
  refine wpAnyH_take (i := 1) (v := .pointer (some ⟨eb, 0, none⟩)) rfl (by kernel_rfl) (by kernel_rfl) (by kernel_rfl) (fun _ _ _ h => h) (Or.inl ⟨by rfl, ?r⟩) hS ?_
  case r => intro W hW; simp [go_sem, execOp, Act.eval]
  simp only [List.getElem_toArray, List.getElem_cons_zero, List.getElem_cons_succ, Act.put, List.setIfInBounds_toArray, List.set_cons_succ, List.set_cons_zero]
  refine wpAnyH_take (i := 2) (v := .pointer (some ⟨eb, 10, none⟩)) rfl (by kernel_rfl) (by kernel_rfl) (by kernel_rfl) (fun _ _ _ h => h) (Or.inl ⟨by rfl, ?r⟩) hS ?_
  case r => intro W hW; simp [go_sem, execOp, Act.eval]
  simp only [List.getElem_toArray, List.getElem_cons_zero, List.getElem_cons_succ, Act.put, List.setIfInBounds_toArray, List.set_cons_succ, List.set_cons_zero]
  refine wpAnyH_take (i := 3) (v := .pointer (some ⟨cb, 6, none⟩)) rfl (by kernel_rfl) (by kernel_rfl) (by kernel_rfl) (fun _ _ _ h => h) (Or.inl ⟨by rfl, ?r⟩) hS ?_
  case r => intro W hW; simp [go_sem, execOp, Act.eval, hW]
  simp only [List.getElem_toArray, List.getElem_cons_zero, List.getElem_cons_succ, Act.put, List.setIfInBounds_toArray, List.set_cons_succ, List.set_cons_zero]
  refine wpAnyH_take (i := 4) (v := .pointer (some ⟨eb, 0, none⟩)) rfl (by kernel_rfl) (by kernel_rfl) (by kernel_rfl) (fun _ _ _ h => h) (Or.inl ⟨by rfl, ?r⟩) hS ?_
  case r => intro W hW; simp [go_sem, execOp, Act.eval]
  simp only [List.getElem_toArray, List.getElem_cons_zero, List.getElem_cons_succ, Act.put, List.setIfInBounds_toArray, List.set_cons_succ, List.set_cons_zero]
  refine wpAnyH_take (i := 5) (v := .pointer (some ⟨eb, 0, none⟩)) rfl (by kernel_rfl) (by kernel_rfl) (by kernel_rfl) (fun _ _ _ h => h) (Or.inl ⟨by rfl, ?r⟩) hS ?_
  case r => intro W hW; simp [go_sem, execOp, Act.eval]
  simp only [List.getElem_toArray, List.getElem_cons_zero, List.getElem_cons_succ, Act.put, List.setIfInBounds_toArray, List.set_cons_succ, List.set_cons_zero]
  refine wpAnyH_take (i := 6) (v := .pointer (some ⟨eb, 11, none⟩)) rfl (by kernel_rfl) (by kernel_rfl) (by kernel_rfl) (fun _ _ _ h => h) (Or.inl ⟨by rfl, ?r⟩) hS ?_
  case r => intro W hW; simp [go_sem, execOp, Act.eval]
  simp only [List.getElem_toArray, List.getElem_cons_zero, List.getElem_cons_succ, Act.put, List.setIfInBounds_toArray, List.set_cons_succ, List.set_cons_zero]
  refine wpAnyH_take (i := 7) (v := .pointer (some ⟨cb, 6, none⟩)) rfl (by kernel_rfl) (by kernel_rfl) (by kernel_rfl) (fun _ _ _ h => h) (Or.inl ⟨by rfl, ?r⟩) hS ?_
  case r => intro W hW; simp [go_sem, execOp, Act.eval, hW]
  simp only [List.getElem_toArray, List.getElem_cons_zero, List.getElem_cons_succ, Act.put, List.setIfInBounds_toArray, List.set_cons_succ, List.set_cons_zero]
  refine wpAnyH_take (i := 8) (v := .pointer (some ⟨eb, 0, none⟩)) rfl (by kernel_rfl) (by kernel_rfl) (by kernel_rfl) (fun _ _ _ h => h) (Or.inl ⟨by rfl, ?r⟩) hS ?_
  case r => intro W hW; simp [go_sem, execOp, Act.eval]
  simp only [List.getElem_toArray, List.getElem_cons_zero, List.getElem_cons_succ, Act.put, List.setIfInBounds_toArray, List.set_cons_succ, List.set_cons_zero]
  refine wpAnyH_take (i := 9) (v := .pointer (some ⟨eb, 0, none⟩)) rfl (by kernel_rfl) (by kernel_rfl) (by kernel_rfl) (fun _ _ _ h => h) (Or.inl ⟨by rfl, ?r⟩) hS ?_
  case r => intro W hW; simp [go_sem, execOp, Act.eval]
  simp only [List.getElem_toArray, List.getElem_cons_zero, List.getElem_cons_succ, Act.put, List.setIfInBounds_toArray, List.set_cons_succ, List.set_cons_zero]
  refine wpAnyH_take (i := 10) (v := .pointer (some ⟨eb, 11, none⟩)) rfl (by kernel_rfl) (by kernel_rfl) (by kernel_rfl) (fun _ _ _ h => h) (Or.inl ⟨by rfl, ?r⟩) hS ?_
  case r => intro W hW; simp [go_sem, execOp, Act.eval]
  simp only [List.getElem_toArray, List.getElem_cons_zero, List.getElem_cons_succ, Act.put, List.setIfInBounds_toArray, List.set_cons_succ, List.set_cons_zero]
  refine wpAnyH_take (i := 11) (v := .pointer (some ⟨cb, 6, none⟩)) rfl (by kernel_rfl) (by kernel_rfl) (by kernel_rfl) (fun _ _ _ h => h) (Or.inl ⟨by rfl, ?r⟩) hS ?_
  case r => intro W hW; simp [go_sem, execOp, Act.eval, hW]
  simp only [List.getElem_toArray, List.getElem_cons_zero, List.getElem_cons_succ, Act.put, List.setIfInBounds_toArray, List.set_cons_succ, List.set_cons_zero]
  refine wpAnyH_take (i := 12) (v := .pointer (some ⟨eb, 0, none⟩)) rfl (by kernel_rfl) (by kernel_rfl) (by kernel_rfl) (fun _ _ _ h => h) (Or.inl ⟨by rfl, ?r⟩) hS ?_
  case r => intro W hW; simp [go_sem, execOp, Act.eval]
  simp only [List.getElem_toArray, List.getElem_cons_zero, List.getElem_cons_succ, Act.put, List.setIfInBounds_toArray, List.set_cons_succ, List.set_cons_zero]
  refine wpAnyH_take (i := 13) (v := .pointer (some ⟨eb, 0, none⟩)) rfl (by kernel_rfl) (by kernel_rfl) (by kernel_rfl) (fun _ _ _ h => h) (Or.inl ⟨by rfl, ?r⟩) hS ?_
  case r => intro W hW; simp [go_sem, execOp, Act.eval]
  simp only [List.getElem_toArray, List.getElem_cons_zero, List.getElem_cons_succ, Act.put, List.setIfInBounds_toArray, List.set_cons_succ, List.set_cons_zero]
  refine wpAnyH_take (i := 14) (v := .pointer (some ⟨eb, 10, none⟩)) rfl (by kernel_rfl) (by kernel_rfl) (by kernel_rfl) (fun _ _ _ h => h) (Or.inl ⟨by rfl, ?r⟩) hS ?_
  case r => intro W hW; simp [go_sem, execOp, Act.eval]
  simp only [List.getElem_toArray, List.getElem_cons_zero, List.getElem_cons_succ, Act.put, List.setIfInBounds_toArray, List.set_cons_succ, List.set_cons_zero]
  refine wpAnyH_take (i := 15) (v := .pointer (some ⟨cb, 6, none⟩)) rfl (by kernel_rfl) (by kernel_rfl) (by kernel_rfl) (fun _ _ _ h => h) (Or.inl ⟨by rfl, ?r⟩) hS ?_
  case r => intro W hW; simp [go_sem, execOp, Act.eval, hW]
  simp only [List.getElem_toArray, List.getElem_cons_zero, List.getElem_cons_succ, Act.put, List.setIfInBounds_toArray, List.set_cons_succ, List.set_cons_zero]
  have hc1 : V1.heap[cb]? = _ := (hB4.block _ (heap_lt hc)).trans hc
  have he1 : V1.heap[eb]? = _ := (hB4.block _ (heap_lt he)).trans he
  have kV1 : Kp (· = cb) w V1 := Kp.of hB4
  clear HV1 hB4
  obtain ⟨cc1, cf1⟩ := cells_of hc1
  refine wpAnyH_take (i := 16) (v := .pointer (some ⟨cb, 6, none⟩)) rfl (by kernel_rfl) (by kernel_rfl) (by kernel_rfl) (fun _ _ _ h => h) (Or.inl ⟨by rfl, ?r⟩) hS ?_
  case r => intro W hW; simp [go_sem, execOp, Act.eval]
  simp only [List.getElem_toArray, List.getElem_cons_zero, List.getElem_cons_succ, Act.put, List.setIfInBounds_toArray, List.set_cons_succ, List.set_cons_zero]
  refine wpAnyH_take (i := 17) (v := .pointer (some ⟨cb, 17, none⟩)) rfl (by kernel_rfl) (by kernel_rfl) (by kernel_rfl) (fun _ _ _ h => h) (Or.inl ⟨by rfl, ?r⟩) hS ?_
  case r => intro W hW; simp [go_sem, execOp, Act.eval]
  simp only [List.getElem_toArray, List.getElem_cons_zero, List.getElem_cons_succ, Act.put, List.setIfInBounds_toArray, List.set_cons_succ, List.set_cons_zero]
  refine wpAnyH_all (rs := [18]) (by kernel_rfl) (by simp) (fun i2 hi2 => ?_)
  obtain rfl : i2 = 18 := by simpa using hi2
  clear hi2
  refine wpOp_step rfl (fun K hK => ite_yes rfl ?_)
  simp only [List.getElem_toArray, List.getElem_cons_zero, List.getElem_cons_succ]
  go_simp
  obtain ⟨V2, hV2⟩ : ∃ W, W = V1.setCell ⟨cb, 17, none⟩ (.pointer (some ⟨cb, 6, none⟩)) := ⟨_, rfl⟩
  rw [← hV2]
  have kV2 : Kp (· = cb) V1 V2 := by rw [hV2]; exact Kp.set _ _ _ _ rfl
  have hc2 : V2.heap[cb]? = some (.cells #[d0, d1, d2, d3, d4, d5, d6, d7, d8, d9, d10, d11, d12, d13, d14, d15, .pointer (some ⟨eb, 0, none⟩), .pointer (some ⟨cb, 6, none⟩)] 74) := by rw [hV2]; exact heap_set hc1 17 _
  clear hV2
  have he2 : V2.heap[eb]? = _ := (kV2.block _ (heap_lt he1) (Ne.symm hne)).trans he1
  have hSV2 : (∀ j, V2.cell? ⟨eb, j, none⟩ = (#[a0, a1, a2, a3, a4, a5, a6, a7, a8, a9, .pointer (some ⟨cb, 6, none⟩), .pointer (some ⟨cb, 6, none⟩)] : Array Value)[j]?) := (cells_of he2).1
  refine hK _ _ ⟨hSV2, ?_⟩
  clear hK K hS
  have hS := hSV2
  clear hSV2
  try simp only [Act.put, List.setIfInBounds_toArray, List.set_cons_succ, List.set_cons_zero]
  refine wpAnyH_take (i := 19) (v := .pointer (some ⟨cb, 6, none⟩)) rfl (by kernel_rfl) (by kernel_rfl) (by kernel_rfl) (fun _ _ _ h => h) (Or.inl ⟨by rfl, ?r⟩) hS ?_
  case r => intro W hW; simp [go_sem, execOp, Act.eval]
  simp only [List.getElem_toArray, List.getElem_cons_zero, List.getElem_cons_succ, Act.put, List.setIfInBounds_toArray, List.set_cons_succ, List.set_cons_zero]
  refine wpAnyH_take (i := 20) (v := .pointer (some ⟨cb, 16, none⟩)) rfl (by kernel_rfl) (by kernel_rfl) (by kernel_rfl) (fun _ _ _ h => h) (Or.inl ⟨by rfl, ?r⟩) hS ?_
  case r => intro W hW; simp [go_sem, execOp, Act.eval]
  simp only [List.getElem_toArray, List.getElem_cons_zero, List.getElem_cons_succ, Act.put, List.setIfInBounds_toArray, List.set_cons_succ, List.set_cons_zero]
  obtain ⟨cc2, cf2⟩ := cells_of hc2
  refine wpAnyH_all (rs := [21]) (by kernel_rfl) (by simp) (fun i2 hi2 => ?_)
  obtain rfl : i2 = 21 := by simpa using hi2
  clear hi2
  refine wpOp_step rfl (fun K hK => ite_yes rfl ?_)
  simp only [List.getElem_toArray, List.getElem_cons_zero, List.getElem_cons_succ]
  go_simp
  obtain ⟨V3, hV3⟩ : ∃ W, W = V2.setCell ⟨cb, 16, none⟩ (.pointer (some ⟨cb, 6, none⟩)) := ⟨_, rfl⟩
  rw [← hV3]
  have kV3 : Kp (· = cb) V2 V3 := by rw [hV3]; exact Kp.set _ _ _ _ rfl
  have hc3 : V3.heap[cb]? = some (.cells #[d0, d1, d2, d3, d4, d5, d6, d7, d8, d9, d10, d11, d12, d13, d14, d15, .pointer (some ⟨cb, 6, none⟩), .pointer (some ⟨cb, 6, none⟩)] 74) := by rw [hV3]; exact heap_set hc2 16 _
  clear hV3
  have he3 : V3.heap[eb]? = _ := (kV3.block _ (heap_lt he2) (Ne.symm hne)).trans he2
  have hSV3 : (∀ j, V3.cell? ⟨eb, j, none⟩ = (#[a0, a1, a2, a3, a4, a5, a6, a7, a8, a9, .pointer (some ⟨cb, 6, none⟩), .pointer (some ⟨cb, 6, none⟩)] : Array Value)[j]?) := (cells_of he3).1
  refine hK _ _ ⟨hSV3, ?_⟩
  clear hK K hS
  have hS := hSV3
  clear hSV3
  try simp only [Act.put, List.setIfInBounds_toArray, List.set_cons_succ, List.set_cons_zero]
  refine wpAnyH_done (by kernel_rfl) ?_ _
  refine NoPanic.normal ?_
  try simp only [Act.put]
  go_wp2_with fail
  exact bodyPost_end (v := .tuple #[]) (results_none rfl _ _ _) rfl ⟨rfl, he3, hc3, (kV1.trans kV2 fun _ _ h => h).trans kV3 fun _ _ h => h⟩

end Go.Proofs.YtaboeocgoocgfaaGreatDoor
