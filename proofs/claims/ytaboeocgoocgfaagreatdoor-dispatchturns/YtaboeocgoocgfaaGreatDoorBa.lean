/-
  A cache in memory: the oldest entry of a longer ring leaves it.
-/
import Derived.Test.YtaboeocgoocgfaaGreatDoorY
namespace Go.Proofs.YtaboeocgoocgfaaGreatDoor
open Go.RowKit Go.ChangeMaps

set_option maxRecDepth 100000 in
set_option maxHeartbeats 4000000 in
theorem leave_head {d0 d1 d2 d3 d4 d5 d6 d7 d8 d9 d10 d11 d12 d13 d14 d15 a0 a1 a2 a3 a4 a5 a6 a7 a8 a9 x0 x1 x2 x3 x4 x5 x6 x7 x8 x9 : Value} (cb eb nb : Nat) (co no nn : Value) (w : World) (hc : w.heap[cb]? = some (.cells #[d0, d1, d2, d3, d4, d5, d6, d7, d8, d9, d10, d11, d12, d13, d14, d15, co, .pointer (some ⟨eb, 0, none⟩)] 74)) (he : w.heap[eb]? = some (.cells #[a0, a1, a2, a3, a4, a5, a6, a7, a8, a9, .pointer (some ⟨cb, 6, none⟩), .pointer (some ⟨nb, 0, none⟩)] 72)) (hn : w.heap[nb]? = some (.cells #[x0, x1, x2, x3, x4, x5, x6, x7, x8, x9, no, nn] 72)) (hne : cb ≠ eb) (hnc : nb ≠ cb) (hne2 : nb ≠ eb) :
    Calls Tryz.prog 54 #[.pointer (some ⟨eb, 0, none⟩)] w fun e w' => e = .returned (.tuple #[]) ∧ w'.heap[eb]? = some (.cells #[a0, a1, a2, a3, a4, a5, a6, a7, a8, a9, .pointer (some ⟨cb, 6, none⟩), .pointer (some ⟨nb, 0, none⟩)] 72) ∧ w'.heap[cb]? = some (.cells #[d0, d1, d2, d3, d4, d5, d6, d7, d8, d9, d10, d11, d12, d13, d14, d15, co, .pointer (some ⟨nb, 0, none⟩)] 74) ∧ w'.heap[nb]? = some (.cells #[x0, x1, x2, x3, x4, x5, x6, x7, x8, x9, .pointer (some ⟨cb, 6, none⟩), nn] 72) ∧ Kp (fun i => i = cb ∨ i = nb) w w' := by
  go_enter Tryz.func54, Tryz.ntmps54
  go_wp2_with fail
  refine wp_region_noPanic ?_
  refine wp_region_held (S := fun W => (∀ j, W.cell? ⟨eb, j, none⟩ = (#[a0, a1, a2, a3, a4, a5, a6, a7, a8, a9, .pointer (some ⟨cb, 6, none⟩), .pointer (some ⟨nb, 0, none⟩)] : Array Value)[j]?)) (by kernel_rfl) ?_
  obtain ⟨V1, hV1⟩ : ∃ W4, W4 = (w).drew := ⟨_, rfl⟩
  have e4 : ({ w with drawn := (w).drawn + 1 } : World) = V1 := hV1.symm
  rw [e4]
  have hB4 : Below (w).heap.size (w) V1 := by rw [hV1]; exact (Below.refl _ _).drew
  have hS : (∀ j, V1.cell? ⟨eb, j, none⟩ = (#[a0, a1, a2, a3, a4, a5, a6, a7, a8, a9, .pointer (some ⟨cb, 6, none⟩), .pointer (some ⟨nb, 0, none⟩)] : Array Value)[j]?) := (cells_of ((hB4.block _ (heap_lt he)).trans he)).1
  have HV1 : Hid (V1 = (w).drew) := hV1
  clear e4 hV1
  refine wpAnyH_take (i := 0) (v := .pointer (some ⟨eb, 0, none⟩)) rfl (by kernel_rfl) (by kernel_rfl) (by kernel_rfl) (fun _ _ _ h => h) (Or.inl ⟨by rfl, ?r⟩) hS ?_
  case r => intro W hW; simp [go_sem, execOp, Act.eval]
  simp only [List.getElem_toArray, List.getElem_cons_zero, Act.put, List.setIfInBounds_toArray, List.set_cons_succ, List.set_cons_zero]
  refine wpAnyH_take (i := 1) (v := .pointer (some ⟨eb, 0, none⟩)) rfl (by kernel_rfl) (by kernel_rfl) (by kernel_rfl) (fun _ _ _ h => h) (Or.inl ⟨by rfl, ?r⟩) hS ?_
  case r => intro W hW; simp [go_sem, execOp, Act.eval]
  simp only [List.getElem_toArray, List.getElem_cons_zero, List.getElem_cons_succ, Act.put, List.setIfInBounds_toArray, List.set_cons_succ, List.set_cons_zero]
  refine wpAnyH_take (i := 2) (v := .pointer (some ⟨eb, 10, none⟩)) rfl (by kernel_rfl) (by kernel_rfl) (by kernel_rfl) (fun _ _ _ h => h) (Or.inl ⟨by rfl, ?r⟩) hS ?_
  case r => intro W hW; simp [go_sem, execOp, Act.eval]
  simp only [List.getElem_toArray, List.getElem_cons_zero, List.getElem_cons_succ, Act.put, List.setIfInBounds_toArray, List.set_cons_succ, List.set_cons_zero]
  refine wpAnyH_take (i := 3) (v := .pointer (some ⟨cb, 6, none⟩)) rfl (by kernel_rfl) (by kernel_rfl) (by kernel_rfl) (fun _ _ _ h => h) (Or.inl ⟨by rfl, ?r⟩) hS ?_
  case r => intro W hW; simp [go_sem, execOp, Act.eval, hW]
  simp only [List.getElem_toArray, List.getElem_cons_zero, List.getElem_cons_succ, Act.put, List.setIfInBounds_toArray, List.set_cons_succ, List.set_cons_zero]
  refine wpAnyH_take (i := 4) (v := .pointer (some ⟨eb, 0, none⟩)) rfl (by kernel_rfl) (by kernel_rfl) (by kernel_rfl) (fun _ _ _ h => h) (Or.inl ⟨by rfl, ?r⟩) hS ?_
  case r => intro W hW; simp [go_sem, execOp, Act.eval]
  simp only [List.getElem_toArray, List.getElem_cons_zero, List.getElem_cons_succ, Act.put, List.setIfInBounds_toArray, List.set_cons_succ, List.set_cons_zero]
  refine wpAnyH_take (i := 5) (v := .pointer (some ⟨eb, 0, none⟩)) rfl (by kernel_rfl) (by kernel_rfl) (by kernel_rfl) (fun _ _ _ h => h) (Or.inl ⟨by rfl, ?r⟩) hS ?_
  case r => intro W hW; simp [go_sem, execOp, Act.eval]
  simp only [List.getElem_toArray, List.getElem_cons_zero, List.getElem_cons_succ, Act.put, List.setIfInBounds_toArray, List.set_cons_succ, List.set_cons_zero]
  refine wpAnyH_take (i := 6) (v := .pointer (some ⟨eb, 11, none⟩)) rfl (by kernel_rfl) (by kernel_rfl) (by kernel_rfl) (fun _ _ _ h => h) (Or.inl ⟨by rfl, ?r⟩) hS ?_
  case r => intro W hW; simp [go_sem, execOp, Act.eval]
  simp only [List.getElem_toArray, List.getElem_cons_zero, List.getElem_cons_succ, Act.put, List.setIfInBounds_toArray, List.set_cons_succ, List.set_cons_zero]
  refine wpAnyH_take (i := 7) (v := .pointer (some ⟨nb, 0, none⟩)) rfl (by kernel_rfl) (by kernel_rfl) (by kernel_rfl) (fun _ _ _ h => h) (Or.inl ⟨by rfl, ?r⟩) hS ?_
  case r => intro W hW; simp [go_sem, execOp, Act.eval, hW]
  simp only [List.getElem_toArray, List.getElem_cons_zero, List.getElem_cons_succ, Act.put, List.setIfInBounds_toArray, List.set_cons_succ, List.set_cons_zero]
  refine wpAnyH_take (i := 8) (v := .pointer (some ⟨eb, 0, none⟩)) rfl (by kernel_rfl) (by kernel_rfl) (by kernel_rfl) (fun _ _ _ h => h) (Or.inl ⟨by rfl, ?r⟩) hS ?_
  case r => intro W hW; simp [go_sem, execOp, Act.eval]
  simp only [List.getElem_toArray, List.getElem_cons_zero, List.getElem_cons_succ, Act.put, List.setIfInBounds_toArray, List.set_cons_succ, List.set_cons_zero]
  refine wpAnyH_take (i := 9) (v := .pointer (some ⟨eb, 0, none⟩)) rfl (by kernel_rfl) (by kernel_rfl) (by kernel_rfl) (fun _ _ _ h => h) (Or.inl ⟨by rfl, ?r⟩) hS ?_
  case r => intro W hW; simp [go_sem, execOp, Act.eval]
  simp only [List.getElem_toArray, List.getElem_cons_zero, List.getElem_cons_succ, Act.put, List.setIfInBounds_toArray, List.set_cons_succ, List.set_cons_zero]
  refine wpAnyH_take (i := 10) (v := .pointer (some ⟨eb, 11, none⟩)) rfl (by kernel_rfl) (by kernel_rfl) (by kernel_rfl) (fun _ _ _ h => h) (Or.inl ⟨by rfl, ?r⟩) hS ?_
  case r => intro W hW; simp [go_sem, execOp, Act.eval]
  simp only [List.getElem_toArray, List.getElem_cons_zero, List.getElem_cons_succ, Act.put, List.setIfInBounds_toArray, List.set_cons_succ, List.set_cons_zero]
  refine wpAnyH_take (i := 11) (v := .pointer (some ⟨nb, 0, none⟩)) rfl (by kernel_rfl) (by kernel_rfl) (by kernel_rfl) (fun _ _ _ h => h) (Or.inl ⟨by rfl, ?r⟩) hS ?_
  case r => intro W hW; simp [go_sem, execOp, Act.eval, hW]
  simp only [List.getElem_toArray, List.getElem_cons_zero, List.getElem_cons_succ, Act.put, List.setIfInBounds_toArray, List.set_cons_succ, List.set_cons_zero]
  refine wpAnyH_take (i := 12) (v := .pointer (some ⟨eb, 0, none⟩)) rfl (by kernel_rfl) (by kernel_rfl) (by kernel_rfl) (fun _ _ _ h => h) (Or.inl ⟨by rfl, ?r⟩) hS ?_
  case r => intro W hW; simp [go_sem, execOp, Act.eval]
  simp only [List.getElem_toArray, List.getElem_cons_zero, List.getElem_cons_succ, Act.put, List.setIfInBounds_toArray, List.set_cons_succ, List.set_cons_zero]
  refine wpAnyH_take (i := 13) (v := .pointer (some ⟨eb, 0, none⟩)) rfl (by kernel_rfl) (by kernel_rfl) (by kernel_rfl) (fun _ _ _ h => h) (Or.inl ⟨by rfl, ?r⟩) hS ?_
  case r => intro W hW; simp [go_sem, execOp, Act.eval]
  simp only [List.getElem_toArray, List.getElem_cons_zero, List.getElem_cons_succ, Act.put, List.setIfInBounds_toArray, List.set_cons_succ, List.set_cons_zero]
  refine wpAnyH_take (i := 14) (v := .pointer (some ⟨eb, 10, none⟩)) rfl (by kernel_rfl) (by kernel_rfl) (by kernel_rfl) (fun _ _ _ h => h) (Or.inl ⟨by rfl, ?r⟩) hS ?_
  case r => intro W hW; simp [go_sem, execOp, Act.eval]
  simp only [List.getElem_toArray, List.getElem_cons_zero, List.getElem_cons_succ, Act.put, List.setIfInBounds_toArray, List.set_cons_succ, List.set_cons_zero]
  refine wpAnyH_take (i := 15) (v := .pointer (some ⟨cb, 6, none⟩)) rfl (by kernel_rfl) (by kernel_rfl) (by kernel_rfl) (fun _ _ _ h => h) (Or.inl ⟨by rfl, ?r⟩) hS ?_
  case r => intro W hW; simp [go_sem, execOp, Act.eval, hW]
  simp only [List.getElem_toArray, List.getElem_cons_zero, List.getElem_cons_succ, Act.put, List.setIfInBounds_toArray, List.set_cons_succ, List.set_cons_zero]
  have hc1 : V1.heap[cb]? = _ := (hB4.block _ (heap_lt hc)).trans hc
  have he1 : V1.heap[eb]? = _ := (hB4.block _ (heap_lt he)).trans he
  have hn1 : V1.heap[nb]? = _ := (hB4.block _ (heap_lt hn)).trans hn
  have kV1 : Kp (fun i => i = cb ∨ i = nb) w V1 := Kp.of hB4
  clear HV1 hB4
  obtain ⟨cc1, cf1⟩ := cells_of hc1
  refine wpAnyH_take (i := 16) (v := .pointer (some ⟨cb, 6, none⟩)) rfl (by kernel_rfl) (by kernel_rfl) (by kernel_rfl) (fun _ _ _ h => h) (Or.inl ⟨by rfl, ?r⟩) hS ?_
  case r => intro W hW; simp [go_sem, execOp, Act.eval]
  simp only [List.getElem_toArray, List.getElem_cons_zero, List.getElem_cons_succ, Act.put, List.setIfInBounds_toArray, List.set_cons_succ, List.set_cons_zero]
  refine wpAnyH_take (i := 17) (v := .pointer (some ⟨cb, 17, none⟩)) rfl (by kernel_rfl) (by kernel_rfl) (by kernel_rfl) (fun _ _ _ h => h) (Or.inl ⟨by rfl, ?r⟩) hS ?_
  case r => intro W hW; simp [go_sem, execOp, Act.eval]
  simp only [List.getElem_toArray, List.getElem_cons_zero, List.getElem_cons_succ, Act.put, List.setIfInBounds_toArray, List.set_cons_succ, List.set_cons_zero]
  refine wpAnyH_all (rs := [18]) (by kernel_rfl) (by simp) (fun i2 hi2 => ?_)
  obtain rfl : i2 = 18 := by simpa using hi2
  clear hi2
  refine wpOp_step rfl (fun K hK => ite_yes rfl ?_)
  simp only [List.getElem_toArray, List.getElem_cons_zero, List.getElem_cons_succ]
  go_simp
  obtain ⟨V2, hV2⟩ : ∃ W, W = V1.setCell ⟨cb, 17, none⟩ (.pointer (some ⟨nb, 0, none⟩)) := ⟨_, rfl⟩
  rw [← hV2]
  have kV2 : Kp (· = cb) V1 V2 := by rw [hV2]; exact Kp.set _ _ _ _ rfl
  have hc2 : V2.heap[cb]? = some (.cells #[d0, d1, d2, d3, d4, d5, d6, d7, d8, d9, d10, d11, d12, d13, d14, d15, co, .pointer (some ⟨nb, 0, none⟩)] 74) := by rw [hV2]; exact heap_set hc1 17 _
  clear hV2
  have he2 : V2.heap[eb]? = _ := (kV2.block _ (heap_lt he1) (Ne.symm hne)).trans he1
  have hn2 : V2.heap[nb]? = _ := (kV2.block _ (heap_lt hn1) hnc).trans hn1
  have hSV2 : (∀ j, V2.cell? ⟨eb, j, none⟩ = (#[a0, a1, a2, a3, a4, a5, a6, a7, a8, a9, .pointer (some ⟨cb, 6, none⟩), .pointer (some ⟨nb, 0, none⟩)] : Array Value)[j]?) := (cells_of he2).1
  refine hK _ _ ⟨hSV2, ?_⟩
  clear hK K hS
  have hS := hSV2
  clear hSV2
  try simp only [Act.put, List.setIfInBounds_toArray, List.set_cons_succ, List.set_cons_zero]
  refine wpAnyH_take (i := 19) (v := .pointer (some ⟨nb, 0, none⟩)) rfl (by kernel_rfl) (by kernel_rfl) (by kernel_rfl) (fun _ _ _ h => h) (Or.inl ⟨by rfl, ?r⟩) hS ?_
  case r => intro W hW; simp [go_sem, execOp, Act.eval]
  simp only [List.getElem_toArray, List.getElem_cons_zero, List.getElem_cons_succ, Act.put, List.setIfInBounds_toArray, List.set_cons_succ, List.set_cons_zero]
  refine wpAnyH_take (i := 20) (v := .pointer (some ⟨nb, 10, none⟩)) rfl (by kernel_rfl) (by kernel_rfl) (by kernel_rfl) (fun _ _ _ h => h) (Or.inl ⟨by rfl, ?r⟩) hS ?_
  case r => intro W hW; simp [go_sem, execOp, Act.eval]
  simp only [List.getElem_toArray, List.getElem_cons_zero, List.getElem_cons_succ, Act.put, List.setIfInBounds_toArray, List.set_cons_succ, List.set_cons_zero]
  obtain ⟨nc2, nf2⟩ := cells_of hn2
  refine wpAnyH_all (rs := [21]) (by kernel_rfl) (by simp) (fun i2 hi2 => ?_)
  obtain rfl : i2 = 21 := by simpa using hi2
  clear hi2
  refine wpOp_step rfl (fun K hK => ite_yes rfl ?_)
  simp only [List.getElem_toArray, List.getElem_cons_zero, List.getElem_cons_succ]
  go_simp
  obtain ⟨V3, hV3⟩ : ∃ W, W = V2.setCell ⟨nb, 10, none⟩ (.pointer (some ⟨cb, 6, none⟩)) := ⟨_, rfl⟩
  rw [← hV3]
  have kV3 : Kp (· = nb) V2 V3 := by rw [hV3]; exact Kp.set _ _ _ _ rfl
  have hn3 : V3.heap[nb]? = some (.cells #[x0, x1, x2, x3, x4, x5, x6, x7, x8, x9, .pointer (some ⟨cb, 6, none⟩), nn] 72) := by rw [hV3]; exact heap_set hn2 10 _
  clear hV3
  have he3 : V3.heap[eb]? = _ := (kV3.block _ (heap_lt he2) (Ne.symm hne2)).trans he2
  have hc3 : V3.heap[cb]? = _ := (kV3.block _ (heap_lt hc2) (Ne.symm hnc)).trans hc2
  have hSV3 : (∀ j, V3.cell? ⟨eb, j, none⟩ = (#[a0, a1, a2, a3, a4, a5, a6, a7, a8, a9, .pointer (some ⟨cb, 6, none⟩), .pointer (some ⟨nb, 0, none⟩)] : Array Value)[j]?) := (cells_of he3).1
  refine hK _ _ ⟨hSV3, ?_⟩
  clear hK K hS
  have hS := hSV3
  clear hSV3
  try simp only [Act.put, List.setIfInBounds_toArray, List.set_cons_succ, List.set_cons_zero]
  refine wpAnyH_done (by kernel_rfl) ?_ _
  refine NoPanic.normal ?_
  try simp only [Act.put]
  go_wp2_with fail
  exact bodyPost_end (v := .tuple #[]) (results_none rfl _ _ _) rfl ⟨rfl, he3, hc3, hn3, (kV1.trans kV2 fun _ _ h => Or.inl h).trans kV3 fun _ _ h => Or.inr h⟩

end Go.Proofs.YtaboeocgoocgfaaGreatDoor
