/-
  What a cache gives out.
-/
import Derived.Test.YtaboeocgoocgfaaGreatDoorAc
namespace Go.Proofs.YtaboeocgoocgfaaGreatDoor
open Go.RowKit Go.ChangeMaps

set_option maxRecDepth 100000 in
set_option maxHeartbeats 4000000 in
theorem clone_one (pg pc : Nat) (w : World) (hpl : pg < w.heap.size) (hp : w.cell? ⟨pg, 0, none⟩ = some (.int .i64 0)) :
    Calls Tryz.prog 53 #[.slice (some ⟨pg, 0, none⟩) 1 pc] w fun e w' => ∃ ng nc, e = .returned (.slice (some ⟨ng, 0, none⟩) 1 nc) ∧ w.heap.size ≤ ng ∧ ng < w'.heap.size ∧ Below w.heap.size w w' := by
  have he : ∀ W, Sem.run Tryz.prog (binOp .eql 48 (.slice (some ⟨pg, 0, none⟩) 1 pc) (.slice none 0 0)) W = .ok (.bool false) W := fun W => by kernel_rfl
  have hpc' : (w.alloc (.cells #[] 3)).cell? ⟨pg, 0, none⟩ = some (.int .i64 0) := (World.cell?_of_block (a := ⟨pg, 0, none⟩) (heap_old w (.cells #[] 3) pg hpl)).trans hp
  have e0 : (w.alloc (.cells #[] 3)).heap[w.heap.size]? = some (.cells #[] 3) := heap_new _ _ _ rfl
  obtain ⟨i0, hi, hz0, hz1, hz2⟩ := info_parts info3
  obtain ⟨U0, hU0⟩ : ∃ W, W = w.alloc (.cells #[] 3) := ⟨_, rfl⟩
  rw [← hU0] at hpc' e0
  have u0 : Below w.heap.size w U0 := by rw [hU0]; exact below1 w _
  have y0 : w.heap.size < U0.heap.size := by rw [hU0]; simp
  go_enter Tryz.func53, Tryz.ntmps53
  go_wp2_with (at_builtin; rw [← hU0]; clear hU0; refine wpList_append_own _ rfl _ _ 48 rfl w.heap.size 3 i0 (.int .i64 0) 1 8 Tryz.underlying48 hi hz0 hz1 hz2 rfl (by decide) _ 0 [] rfl ⟨rfl, .inr ⟨w.heap.size, 0, #[], rfl, Nat.le_refl _, e0, Nat.le_refl _, by decide, rfl, rfl⟩⟩ ⟨pg, 0, none⟩ 1 pc [.int .i64 0] rfl rfl ?hn ?h1 (by decide) (by decide) (by omega) ?hc)
  case hn =>
    intro j u hj
    cases j with
    | zero => simp at hj; subst hj; rw [add_at]; exact hpc'
    | succ j => simp at hj
  case h1 => intro u hu; simp at hu; subst hu; rfl
  intro v' U1 hown hgr hnil
  rcases hown.2 with ⟨h0, _⟩ | ⟨ng, nc, cur, rfl, h2, h3, h4, h5, h6, h7⟩
  · exact absurd h0 hnil
  · go_wp2_with fail
    go_ret
    have z := hgr.size
    exact ⟨ng, nc, rfl, by omega, heap_lt h3, u0.trans ⟨hgr.os, hgr.tape, hgr.output, hgr.size, fun k hk => hgr.block k (by omega) (by simp [Value.ownBlock]; omega)⟩⟩

set_option maxRecDepth 100000 in
set_option maxHeartbeats 4000000 in
theorem copied_X (pg pc : Nat) (w : World) (hpl : pg < w.heap.size) (hp : w.cell? ⟨pg, 0, none⟩ = some (.int .i64 0)) :
    Calls Tryz.prog 30 #[fndX pg pc] w fun e w' => ∃ ng nc, e = .returned (fndX ng nc) ∧ Below w.heap.size w w' := by
  go_enter Tryz.func30, Tryz.ntmps30
  go_wp2_with fail
  obtain ⟨U0, hU0⟩ : ∃ W, W = (w.alloc (.cells #[.int .i64 1, .slice (some ⟨pg, 0, none⟩) 1 pc, .string ⟨#[]⟩, .bool false, .int .i64 0] 50)).alloc (.cells #[.int .i64 0, .slice none 0 0, .string ⟨#[]⟩, .bool false, .int .i64 0] 50) := ⟨_, rfl⟩
  rw [← hU0]
  have u0 : Below w.heap.size w U0 := by rw [hU0]; exact below2 w _ _
  have y0 : w.heap.size + 1 < U0.heap.size := by rw [hU0]; simp
  have b0 : U0.heap[w.heap.size]? = some (.cells #[.int .i64 1, .slice (some ⟨pg, 0, none⟩) 1 pc, .string ⟨#[]⟩, .bool false, .int .i64 0] 50) := by rw [hU0, heap_old _ _ _ (by simp)]; exact heap_new _ _ _ rfl
  have r0 : U0.heap[w.heap.size + 1]? = some (.cells #[.int .i64 0, .slice none 0 0, .string ⟨#[]⟩, .bool false, .int .i64 0] 50) := by rw [hU0]; exact heap_new _ _ _ (by simp)
  clear hU0
  refine wp_region_noPanic ?_
  refine wp_region_held (S := fun W => W.cell? ⟨w.heap.size, 2, none⟩ = some (.string ⟨#[]⟩)) (by kernel_rfl) ?_
  obtain ⟨U1, hU1⟩ : ∃ W4, W4 = (U0).drew := ⟨_, rfl⟩
  have e4 : ({ U0 with drawn := (U0).drawn + 1 } : World) = U1 := hU1.symm
  rw [e4]
  have hB4 : Below (U0).heap.size (U0) U1 := by rw [hU1]; exact (Below.refl _ _).drew
  have hS : U1.cell? ⟨w.heap.size, 2, none⟩ = some (.string ⟨#[]⟩) := (cells_of ((hB4.block _ (by omega)).trans b0)).1 2
  have HU1 : Hid (U1 = (U0).drew) := hU1
  clear e4 hU1
  refine wpAnyH_take (i := 0) (v := .pointer (some ⟨w.heap.size, 1, none⟩)) rfl (by kernel_rfl) (by kernel_rfl) (by kernel_rfl) (fun _ _ _ h => h) (Or.inl ⟨by rfl, ?r⟩) hS ?_
  case r => intro W hW; simp [go_sem, execOp, Act.eval]
  simp only [List.getElem_toArray, List.getElem_cons_zero, Act.put, List.setIfInBounds_toArray, List.set_cons_succ, List.set_cons_zero]
  refine wpAnyH_take (i := 3) (v := .pointer (some ⟨w.heap.size, 2, none⟩)) rfl (by kernel_rfl) (by kernel_rfl) (by kernel_rfl) (fun _ _ _ h => h) (Or.inl ⟨by rfl, ?r⟩) hS ?_
  case r => intro W hW; simp [go_sem, execOp, Act.eval]
  simp only [List.getElem_toArray, List.getElem_cons_zero, List.getElem_cons_succ, Act.put, List.setIfInBounds_toArray, List.set_cons_succ, List.set_cons_zero]
  refine wpAnyH_take (i := 4) (v := .string ⟨#[]⟩) rfl (by kernel_rfl) (by kernel_rfl) (by kernel_rfl) (fun _ _ _ h => h) (Or.inl ⟨by rfl, ?r⟩) hS ?_
  case r => intro W hW; simp [go_sem, execOp, Act.eval, hW]
  simp only [List.getElem_toArray, List.getElem_cons_zero, List.getElem_cons_succ, Act.put, List.setIfInBounds_toArray, List.set_cons_succ, List.set_cons_zero]
  have u1 : Below w.heap.size w U1 := u0.trans (hB4.mono (by omega))
  have y1 : w.heap.size + 1 < U1.heap.size := Nat.lt_of_lt_of_le y0 hB4.size
  have b1 : U1.heap[w.heap.size]? = _ := (hB4.block _ (by omega)).trans b0
  have r1 : U1.heap[w.heap.size + 1]? = _ := (hB4.block _ (by omega)).trans r0
  clear HU1 hB4
  have bc1 := (cells_of b1).1
  refine wpAnyH_all (rs := [1]) (by kernel_rfl) (by simp) (fun i2 hi2 => ?_)
  obtain rfl : i2 = 1 := by simpa using hi2
  clear hi2
  refine wpOp_step rfl (fun K hK => ite_yes rfl ?_)
  simp only [List.getElem_toArray, List.getElem_cons_zero, List.getElem_cons_succ]
  go_simp
  refine hK _ _ ⟨hS, ?_⟩
  clear hK K bc1
  try simp only [Act.put, List.setIfInBounds_toArray, List.set_cons_succ, List.set_cons_zero]
  refine wpAnyH_all (rs := [2]) (by kernel_rfl) (by simp) (fun i2 hi2 => ?_)
  obtain rfl : i2 = 2 := by simpa using hi2
  clear hi2
  refine wpOp_step rfl (fun K hK => ite_yes rfl ?_)
  simp only [List.getElem_toArray, List.getElem_cons_zero, List.getElem_cons_succ]
  go_simp
  refine (clone_one pg pc _ (Nat.lt_of_lt_of_le hpl u1.size) ((u1.cell (p := ⟨pg, 0, none⟩) hpl).trans hp)).mono ?_
  rintro r U2 ⟨ng, nc, rfl, hn1, hn2, c2⟩
  have y2 := c2.size
  have b2 : U2.heap[w.heap.size]? = _ := (c2.block _ (by omega)).trans b1
  have r2 : U2.heap[w.heap.size + 1]? = _ := (c2.block _ (by omega)).trans r1
  go_simp
  have hSU2 : U2.cell? ⟨w.heap.size, 2, none⟩ = some (.string ⟨#[]⟩) := (cells_of b2).1 2
  refine hK _ _ ⟨hSU2, ?_⟩
  clear hK K hS
  have hS := hSU2
  clear hSU2
  try simp only [Act.put, List.setIfInBounds_toArray, List.set_cons_succ, List.set_cons_zero]
  refine wpAnyH_take (i := 6) (v := .pointer (some ⟨w.heap.size, 1, none⟩)) rfl (by kernel_rfl) (by kernel_rfl) (by kernel_rfl) (fun _ _ _ h => h) (Or.inl ⟨by rfl, ?r⟩) hS ?_
  case r => intro W hW; simp [go_sem, execOp, Act.eval]
  simp only [List.getElem_toArray, List.getElem_cons_zero, List.getElem_cons_succ, Act.put, List.setIfInBounds_toArray, List.set_cons_succ, List.set_cons_zero]
  refine wpAnyH_all (rs := [5]) (by kernel_rfl) (by simp) (fun i2 hi2 => ?_)
  obtain rfl : i2 = 5 := by simpa using hi2
  clear hi2
  refine wpOp_step rfl (fun K hK => ite_yes rfl ?_)
  simp only [List.getElem_toArray, List.getElem_cons_zero, List.getElem_cons_succ]
  go_simp
  refine (clone_any _ _ (by decide)).mono ?_
  rintro r U3 ⟨rfl, c3⟩
  have y3 := c3.size
  have b3 : U3.heap[w.heap.size]? = _ := (c3.block _ (by omega)).trans b2
  have r3 : U3.heap[w.heap.size + 1]? = _ := (c3.block _ (by omega)).trans r2
  have w3 : Below w.heap.size w U3 := u1.trans ((c2.mono (by omega)).trans (c3.mono (by omega)))
  go_simp
  have hSU3 : U3.cell? ⟨w.heap.size, 2, none⟩ = some (.string ⟨#[]⟩) := (cells_of b3).1 2
  refine hK _ _ ⟨hSU3, ?_⟩
  clear hK K hS
  have hS := hSU3
  clear hSU3
  try simp only [Act.put, List.setIfInBounds_toArray, List.set_cons_succ, List.set_cons_zero]
  obtain ⟨bc3, bf3⟩ := cells_of b3
  refine wpAnyH_all (rs := [7]) (by kernel_rfl) (by simp) (fun i2 hi2 => ?_)
  obtain rfl : i2 = 7 := by simpa using hi2
  clear hi2
  refine wpOp_step rfl (fun K hK => ite_yes rfl ?_)
  simp only [List.getElem_toArray, List.getElem_cons_zero, List.getElem_cons_succ]
  go_simp
  obtain ⟨U4, hU4⟩ : ∃ W, W = U3.setCell ⟨w.heap.size, 1, none⟩ (.slice (some ⟨ng, 0, none⟩) 1 nc) := ⟨_, rfl⟩
  rw [← hU4]
  have k4 : Kp (· = w.heap.size) U3 U4 := by rw [hU4]; exact Kp.set _ _ _ _ rfl
  have b4 : U4.heap[w.heap.size]? = some (.cells #[.int .i64 1, .slice (some ⟨ng, 0, none⟩) 1 nc, .string ⟨#[]⟩, .bool false, .int .i64 0] 50) := by rw [hU4]; exact heap_set b3 1 _
  clear hU4
  have y4 := k4.size
  have r4 : U4.heap[w.heap.size + 1]? = _ := (k4.block _ (by omega) (by omega)).trans r3
  have hSU4 : U4.cell? ⟨w.heap.size, 2, none⟩ = some (.string ⟨#[]⟩) := (cells_of b4).1 2
  refine hK _ _ ⟨hSU4, ?_⟩
  clear hK K hS
  have hS := hSU4
  clear hSU4
  try simp only [Act.put, List.setIfInBounds_toArray, List.set_cons_succ, List.set_cons_zero]
  obtain ⟨bc4, bf4⟩ := cells_of b4
  refine wpAnyH_take (i := 8) (v := .pointer (some ⟨w.heap.size, 2, none⟩)) rfl (by kernel_rfl) (by kernel_rfl) (by kernel_rfl) (fun _ _ _ h => h) (Or.inl ⟨by rfl, ?r⟩) hS ?_
  case r => intro W hW; simp [go_sem, execOp, Act.eval]
  simp only [List.getElem_toArray, List.getElem_cons_zero, List.getElem_cons_succ, Act.put, List.setIfInBounds_toArray, List.set_cons_succ, List.set_cons_zero]
  refine wpAnyH_all (rs := [9]) (by kernel_rfl) (by simp) (fun i2 hi2 => ?_)
  obtain rfl : i2 = 9 := by simpa using hi2
  clear hi2
  refine wpOp_step rfl (fun K hK => ite_yes rfl ?_)
  simp only [List.getElem_toArray, List.getElem_cons_zero, List.getElem_cons_succ]
  go_simp
  obtain ⟨U5, hU5⟩ : ∃ W, W = U4.setCell ⟨w.heap.size, 2, none⟩ (.string ⟨#[]⟩) := ⟨_, rfl⟩
  rw [← hU5]
  have k5 : Kp (· = w.heap.size) U4 U5 := by rw [hU5]; exact Kp.set _ _ _ _ rfl
  have b5 : U5.heap[w.heap.size]? = some (.cells #[.int .i64 1, .slice (some ⟨ng, 0, none⟩) 1 nc, .string ⟨#[]⟩, .bool false, .int .i64 0] 50) := by rw [hU5]; exact heap_set b4 2 _
  clear hU5
  have y5 := k5.size
  have r5 : U5.heap[w.heap.size + 1]? = some (.cells #[.int .i64 0, .slice none 0 0, .string ⟨#[]⟩, .bool false, .int .i64 0] 50) := (k5.block _ (by omega) (by omega)).trans r4
  have hSU5 : U5.cell? ⟨w.heap.size, 2, none⟩ = some (.string ⟨#[]⟩) := (cells_of b5).1 2
  refine hK _ _ ⟨hSU5, ?_⟩
  clear hK K hS
  have hS := hSU5
  clear hSU5
  try simp only [Act.put, List.setIfInBounds_toArray, List.set_cons_succ, List.set_cons_zero]
  refine wpAnyH_done (by kernel_rfl) ?_ _
  refine NoPanic.normal ?_
  try simp only [Act.put]
  obtain ⟨bc5, bf5⟩ := cells_of b5
  obtain ⟨rc5, rf5⟩ := cells_of r5
  go_wp2_with fail
  obtain ⟨U6, hU6⟩ : ∃ W, W = ((((U5.setCell ⟨w.heap.size + 1, 0, none⟩ (.int .i64 1)).setCell ⟨w.heap.size + 1, 1, none⟩ (.slice (some ⟨ng, 0, none⟩) 1 nc)).setCell ⟨w.heap.size + 1, 2, none⟩ (.string ⟨#[]⟩)).setCell ⟨w.heap.size + 1, 3, none⟩ (.bool false)).setCell ⟨w.heap.size + 1, 4, none⟩ (.int .i64 0) := ⟨_, rfl⟩
  rw [← hU6]
  have k6 : Kp (· = w.heap.size + 1) U5 U6 := by rw [hU6]; exact kp_set5 _ _ _ _ _ _ _
  have r6 : U6.heap[w.heap.size + 1]? = some (.cells #[.int .i64 1, .slice (some ⟨ng, 0, none⟩) 1 nc, .string ⟨#[]⟩, .bool false, .int .i64 0] 50) := by rw [hU6]; exact kp_five r5
  clear hU6
  have rc6 := (cells_of r6).1
  exact bodyPost_ret (v := fndX ng nc) (by simp [results, Tryz.results30, go_sem, rc6]) rfl ⟨ng, nc, rfl, w3.trans (((k4.below (by omega) fun i hi h => by omega).trans (k5.below (by omega) fun i hi h => by omega)).trans (k6.below (by omega) fun i hi h => by omega))⟩

end Go.Proofs.YtaboeocgoocgfaaGreatDoor
