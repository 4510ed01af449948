/-
  New; the least program.
-/
import Derived.Test.YtaboeocgoocgfaaGreatDoorAe
import Derived.Test.YtaboeocgoocgfaaGreatDoorTa
import Derived.Test.YtaboeocgoocgfaaGreatDoorP
namespace Go.Proofs.YtaboeocgoocgfaaGreatDoor
open Go.RowKit Go.ChangeMaps

set_option maxRecDepth 100000 in
set_option maxHeartbeats 4000000 in
theorem small_any (w : World) :
    Calls Tryz.prog 7 #[] w fun e w' => e = .returned (.agg #[.int .i64 1, .string ⟨#[]⟩, .int .i64 0, .int .i64 0, .slice (some ⟨w.heap.size + 1 + 1, 0, none⟩) 1 1]) ∧ w' = ((w.alloc (.cells #[.int .i64 1, .string ⟨#[]⟩, .int .i64 0, .int .i64 0, .slice (some ⟨w.heap.size + 1 + 1, 0, none⟩) 1 1] 30)).alloc (.cells #[.int .i64 8, .string ⟨#[120]⟩, .int .i64 0, .int .i64 0, .slice none 0 0] 30)).alloc (.cells #[.int .i64 3, .string ⟨#[65]⟩, .int .i64 0, .int .i64 0, .slice (some ⟨w.heap.size + 1, 0, none⟩) 1 1] 30) := by
  go_enter Tryz.func7, Tryz.ntmps7
  go_wp2_with fail
  exact bodyPost_ret (v := .agg #[.int .i64 1, .string ⟨#[]⟩, .int .i64 0, .int .i64 0, .slice (some ⟨w.heap.size + 1 + 1, 0, none⟩) 1 1]) (by simp [results, Tryz.results7, go_sem]) rfl ⟨rfl, rfl⟩

set_option maxRecDepth 100000 in
set_option maxHeartbeats 4000000 in
theorem new_bad (tb : Nat) (rm : Int) (w : World) (hr : (decide (rm < 0)) = true ∨ (decide (rm < 0) = false ∧ decide (1024 < rm) = true)) :
    Calls Tryz.prog 8 #[.pointer (some ⟨tb, 0, none⟩), .int .i64 rm] w fun e w' => e = .returned (.tuple #[.pointer none, .iface 42 (.pointer (some ⟨w.heap.size, 0, none⟩))]) ∧ w' = w.alloc (.cells #[.int .i64 1, .int .i64 0, .string ⟨#[]⟩] 38) := by
  go_enter Tryz.func8, Tryz.ntmps8
  rcases hr with h | ⟨h, h'⟩
  · go_wp2_with fail
    go_ret2
    exact ⟨rfl, rfl⟩
  · go_wp2_with fail
    go_ret2
    exact ⟨rfl, rfl⟩

set_option maxRecDepth 100000 in
set_option maxHeartbeats 4000000 in
theorem refNew_bad (rm : Int) (w : World) (hr : (decide (rm < 0)) = true ∨ (decide (rm < 0) = false ∧ decide (1024 < rm) = true)) :
    Calls Tryz.prog 9 #[.pointer none, .int .i64 rm] w fun e w' => e = .returned (.tuple #[.pointer none, .agg #[.int .i64 1, .int .i64 0, .string ⟨#[]⟩]]) ∧ w' = w.alloc (.cells #[.int .i64 1, .int .i64 0, .string ⟨#[]⟩] 38) := by
  go_enter Tryz.func9, Tryz.ntmps9
  rcases hr with h | ⟨h, h'⟩
  · go_wp2_with fail
    exact bodyPost_ret (v := .tuple #[.pointer none, .agg #[.int .i64 1, .int .i64 0, .string ⟨#[]⟩]]) (by simp [results, Tryz.results9, go_sem]) rfl ⟨rfl, rfl⟩
  · go_wp2_with fail
    exact bodyPost_ret (v := .tuple #[.pointer none, .agg #[.int .i64 1, .int .i64 0, .string ⟨#[]⟩]]) (by simp [results, Tryz.results9, go_sem]) rfl ⟨rfl, rfl⟩

set_option maxRecDepth 100000 in
set_option maxHeartbeats 4000000 in
theorem refNew_ok (rm : Int) (w : World) (h : (decide (rm < 0)) = false) (h2 : decide (1024 < rm) = false) :
    Calls Tryz.prog 9 #[.pointer none, .int .i64 rm] w fun e w' => ∃ v, e = .returned (.tuple #[v, .agg #[.int .i64 0, .int .i64 0, .string ⟨#[]⟩]]) ∧ Below w.heap.size w w' := by
  go_enter Tryz.func9, Tryz.ntmps9
  go_wp2_with fail
  exact bodyPost_ret (v := .tuple #[.pointer (some ⟨w.heap.size + 1, 0, none⟩), .agg #[.int .i64 0, .int .i64 0, .string ⟨#[]⟩]]) (by simp [results, Tryz.results9, go_sem]) rfl ⟨_, rfl, below2 w _ _⟩

set_option maxRecDepth 100000 in
set_option maxHeartbeats 4000000 in
theorem new_ok (tb : Nat) (rm : Int) (w : World) (h : (decide (rm < 0)) = false) (h2 : decide (1024 < rm) = false) :
    Calls Tryz.prog 8 #[.pointer (some ⟨tb, 0, none⟩), .int .i64 rm] w fun e w' => e = .returned (.tuple #[.pointer (some ⟨w.heap.size + 1, 0, none⟩), .nilIface]) ∧ w'.heap[w.heap.size]? = some (.map #[] 0) ∧ w'.heap[w.heap.size + 1]? = some (.cells #[.func (.func 24) #[.pointer (some ⟨tb, 0, none⟩)] #[], .func (.func 25) #[.pointer (some ⟨tb, 0, none⟩)] #[], .int .i64 rm, .int .i64 0, .int .i64 0, .map (some w.heap.size), .int .i64 0, .string ⟨#[]⟩, .bool false, .string ⟨#[]⟩, .int .i64 0, .slice none 0 0, .string ⟨#[]⟩, .bool false, .int .i64 0, .bool false, .pointer (some ⟨w.heap.size + 1, 6, none⟩), .pointer (some ⟨w.heap.size + 1, 6, none⟩)] 74) ∧ Below w.heap.size w w' := by
  have hmm := @run_makeMap Tryz.prog
  go_enter Tryz.func8, Tryz.ntmps8
  go_wp2_with fail
  obtain ⟨U0, hU0⟩ : ∃ W, W = (w.alloc (.map #[] 0)).alloc (.cells #[.func (.func 24) #[.pointer (some ⟨tb, 0, none⟩)] #[], .func (.func 25) #[.pointer (some ⟨tb, 0, none⟩)] #[], .int .i64 rm, .int .i64 0, .int .i64 0, .map (some w.heap.size), .int .i64 0, .string ⟨#[]⟩, .bool false, .string ⟨#[]⟩, .int .i64 0, .slice none 0 0, .string ⟨#[]⟩, .bool false, .int .i64 0, .bool false, .pointer none, .pointer none] 74) := ⟨_, rfl⟩
  rw [← hU0]
  have u0 : Below w.heap.size w U0 := by rw [hU0]; exact below2 w _ _
  have m0 : U0.heap[w.heap.size]? = some (.map #[] 0) := by rw [hU0, heap_old _ _ _ (by simp)]; exact heap_new _ _ _ rfl
  have c0 : U0.heap[w.heap.size + 1]? = some (.cells #[.func (.func 24) #[.pointer (some ⟨tb, 0, none⟩)] #[], .func (.func 25) #[.pointer (some ⟨tb, 0, none⟩)] #[], .int .i64 rm, .int .i64 0, .int .i64 0, .map (some w.heap.size), .int .i64 0, .string ⟨#[]⟩, .bool false, .string ⟨#[]⟩, .int .i64 0, .slice none 0 0, .string ⟨#[]⟩, .bool false, .int .i64 0, .bool false, .pointer none, .pointer none] 74) := by rw [hU0]; exact heap_new _ _ _ (by simp)
  clear hU0
  refine wp_region_noPanic ?_
  refine wp_region_held (S := fun W => True) (by kernel_rfl) ?_
  obtain ⟨U1, hU1⟩ : ∃ W4, W4 = (U0).drew := ⟨_, rfl⟩
  have e4 : ({ U0 with drawn := (U0).drawn + 1 } : World) = U1 := hU1.symm
  rw [e4]
  have hB4 : Below (U0).heap.size (U0) U1 := by rw [hU1]; exact (Below.refl _ _).drew
  have hS : True := trivial
  have HU1 : Hid (U1 = (U0).drew) := hU1
  clear e4 hU1
  refine wpAnyH_take (i := 0) (v := .pointer (some ⟨w.heap.size + 1, 0, none⟩)) rfl (by kernel_rfl) (by kernel_rfl) (by kernel_rfl) (fun _ _ _ h => h) (Or.inl ⟨by rfl, ?r⟩) hS ?_
  case r => intro W hW; simp [go_sem, execOp, Act.eval]
  simp only [List.getElem_toArray, List.getElem_cons_zero, Act.put, List.setIfInBounds_toArray, List.set_cons_succ, List.set_cons_zero]
  refine wpAnyH_take (i := 1) (v := .pointer (some ⟨w.heap.size + 1, 0, none⟩)) rfl (by kernel_rfl) (by kernel_rfl) (by kernel_rfl) (fun _ _ _ h => h) (Or.inl ⟨by rfl, ?r⟩) hS ?_
  case r => intro W hW; simp [go_sem, execOp, Act.eval]
  simp only [List.getElem_toArray, List.getElem_cons_zero, List.getElem_cons_succ, Act.put, List.setIfInBounds_toArray, List.set_cons_succ, List.set_cons_zero]
  refine wpAnyH_take (i := 2) (v := .pointer (some ⟨w.heap.size + 1, 0, none⟩)) rfl (by kernel_rfl) (by kernel_rfl) (by kernel_rfl) (fun _ _ _ h => h) (Or.inl ⟨by rfl, ?r⟩) hS ?_
  case r => intro W hW; simp [go_sem, execOp, Act.eval]
  simp only [List.getElem_toArray, List.getElem_cons_zero, List.getElem_cons_succ, Act.put, List.setIfInBounds_toArray, List.set_cons_succ, List.set_cons_zero]
  refine wpAnyH_take (i := 3) (v := .pointer (some ⟨w.heap.size + 1, 0, none⟩)) rfl (by kernel_rfl) (by kernel_rfl) (by kernel_rfl) (fun _ _ _ h => h) (Or.inl ⟨by rfl, ?r⟩) hS ?_
  case r => intro W hW; simp [go_sem, execOp, Act.eval]
  simp only [List.getElem_toArray, List.getElem_cons_zero, List.getElem_cons_succ, Act.put, List.setIfInBounds_toArray, List.set_cons_succ, List.set_cons_zero]
  refine wpAnyH_take (i := 4) (v := .pointer (some ⟨w.heap.size + 1, 6, none⟩)) rfl (by kernel_rfl) (by kernel_rfl) (by kernel_rfl) (fun _ _ _ h => h) (Or.inl ⟨by rfl, ?r⟩) hS ?_
  case r => intro W hW; simp [go_sem, execOp, Act.eval]
  simp only [List.getElem_toArray, List.getElem_cons_zero, List.getElem_cons_succ, Act.put, List.setIfInBounds_toArray, List.set_cons_succ, List.set_cons_zero]
  refine wpAnyH_take (i := 5) (v := .pointer (some ⟨w.heap.size + 1, 0, none⟩)) rfl (by kernel_rfl) (by kernel_rfl) (by kernel_rfl) (fun _ _ _ h => h) (Or.inl ⟨by rfl, ?r⟩) hS ?_
  case r => intro W hW; simp [go_sem, execOp, Act.eval]
  simp only [List.getElem_toArray, List.getElem_cons_zero, List.getElem_cons_succ, Act.put, List.setIfInBounds_toArray, List.set_cons_succ, List.set_cons_zero]
  refine wpAnyH_take (i := 6) (v := .pointer (some ⟨w.heap.size + 1, 0, none⟩)) rfl (by kernel_rfl) (by kernel_rfl) (by kernel_rfl) (fun _ _ _ h => h) (Or.inl ⟨by rfl, ?r⟩) hS ?_
  case r => intro W hW; simp [go_sem, execOp, Act.eval]
  simp only [List.getElem_toArray, List.getElem_cons_zero, List.getElem_cons_succ, Act.put, List.setIfInBounds_toArray, List.set_cons_succ, List.set_cons_zero]
  refine wpAnyH_take (i := 7) (v := .pointer (some ⟨w.heap.size + 1, 6, none⟩)) rfl (by kernel_rfl) (by kernel_rfl) (by kernel_rfl) (fun _ _ _ h => h) (Or.inl ⟨by rfl, ?r⟩) hS ?_
  case r => intro W hW; simp [go_sem, execOp, Act.eval]
  simp only [List.getElem_toArray, List.getElem_cons_zero, List.getElem_cons_succ, Act.put, List.setIfInBounds_toArray, List.set_cons_succ, List.set_cons_zero]
  refine wpAnyH_take (i := 8) (v := .pointer (some ⟨w.heap.size + 1, 0, none⟩)) rfl (by kernel_rfl) (by kernel_rfl) (by kernel_rfl) (fun _ _ _ h => h) (Or.inl ⟨by rfl, ?r⟩) hS ?_
  case r => intro W hW; simp [go_sem, execOp, Act.eval]
  simp only [List.getElem_toArray, List.getElem_cons_zero, List.getElem_cons_succ, Act.put, List.setIfInBounds_toArray, List.set_cons_succ, List.set_cons_zero]
  refine wpAnyH_take (i := 9) (v := .pointer (some ⟨w.heap.size + 1, 6, none⟩)) rfl (by kernel_rfl) (by kernel_rfl) (by kernel_rfl) (fun _ _ _ h => h) (Or.inl ⟨by rfl, ?r⟩) hS ?_
  case r => intro W hW; simp [go_sem, execOp, Act.eval]
  simp only [List.getElem_toArray, List.getElem_cons_zero, List.getElem_cons_succ, Act.put, List.setIfInBounds_toArray, List.set_cons_succ, List.set_cons_zero]
  refine wpAnyH_take (i := 10) (v := .pointer (some ⟨w.heap.size + 1, 16, none⟩)) rfl (by kernel_rfl) (by kernel_rfl) (by kernel_rfl) (fun _ _ _ h => h) (Or.inl ⟨by rfl, ?r⟩) hS ?_
  case r => intro W hW; simp [go_sem, execOp, Act.eval]
  simp only [List.getElem_toArray, List.getElem_cons_zero, List.getElem_cons_succ, Act.put, List.setIfInBounds_toArray, List.set_cons_succ, List.set_cons_zero]
  have y1 := hB4.size
  have m1 : U1.heap[w.heap.size]? = _ := (hB4.block _ (heap_lt m0)).trans m0
  have c1 : U1.heap[w.heap.size + 1]? = _ := (hB4.block _ (heap_lt c0)).trans c0
  have yl := heap_lt c0
  have w1 : Below w.heap.size w U1 := u0.trans (hB4.mono (by omega))
  clear HU1 hB4
  obtain ⟨cc1, cf1⟩ := cells_of c1
  refine wpAnyH_all (rs := [11]) (by kernel_rfl) (by simp) (fun i2 hi2 => ?_)
  obtain rfl : i2 = 11 := by simpa using hi2
  clear hi2
  refine wpOp_step rfl (fun K hK => ite_yes rfl ?_)
  simp only [List.getElem_toArray, List.getElem_cons_zero, List.getElem_cons_succ]
  go_simp
  obtain ⟨U2, hU2⟩ : ∃ W, W = U1.setCell ⟨w.heap.size + 1, 16, none⟩ (.pointer (some ⟨w.heap.size + 1, 6, none⟩)) := ⟨_, rfl⟩
  rw [← hU2]
  have k2 : Kp (· = w.heap.size + 1) U1 U2 := by rw [hU2]; exact Kp.set _ _ _ _ rfl
  have c2 : U2.heap[w.heap.size + 1]? = some (.cells #[.func (.func 24) #[.pointer (some ⟨tb, 0, none⟩)] #[], .func (.func 25) #[.pointer (some ⟨tb, 0, none⟩)] #[], .int .i64 rm, .int .i64 0, .int .i64 0, .map (some w.heap.size), .int .i64 0, .string ⟨#[]⟩, .bool false, .string ⟨#[]⟩, .int .i64 0, .slice none 0 0, .string ⟨#[]⟩, .bool false, .int .i64 0, .bool false, .pointer (some ⟨w.heap.size + 1, 6, none⟩), .pointer none] 74) := by rw [hU2]; exact heap_set c1 16 _
  clear hU2
  have y2 := k2.size
  have m2 : U2.heap[w.heap.size]? = _ := (k2.block _ (heap_lt m1) (by omega)).trans m1
  refine hK _ _ ⟨trivial, ?_⟩
  clear hK K
  try simp only [Act.put, List.setIfInBounds_toArray, List.set_cons_succ, List.set_cons_zero]
  obtain ⟨cc2, cf2⟩ := cells_of c2
  refine wpAnyH_take (i := 12) (v := .pointer (some ⟨w.heap.size + 1, 0, none⟩)) rfl (by kernel_rfl) (by kernel_rfl) (by kernel_rfl) (fun _ _ _ h => h) (Or.inl ⟨by rfl, ?r⟩) hS ?_
  case r => intro W hW; simp [go_sem, execOp, Act.eval]
  simp only [List.getElem_toArray, List.getElem_cons_zero, List.getElem_cons_succ, Act.put, List.setIfInBounds_toArray, List.set_cons_succ, List.set_cons_zero]
  refine wpAnyH_take (i := 13) (v := .pointer (some ⟨w.heap.size + 1, 6, none⟩)) rfl (by kernel_rfl) (by kernel_rfl) (by kernel_rfl) (fun _ _ _ h => h) (Or.inl ⟨by rfl, ?r⟩) hS ?_
  case r => intro W hW; simp [go_sem, execOp, Act.eval]
  simp only [List.getElem_toArray, List.getElem_cons_zero, List.getElem_cons_succ, Act.put, List.setIfInBounds_toArray, List.set_cons_succ, List.set_cons_zero]
  refine wpAnyH_take (i := 14) (v := .pointer (some ⟨w.heap.size + 1, 17, none⟩)) rfl (by kernel_rfl) (by kernel_rfl) (by kernel_rfl) (fun _ _ _ h => h) (Or.inl ⟨by rfl, ?r⟩) hS ?_
  case r => intro W hW; simp [go_sem, execOp, Act.eval]
  simp only [List.getElem_toArray, List.getElem_cons_zero, List.getElem_cons_succ, Act.put, List.setIfInBounds_toArray, List.set_cons_succ, List.set_cons_zero]
  refine wpAnyH_all (rs := [15]) (by kernel_rfl) (by simp) (fun i2 hi2 => ?_)
  obtain rfl : i2 = 15 := by simpa using hi2
  clear hi2
  refine wpOp_step rfl (fun K hK => ite_yes rfl ?_)
  simp only [List.getElem_toArray, List.getElem_cons_zero, List.getElem_cons_succ]
  go_simp
  obtain ⟨U3, hU3⟩ : ∃ W, W = U2.setCell ⟨w.heap.size + 1, 17, none⟩ (.pointer (some ⟨w.heap.size + 1, 6, none⟩)) := ⟨_, rfl⟩
  rw [← hU3]
  have k3 : Kp (· = w.heap.size + 1) U2 U3 := by rw [hU3]; exact Kp.set _ _ _ _ rfl
  have c3 : U3.heap[w.heap.size + 1]? = some (.cells #[.func (.func 24) #[.pointer (some ⟨tb, 0, none⟩)] #[], .func (.func 25) #[.pointer (some ⟨tb, 0, none⟩)] #[], .int .i64 rm, .int .i64 0, .int .i64 0, .map (some w.heap.size), .int .i64 0, .string ⟨#[]⟩, .bool false, .string ⟨#[]⟩, .int .i64 0, .slice none 0 0, .string ⟨#[]⟩, .bool false, .int .i64 0, .bool false, .pointer (some ⟨w.heap.size + 1, 6, none⟩), .pointer (some ⟨w.heap.size + 1, 6, none⟩)] 74) := by rw [hU3]; exact heap_set c2 17 _
  clear hU3
  have m3 : U3.heap[w.heap.size]? = _ := (k3.block _ (heap_lt m2) (by omega)).trans m2
  refine hK _ _ ⟨trivial, ?_⟩
  clear hK K
  try simp only [Act.put, List.setIfInBounds_toArray, List.set_cons_succ, List.set_cons_zero]
  refine wpAnyH_done (by kernel_rfl) ?_ _
  refine NoPanic.normal ?_
  try simp only [Act.put]
  go_wp2_with fail
  go_ret2
  exact ⟨rfl, m3, c3, w1.trans ((k2.below (by omega) fun i hi h => by omega).trans (k3.below (by omega) fun i hi h => by omega))⟩

end Go.Proofs.YtaboeocgoocgfaaGreatDoor
