/-
  A question of a cache, answered by the table.
-/
import Derived.Test.YtaboeocgoocgfaaGreatDoorY
namespace Go.Proofs.YtaboeocgoocgfaaGreatDoor
open Go.RowKit Go.ChangeMaps

set_option maxRecDepth 100000 in
set_option maxHeartbeats 4000000 in
theorem owned_any (k : Int) (n s : ByteArray) (p : Bool) (hn : n.size ≤ 60000) (hs : s.size ≤ 60000) (w : World) :
    Calls Tryz.prog 76 #[.agg #[.int .i64 k, .string n, .bool p, .string s]] w fun e w' => e = .returned (.agg #[.int .i64 k, .string n, .bool p, .string s]) ∧ Below w.heap.size w w' := by
  go_enter Tryz.func76, Tryz.ntmps76
  go_wp2_with fail
  obtain ⟨U0, hU0⟩ : ∃ W, W = (w.alloc (.cells #[.int .i64 k, .string n, .bool p, .string s] 69)).alloc (.cells #[.int .i64 0, .string ⟨#[]⟩, .bool false, .string ⟨#[]⟩] 69) := ⟨_, rfl⟩
  rw [← hU0]
  have u0 : Below w.heap.size w U0 := by rw [hU0]; exact below2 w _ _
  have y0 : w.heap.size + 1 < U0.heap.size := by rw [hU0]; simp
  have b0 : U0.heap[w.heap.size]? = some (.cells #[.int .i64 k, .string n, .bool p, .string s] 69) := by rw [hU0, heap_old _ _ _ (by simp)]; exact heap_new _ _ _ rfl
  have r0 : U0.heap[w.heap.size + 1]? = some (.cells #[.int .i64 0, .string ⟨#[]⟩, .bool false, .string ⟨#[]⟩] 69) := by rw [hU0]; exact heap_new _ _ _ (by simp)
  clear hU0
  refine wp_region_noPanic ?_
  refine wp_region_held (S := fun W => (∀ j, W.cell? ⟨w.heap.size, j, none⟩ = (#[.int .i64 k, .string n, .bool p, .string s] : Array Value)[j]?)) (by kernel_rfl) ?_
  obtain ⟨U1, hU1⟩ : ∃ W4, W4 = (U0).drew := ⟨_, rfl⟩
  have e4 : ({ U0 with drawn := (U0).drawn + 1 } : World) = U1 := hU1.symm
  rw [e4]
  have hB4 : Below (U0).heap.size (U0) U1 := by rw [hU1]; exact (Below.refl _ _).drew
  have hS : (∀ j, U1.cell? ⟨w.heap.size, j, none⟩ = (#[.int .i64 k, .string n, .bool p, .string s] : Array Value)[j]?) := (cells_of ((hB4.block _ (by omega)).trans b0)).1
  have HU1 : Hid (U1 = (U0).drew) := hU1
  clear e4 hU1
  refine wpAnyH_take (i := 0) (v := .pointer (some ⟨w.heap.size, 1, none⟩)) rfl (by kernel_rfl) (by kernel_rfl) (by kernel_rfl) (fun _ _ _ h => h) (Or.inl ⟨by rfl, ?r⟩) hS ?_
  case r => intro W hW; simp [go_sem, execOp, Act.eval]
  simp only [List.getElem_toArray, List.getElem_cons_zero, Act.put, List.setIfInBounds_toArray, List.set_cons_succ, List.set_cons_zero]
  refine wpAnyH_take (i := 1) (v := .string n) rfl (by kernel_rfl) (by kernel_rfl) (by kernel_rfl) (fun _ _ _ h => h) (Or.inl ⟨by rfl, ?r⟩) hS ?_
  case r => intro W hW; simp [go_sem, execOp, Act.eval, hW]
  simp only [List.getElem_toArray, List.getElem_cons_zero, List.getElem_cons_succ, Act.put, List.setIfInBounds_toArray, List.set_cons_succ, List.set_cons_zero]
  refine wpAnyH_take (i := 3) (v := .pointer (some ⟨w.heap.size, 3, none⟩)) rfl (by kernel_rfl) (by kernel_rfl) (by kernel_rfl) (fun _ _ _ h => h) (Or.inl ⟨by rfl, ?r⟩) hS ?_
  case r => intro W hW; simp [go_sem, execOp, Act.eval]
  simp only [List.getElem_toArray, List.getElem_cons_zero, List.getElem_cons_succ, Act.put, List.setIfInBounds_toArray, List.set_cons_succ, List.set_cons_zero]
  refine wpAnyH_take (i := 4) (v := .string s) rfl (by kernel_rfl) (by kernel_rfl) (by kernel_rfl) (fun _ _ _ h => h) (Or.inl ⟨by rfl, ?r⟩) hS ?_
  case r => intro W hW; simp [go_sem, execOp, Act.eval, hW]
  simp only [List.getElem_toArray, List.getElem_cons_zero, List.getElem_cons_succ, Act.put, List.setIfInBounds_toArray, List.set_cons_succ, List.set_cons_zero]
  have u1 : Below w.heap.size w U1 := u0.trans (hB4.mono (by omega))
  have y1 : w.heap.size + 1 < U1.heap.size := Nat.lt_of_lt_of_le y0 hB4.size
  have b1 : U1.heap[w.heap.size]? = _ := (hB4.block _ (by omega)).trans b0
  have r1 : U1.heap[w.heap.size + 1]? = _ := (hB4.block _ (by omega)).trans r0
  clear HU1 hB4
  refine wpAnyH_all (rs := [2]) (by kernel_rfl) (by simp) (fun i2 hi2 => ?_)
  obtain rfl : i2 = 2 := by simpa using hi2
  clear hi2
  refine wpOp_step rfl (fun K hK => ite_yes rfl ?_)
  simp only [List.getElem_toArray, List.getElem_cons_zero, List.getElem_cons_succ]
  go_simp
  refine (clone_any _ _ hn).mono ?_
  rintro r U2 ⟨rfl, c2⟩
  have y2 : w.heap.size + 1 < U2.heap.size := Nat.lt_of_lt_of_le y1 c2.size
  have u2 : Below w.heap.size w U2 := u1.trans (c2.mono (by omega))
  have b2 : U2.heap[w.heap.size]? = _ := (c2.block _ (by omega)).trans b1
  have r2 : U2.heap[w.heap.size + 1]? = _ := (c2.block _ (by omega)).trans r1
  go_simp
  have hSU2 : (∀ j, U2.cell? ⟨w.heap.size, j, none⟩ = (#[.int .i64 k, .string n, .bool p, .string s] : Array Value)[j]?) := (cells_of b2).1
  refine hK _ _ ⟨hSU2, ?_⟩
  clear hK K hS
  have hS := hSU2
  clear hSU2
  try simp only [Act.put, List.setIfInBounds_toArray, List.set_cons_succ, List.set_cons_zero]
  refine wpAnyH_take (i := 6) (v := .pointer (some ⟨w.heap.size, 1, none⟩)) rfl (by kernel_rfl) (by kernel_rfl) (by kernel_rfl) (fun _ _ _ h => h) (Or.inl ⟨by rfl, ?r⟩) hS ?_
  case r => intro W hW; simp [go_sem, execOp, Act.eval]
  simp only [List.getElem_toArray, List.getElem_cons_zero, List.getElem_cons_succ, Act.put, List.setIfInBounds_toArray, List.set_cons_succ, List.set_cons_zero]
  refine wpAnyH_all (rs := [5]) (by kernel_rfl) (by simp) (fun i2 hi2 => ?_)
  obtain rfl : i2 = 5 := by simpa using hi2
  clear hi2
  refine wpOp_step rfl (fun K hK => ite_yes rfl ?_)
  simp only [List.getElem_toArray, List.getElem_cons_zero, List.getElem_cons_succ]
  go_simp
  refine (clone_any _ _ hs).mono ?_
  rintro r U3 ⟨rfl, c3⟩
  have y3 : w.heap.size + 1 < U3.heap.size := Nat.lt_of_lt_of_le y2 c3.size
  have u3 : Below w.heap.size w U3 := u2.trans (c3.mono (by omega))
  have b3 : U3.heap[w.heap.size]? = _ := (c3.block _ (by omega)).trans b2
  have r3 : U3.heap[w.heap.size + 1]? = _ := (c3.block _ (by omega)).trans r2
  go_simp
  have hSU3 : (∀ j, U3.cell? ⟨w.heap.size, j, none⟩ = (#[.int .i64 k, .string n, .bool p, .string s] : Array Value)[j]?) := (cells_of b3).1
  refine hK _ _ ⟨hSU3, ?_⟩
  clear hK K hS
  have hS := hSU3
  clear hSU3
  try simp only [Act.put, List.setIfInBounds_toArray, List.set_cons_succ, List.set_cons_zero]
  obtain ⟨bc3, bf3⟩ := cells_of b3
  refine wpAnyH_all (rs := [7]) (by kernel_rfl) (by simp) (fun i2 hi2 => ?_)
  obtain rfl : i2 = 7 := by simpa using hi2
  clear hi2
  refine wpOp_step rfl (fun K hK => ite_yes rfl ?_)
  simp only [List.getElem_toArray, List.getElem_cons_zero, List.getElem_cons_succ]
  go_simp
  obtain ⟨U4, hU4⟩ : ∃ W, W = U3.setCell ⟨w.heap.size, 1, none⟩ (.string n) := ⟨_, rfl⟩
  rw [← hU4]
  have k4 : Kp (· = w.heap.size) U3 U4 := by rw [hU4]; exact Kp.set _ _ _ _ rfl
  have b4 : U4.heap[w.heap.size]? = some (.cells #[.int .i64 k, .string n, .bool p, .string s] 69) := by rw [hU4]; exact heap_set b3 1 _
  clear hU4
  have y4 := k4.size
  have r4 : U4.heap[w.heap.size + 1]? = _ := (k4.block _ (by omega) (by omega)).trans r3
  have hSU4 : (∀ j, U4.cell? ⟨w.heap.size, j, none⟩ = (#[.int .i64 k, .string n, .bool p, .string s] : Array Value)[j]?) := (cells_of b4).1
  refine hK _ _ ⟨hSU4, ?_⟩
  clear hK K hS
  have hS := hSU4
  clear hSU4
  try simp only [Act.put, List.setIfInBounds_toArray, List.set_cons_succ, List.set_cons_zero]
  obtain ⟨bc4, bf4⟩ := cells_of b4
  refine wpAnyH_take (i := 8) (v := .pointer (some ⟨w.heap.size, 3, none⟩)) rfl (by kernel_rfl) (by kernel_rfl) (by kernel_rfl) (fun _ _ _ h => h) (Or.inl ⟨by rfl, ?r⟩) hS ?_
  case r => intro W hW; simp [go_sem, execOp, Act.eval]
  simp only [List.getElem_toArray, List.getElem_cons_zero, List.getElem_cons_succ, Act.put, List.setIfInBounds_toArray, List.set_cons_succ, List.set_cons_zero]
  refine wpAnyH_all (rs := [9]) (by kernel_rfl) (by simp) (fun i2 hi2 => ?_)
  obtain rfl : i2 = 9 := by simpa using hi2
  clear hi2
  refine wpOp_step rfl (fun K hK => ite_yes rfl ?_)
  simp only [List.getElem_toArray, List.getElem_cons_zero, List.getElem_cons_succ]
  go_simp
  obtain ⟨U5, hU5⟩ : ∃ W, W = U4.setCell ⟨w.heap.size, 3, none⟩ (.string s) := ⟨_, rfl⟩
  rw [← hU5]
  have k5 : Kp (· = w.heap.size) U4 U5 := by rw [hU5]; exact Kp.set _ _ _ _ rfl
  have b5 : U5.heap[w.heap.size]? = some (.cells #[.int .i64 k, .string n, .bool p, .string s] 69) := by rw [hU5]; exact heap_set b4 3 _
  clear hU5
  have y5 := k5.size
  have r5 : U5.heap[w.heap.size + 1]? = _ := (k5.block _ (by omega) (by omega)).trans r4
  have hSU5 : (∀ j, U5.cell? ⟨w.heap.size, j, none⟩ = (#[.int .i64 k, .string n, .bool p, .string s] : Array Value)[j]?) := (cells_of b5).1
  refine hK _ _ ⟨hSU5, ?_⟩
  clear hK K hS
  have hS := hSU5
  clear hSU5
  try simp only [Act.put, List.setIfInBounds_toArray, List.set_cons_succ, List.set_cons_zero]
  obtain ⟨bc5, bf5⟩ := cells_of b5
  refine wpAnyH_done (by kernel_rfl) ?_ _
  refine NoPanic.normal ?_
  try simp only [Act.put]
  obtain ⟨rc5, rf5⟩ := cells_of r5
  go_wp2_with fail
  obtain ⟨U6, hU6⟩ : ∃ W, W = (((U5.setCell ⟨w.heap.size + 1, 0, none⟩ (.int .i64 k)).setCell ⟨w.heap.size + 1, 1, none⟩ (.string n)).setCell ⟨w.heap.size + 1, 2, none⟩ (.bool p)).setCell ⟨w.heap.size + 1, 3, none⟩ (.string s) := ⟨_, rfl⟩
  rw [← hU6]
  have k6 : Kp (· = w.heap.size + 1) U5 U6 := by rw [hU6]; exact kp_set4 _ _ _ _ _ _
  have r6 : U6.heap[w.heap.size + 1]? = some (.cells #[.int .i64 k, .string n, .bool p, .string s] 69) := by rw [hU6]; exact heap_set (heap_set (heap_set (heap_set r5 0 _) 1 _) 2 _) 3 _
  clear hU6
  have rc6 := (cells_of r6).1
  exact bodyPost_ret (v := .agg #[.int .i64 k, .string n, .bool p, .string s]) (by simp [results, Tryz.results76, go_sem, rc6]) rfl ⟨rfl, u3.trans (((k4.below (by omega) fun i hi h => by omega).trans (k5.below (by omega) fun i hi h => by omega)).trans (k6.below (by omega) fun i hi h => by omega))⟩

end Go.Proofs.YtaboeocgoocgfaaGreatDoor
