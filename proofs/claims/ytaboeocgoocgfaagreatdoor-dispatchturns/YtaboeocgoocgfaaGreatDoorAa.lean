/-
  Answers of the table as entries.
-/
import Derived.Test.YtaboeocgoocgfaaGreatDoorZ
namespace Go.Proofs.YtaboeocgoocgfaaGreatDoor
open Go.RowKit Go.ChangeMaps

theorem kp_set5' (w : World) (b : Nat) (v0 v1 v2 v3 v4 : Value) : Kp (· = b) w (((((w.setCell ⟨b, 4, none⟩ v0).setCell ⟨b, 5, none⟩ v1).setCell ⟨b, 6, none⟩ v2).setCell ⟨b, 7, none⟩ v3).setCell ⟨b, 8, none⟩ v4) :=
  ((((Kp.set (S := (· = b)) _ _ _ _ rfl).trans (Kp.set (S := (· = b)) _ _ _ _ rfl) fun _ _ h => h).trans (Kp.set (S := (· = b)) _ _ _ _ rfl) fun _ _ h => h).trans (Kp.set (S := (· = b)) _ _ _ _ rfl) fun _ _ h => h).trans (Kp.set (S := (· = b)) _ _ _ _ rfl) fun _ _ h => h
set_option maxRecDepth 100000 in
set_option maxHeartbeats 4000000 in
theorem answered_X {d2 d3 d4 d5 d6 d7 d8 d9 d10 d11 d12 d13 d14 d15 d16 d17 : Value} (tb M g cap pb pe : Nat) (es : Array MapEntry) (clk : Nat) (cb : Nat) (p : Bool) (w : World) (ht : TabAt w tb M g cap pb pe es clk) (hc : w.heap[cb]? = some (.cells #[.func (.func 24) #[.pointer (some ⟨tb, 0, none⟩)] #[], .func (.func 25) #[.pointer (some ⟨tb, 0, none⟩)] #[], d2, d3, d4, d5, d6, d7, d8, d9, d10, d11, d12, d13, d14, d15, d16, d17] 74)) :
    Calls Tryz.prog 55 #[.pointer (some ⟨cb, 0, none⟩), .agg #[.int .i64 0, .string ⟨#[65]⟩, .bool p, .string ⟨#[120]⟩]] w fun e w' => ∃ eb pg pc, e = .returned (.pointer (some ⟨eb, 0, none⟩)) ∧ w.heap.size ≤ eb ∧ w'.heap[eb]? = some (.cells #[.int .i64 0, .string ⟨#[65]⟩, .bool p, .string ⟨#[120]⟩, .int .i64 1, .slice (some ⟨pg, 0, none⟩) 1 pc, .string ⟨#[]⟩, .bool false, .int .i64 0, .bool false, .pointer none, .pointer none] 72) ∧ eb < pg ∧ w.heap.size ≤ pg ∧ pg < w'.heap.size ∧ 1 ≤ pc ∧ w'.cell? ⟨pg, 0, none⟩ = some (.int .i64 0) ∧ Below w.heap.size w w' := by
  go_enter Tryz.func55, Tryz.ntmps55
  go_wp2_with fail
  refine Calls.mono (owned_any _ _ _ _ (by decide) (by decide) _) ?_
  rintro _ V1 ⟨rfl, u1⟩
  have y1 : w.heap.size < V1.heap.size := by have := u1.size; simp at this; omega
  have w1 : Below w.heap.size w V1 := (below1 w _).trans (u1.mono (by simp))
  have b1 : V1.heap[w.heap.size]? = some (.cells #[.int .i64 0, .string ⟨#[65]⟩, .bool p, .string ⟨#[120]⟩] 69) := (u1.block _ (by simp)).trans (heap_new _ _ _ rfl)
  obtain ⟨bc1, bf1⟩ := cells_of b1
  go_wp2_with fail
  obtain ⟨V2, hV2⟩ : ∃ W, W = (((V1.setCell ⟨w.heap.size, 0, none⟩ (.int .i64 0)).setCell ⟨w.heap.size, 1, none⟩ (.string ⟨#[65]⟩)).setCell ⟨w.heap.size, 2, none⟩ (.bool p)).setCell ⟨w.heap.size, 3, none⟩ (.string ⟨#[120]⟩) := ⟨_, rfl⟩
  have k2 : Kp (· = w.heap.size) V1 V2 := by rw [hV2]; exact kp_set4 _ _ _ _ _ _
  have b2 : V2.heap[w.heap.size]? = some (.cells #[.int .i64 0, .string ⟨#[65]⟩, .bool p, .string ⟨#[120]⟩] 69) := by rw [hV2]; exact heap_set (heap_set (heap_set (heap_set b1 0 _) 1 _) 2 _) 3 _
  have y2 := k2.size
  have y2e : V2.heap.size = V1.heap.size := by rw [hV2]; simp
  obtain ⟨V3, hV3⟩ : ∃ W, W = V2.alloc (.cells #[.int .i64 0, .string ⟨#[65]⟩, .bool p, .string ⟨#[120]⟩, .int .i64 0, .slice none 0 0, .string ⟨#[]⟩, .bool false, .int .i64 0, .bool false, .pointer none, .pointer none] 72) := ⟨_, rfl⟩
  have c3 : Below V2.heap.size V2 V3 := by rw [hV3]; exact below1 _ _
  have y3 : V1.heap.size < V3.heap.size := by rw [hV3, World.size_alloc]; omega
  have n3 : V3.heap[V1.heap.size]? = some (.cells #[.int .i64 0, .string ⟨#[65]⟩, .bool p, .string ⟨#[120]⟩, .int .i64 0, .slice none 0 0, .string ⟨#[]⟩, .bool false, .int .i64 0, .bool false, .pointer none, .pointer none] 72) := by rw [hV3]; exact heap_new _ _ _ y2e.symm
  rw [← hV2]
  rw [← hV3]
  clear hV2 bc1 bf1 hV3
  have b3 : V3.heap[w.heap.size]? = _ := (c3.block _ (by omega)).trans b2
  have w3 : Below w.heap.size w V3 := w1.trans ((k2.below (by omega) fun i hi h => by omega).trans (c3.mono (by omega)))
  have h3 : V3.heap[cb]? = _ := (w3.block _ (heap_lt hc)).trans hc
  have t3 := ht.below w3
  obtain ⟨eb, heb⟩ : ∃ n, n = V1.heap.size := ⟨_, rfl⟩
  rw [← heb] at n3 y3 ⊢
  have ebl : w.heap.size < eb := by omega
  clear heb c3 k2 b2 b1 y2 y2e y1 u1 w1
  refine wp_region_noPanic ?_
  refine wp_region_held (S := fun W => (∀ j, W.cell? ⟨w.heap.size, j, none⟩ = (#[.int .i64 0, .string ⟨#[65]⟩, .bool p, .string ⟨#[120]⟩] : Array Value)[j]?) ∧ (∀ j, W.cell? ⟨cb, j, none⟩ = (#[.func (.func 24) #[.pointer (some ⟨tb, 0, none⟩)] #[], .func (.func 25) #[.pointer (some ⟨tb, 0, none⟩)] #[], d2, d3, d4, d5, d6, d7, d8, d9, d10, d11, d12, d13, d14, d15, d16, d17] : Array Value)[j]?)) (by kernel_rfl) ?_
  obtain ⟨V4, hV4⟩ : ∃ W4, W4 = (V3).drew := ⟨_, rfl⟩
  have e4 : ({ V3 with drawn := (V3).drawn + 1 } : World) = V4 := hV4.symm
  rw [e4]
  have hB4 : Below (V3).heap.size (V3) V4 := by rw [hV4]; exact (Below.refl _ _).drew
  have hS : (∀ j, V4.cell? ⟨w.heap.size, j, none⟩ = (#[.int .i64 0, .string ⟨#[65]⟩, .bool p, .string ⟨#[120]⟩] : Array Value)[j]?) ∧ (∀ j, V4.cell? ⟨cb, j, none⟩ = (#[.func (.func 24) #[.pointer (some ⟨tb, 0, none⟩)] #[], .func (.func 25) #[.pointer (some ⟨tb, 0, none⟩)] #[], d2, d3, d4, d5, d6, d7, d8, d9, d10, d11, d12, d13, d14, d15, d16, d17] : Array Value)[j]?) := ⟨(cells_of ((hB4.block _ (heap_lt b3)).trans b3)).1, (cells_of ((hB4.block _ (heap_lt h3)).trans h3)).1⟩
  have HV4 : Hid (V4 = (V3).drew) := hV4
  clear e4 hV4
  refine wpAnyH_take (i := 0) (v := .pointer (some ⟨eb, 0, none⟩)) rfl (by kernel_rfl) (by kernel_rfl) (by kernel_rfl) (fun _ _ _ h => h) (Or.inl ⟨by rfl, ?r⟩) hS ?_
  case r => intro W hW; simp [go_sem, execOp, Act.eval]
  simp only [List.getElem_toArray, List.getElem_cons_zero, Act.put, List.setIfInBounds_toArray, List.set_cons_succ, List.set_cons_zero]
  refine wpAnyH_take (i := 1) (v := .pointer (some ⟨cb, 0, none⟩)) rfl (by kernel_rfl) (by kernel_rfl) (by kernel_rfl) (fun _ _ _ h => h) (Or.inl ⟨by rfl, ?r⟩) hS ?_
  case r => intro W hW; simp [go_sem, execOp, Act.eval]
  simp only [List.getElem_toArray, List.getElem_cons_zero, List.getElem_cons_succ, Act.put, List.setIfInBounds_toArray, List.set_cons_succ, List.set_cons_zero]
  refine wpAnyH_take (i := 2) (v := .pointer (some ⟨cb, 0, none⟩)) rfl (by kernel_rfl) (by kernel_rfl) (by kernel_rfl) (fun _ _ _ h => h) (Or.inl ⟨by rfl, ?r⟩) hS ?_
  case r => intro W hW; simp [go_sem, execOp, Act.eval]
  simp only [List.getElem_toArray, List.getElem_cons_zero, List.getElem_cons_succ, Act.put, List.setIfInBounds_toArray, List.set_cons_succ, List.set_cons_zero]
  refine wpAnyH_take (i := 3) (v := .pointer (some ⟨cb, 0, none⟩)) rfl (by kernel_rfl) (by kernel_rfl) (by kernel_rfl) (fun _ _ _ h => h) (Or.inl ⟨by rfl, ?r⟩) hS ?_
  case r => intro W hW; simp [go_sem, execOp, Act.eval]
  simp only [List.getElem_toArray, List.getElem_cons_zero, List.getElem_cons_succ, Act.put, List.setIfInBounds_toArray, List.set_cons_succ, List.set_cons_zero]
  refine wpAnyH_take (i := 4) (v := .func (.func 24) #[.pointer (some ⟨tb, 0, none⟩)] #[]) rfl (by kernel_rfl) (by kernel_rfl) (by kernel_rfl) (fun _ _ _ h => h) (Or.inl ⟨by rfl, ?r⟩) hS ?_
  case r => intro W hW; simp [go_sem, execOp, Act.eval, hW.2]
  simp only [List.getElem_toArray, List.getElem_cons_zero, List.getElem_cons_succ, Act.put, List.setIfInBounds_toArray, List.set_cons_succ, List.set_cons_zero]
  refine wpAnyH_take (i := 5) (v := .pointer (some ⟨w.heap.size, 1, none⟩)) rfl (by kernel_rfl) (by kernel_rfl) (by kernel_rfl) (fun _ _ _ h => h) (Or.inl ⟨by rfl, ?r⟩) hS ?_
  case r => intro W hW; simp [go_sem, execOp, Act.eval]
  simp only [List.getElem_toArray, List.getElem_cons_zero, List.getElem_cons_succ, Act.put, List.setIfInBounds_toArray, List.set_cons_succ, List.set_cons_zero]
  refine wpAnyH_take (i := 6) (v := .string ⟨#[65]⟩) rfl (by kernel_rfl) (by kernel_rfl) (by kernel_rfl) (fun _ _ _ h => h) (Or.inl ⟨by rfl, ?r⟩) hS ?_
  case r => intro W hW; simp [go_sem, execOp, Act.eval, hW.1]
  simp only [List.getElem_toArray, List.getElem_cons_zero, List.getElem_cons_succ, Act.put, List.setIfInBounds_toArray, List.set_cons_succ, List.set_cons_zero]
  refine wpAnyH_take (i := 7) (v := .pointer (some ⟨w.heap.size, 2, none⟩)) rfl (by kernel_rfl) (by kernel_rfl) (by kernel_rfl) (fun _ _ _ h => h) (Or.inl ⟨by rfl, ?r⟩) hS ?_
  case r => intro W hW; simp [go_sem, execOp, Act.eval]
  simp only [List.getElem_toArray, List.getElem_cons_zero, List.getElem_cons_succ, Act.put, List.setIfInBounds_toArray, List.set_cons_succ, List.set_cons_zero]
  refine wpAnyH_take (i := 8) (v := .bool p) rfl (by kernel_rfl) (by kernel_rfl) (by kernel_rfl) (fun _ _ _ h => h) (Or.inl ⟨by rfl, ?r⟩) hS ?_
  case r => intro W hW; simp [go_sem, execOp, Act.eval, hW.1]
  simp only [List.getElem_toArray, List.getElem_cons_zero, List.getElem_cons_succ, Act.put, List.setIfInBounds_toArray, List.set_cons_succ, List.set_cons_zero]
  refine wpAnyH_take (i := 9) (v := .pointer (some ⟨w.heap.size, 3, none⟩)) rfl (by kernel_rfl) (by kernel_rfl) (by kernel_rfl) (fun _ _ _ h => h) (Or.inl ⟨by rfl, ?r⟩) hS ?_
  case r => intro W hW; simp [go_sem, execOp, Act.eval]
  simp only [List.getElem_toArray, List.getElem_cons_zero, List.getElem_cons_succ, Act.put, List.setIfInBounds_toArray, List.set_cons_succ, List.set_cons_zero]
  refine wpAnyH_take (i := 10) (v := .string ⟨#[120]⟩) rfl (by kernel_rfl) (by kernel_rfl) (by kernel_rfl) (fun _ _ _ h => h) (Or.inl ⟨by rfl, ?r⟩) hS ?_
  case r => intro W hW; simp [go_sem, execOp, Act.eval, hW.1]
  simp only [List.getElem_toArray, List.getElem_cons_zero, List.getElem_cons_succ, Act.put, List.setIfInBounds_toArray, List.set_cons_succ, List.set_cons_zero]
  have y4 := hB4.size
  have w4 : Below w.heap.size w V4 := w3.trans (hB4.mono (by omega))
  have b4 : V4.heap[w.heap.size]? = _ := (hB4.block _ (heap_lt b3)).trans b3
  have h4 : V4.heap[cb]? = _ := (hB4.block _ (heap_lt h3)).trans h3
  have n4 : V4.heap[eb]? = _ := (hB4.block _ (heap_lt n3)).trans n3
  have t4 := t3.below hB4
  clear HV4 hB4
  refine wpAnyH_all (rs := [11]) (by kernel_rfl) (by simp) (fun i2 hi2 => ?_)
  obtain rfl : i2 = 11 := by simpa using hi2
  clear hi2
  refine wpOp_step rfl (fun K hK => ite_yes rfl ?_)
  simp only [List.getElem_toArray, List.getElem_cons_zero, List.getElem_cons_succ]
  go_simp
  refine (Find_X tb M g cap pb pe es clk p _ t4).mono ?_
  rintro r V5 ⟨⟨pg, pc, rfl, hp1, hp2, hp3, hp4⟩, c5⟩
  have y5 := c5.size
  have w5 : Below w.heap.size w V5 := w4.trans (c5.mono (by omega))
  have b5 : V5.heap[w.heap.size]? = _ := (c5.block _ (heap_lt b4)).trans b4
  have h5 : V5.heap[cb]? = _ := (c5.block _ (heap_lt h4)).trans h4
  have n5 : V5.heap[eb]? = _ := (c5.block _ (heap_lt n4)).trans n4
  go_simp
  have hSV5 : (∀ j, V5.cell? ⟨w.heap.size, j, none⟩ = (#[.int .i64 0, .string ⟨#[65]⟩, .bool p, .string ⟨#[120]⟩] : Array Value)[j]?) ∧ (∀ j, V5.cell? ⟨cb, j, none⟩ = (#[.func (.func 24) #[.pointer (some ⟨tb, 0, none⟩)] #[], .func (.func 25) #[.pointer (some ⟨tb, 0, none⟩)] #[], d2, d3, d4, d5, d6, d7, d8, d9, d10, d11, d12, d13, d14, d15, d16, d17] : Array Value)[j]?) := ⟨(cells_of b5).1, (cells_of h5).1⟩
  refine hK _ _ ⟨hSV5, ?_⟩
  clear hK K hS
  have hS := hSV5
  clear hSV5
  try simp only [Act.put, List.setIfInBounds_toArray, List.set_cons_succ, List.set_cons_zero]
  refine wpAnyH_take (i := 12) (v := .pointer (some ⟨eb, 0, none⟩)) rfl (by kernel_rfl) (by kernel_rfl) (by kernel_rfl) (fun _ _ _ h => h) (Or.inl ⟨by rfl, ?r⟩) hS ?_
  case r => intro W hW; simp [go_sem, execOp, Act.eval]
  simp only [List.getElem_toArray, List.getElem_cons_zero, List.getElem_cons_succ, Act.put, List.setIfInBounds_toArray, List.set_cons_succ, List.set_cons_zero]
  refine wpAnyH_take (i := 13) (v := .pointer (some ⟨eb, 4, none⟩)) rfl (by kernel_rfl) (by kernel_rfl) (by kernel_rfl) (fun _ _ _ h => h) (Or.inl ⟨by rfl, ?r⟩) hS ?_
  case r => intro W hW; simp [go_sem, execOp, Act.eval]
  simp only [List.getElem_toArray, List.getElem_cons_zero, List.getElem_cons_succ, Act.put, List.setIfInBounds_toArray, List.set_cons_succ, List.set_cons_zero]
  obtain ⟨nc5, nf5⟩ := cells_of n5
  refine wpAnyH_all (rs := [14]) (by kernel_rfl) (by simp) (fun i2 hi2 => ?_)
  obtain rfl : i2 = 14 := by simpa using hi2
  clear hi2
  refine wpOp_step rfl (fun K hK => ite_yes rfl ?_)
  simp only [List.getElem_toArray, List.getElem_cons_zero, List.getElem_cons_succ]
  go_simp
  obtain ⟨V6, hV6⟩ : ∃ W, W = ((((V5.setCell ⟨eb, 4, none⟩ (.int .i64 1)).setCell ⟨eb, 5, none⟩ (.slice (some ⟨pg, 0, none⟩) 1 pc)).setCell ⟨eb, 6, none⟩ (.string ⟨#[]⟩)).setCell ⟨eb, 7, none⟩ (.bool false)).setCell ⟨eb, 8, none⟩ (.int .i64 0) := ⟨_, rfl⟩
  rw [← hV6]
  have k6 : Kp (· = eb) V5 V6 := by rw [hV6]; exact kp_set5' _ _ _ _ _ _ _
  have n6 : V6.heap[eb]? = some (.cells #[.int .i64 0, .string ⟨#[65]⟩, .bool p, .string ⟨#[120]⟩, .int .i64 1, .slice (some ⟨pg, 0, none⟩) 1 pc, .string ⟨#[]⟩, .bool false, .int .i64 0, .bool false, .pointer none, .pointer none] 72) := by rw [hV6]; exact heap_set (heap_set (heap_set (heap_set (heap_set n5 4 _) 5 _) 6 _) 7 _) 8 _
  clear hV6
  have y6 := k6.size
  have hzw := heap_lt hc
  have b6 : V6.heap[w.heap.size]? = _ := (k6.block _ (heap_lt b5) (by omega)).trans b5
  have h6 : V6.heap[cb]? = _ := (k6.block _ (heap_lt h5) (by omega)).trans h5
  have hSV6 : (∀ j, V6.cell? ⟨w.heap.size, j, none⟩ = (#[.int .i64 0, .string ⟨#[65]⟩, .bool p, .string ⟨#[120]⟩] : Array Value)[j]?) ∧ (∀ j, V6.cell? ⟨cb, j, none⟩ = (#[.func (.func 24) #[.pointer (some ⟨tb, 0, none⟩)] #[], .func (.func 25) #[.pointer (some ⟨tb, 0, none⟩)] #[], d2, d3, d4, d5, d6, d7, d8, d9, d10, d11, d12, d13, d14, d15, d16, d17] : Array Value)[j]?) := ⟨(cells_of b6).1, (cells_of h6).1⟩
  refine hK _ _ ⟨hSV6, ?_⟩
  clear hK K hS
  have hS := hSV6
  clear hSV6
  try simp only [Act.put, List.setIfInBounds_toArray, List.set_cons_succ, List.set_cons_zero]
  refine wpAnyH_done (by kernel_rfl) ?_ _
  refine NoPanic.normal ?_
  try simp only [Act.put]
  go_wp2_with fail
  go_ret
  exact ⟨eb, pg, pc, rfl, by omega, n6, by omega, by omega, by omega, hp3, (k6.cell hp2 (by omega)).trans hp4, w5.trans (k6.below (by omega) fun i hi h => by omega)⟩

set_option maxRecDepth 100000 in
set_option maxHeartbeats 4000000 in
theorem answered_E {d2 d3 d4 d5 d6 d7 d8 d9 d10 d11 d12 d13 d14 d15 d16 d17 : Value} (tb M g cap pb pe : Nat) (es : Array MapEntry) (clk : Nat) (cb : Nat) (p : Bool) (w : World) (ht : TabAt w tb M g cap pb pe es clk) (hc : w.heap[cb]? = some (.cells #[.func (.func 24) #[.pointer (some ⟨tb, 0, none⟩)] #[], .func (.func 25) #[.pointer (some ⟨tb, 0, none⟩)] #[], d2, d3, d4, d5, d6, d7, d8, d9, d10, d11, d12, d13, d14, d15, d16, d17] 74)) :
    Calls Tryz.prog 55 #[.pointer (some ⟨cb, 0, none⟩), .agg #[.int .i64 1, .string ⟨#[65]⟩, .bool p, .string ⟨#[101, 114, 114, 111, 114]⟩]] w fun e w' => ∃ eb, e = .returned (.pointer (some ⟨eb, 0, none⟩)) ∧ w.heap.size ≤ eb ∧ w'.heap[eb]? = some (.cells #[.int .i64 1, .string ⟨#[65]⟩, .bool p, .string ⟨#[101, 114, 114, 111, 114]⟩, .int .i64 0, .slice none 0 0, .string ⟨#[]⟩, .bool false, .int .i64 0, .bool false, .pointer none, .pointer none] 72) ∧ Below w.heap.size w w' := by
  go_enter Tryz.func55, Tryz.ntmps55
  go_wp2_with fail
  refine Calls.mono (owned_any _ _ _ _ (by decide) (by decide) _) ?_
  rintro _ V1 ⟨rfl, u1⟩
  have y1 : w.heap.size < V1.heap.size := by have := u1.size; simp at this; omega
  have w1 : Below w.heap.size w V1 := (below1 w _).trans (u1.mono (by simp))
  have b1 : V1.heap[w.heap.size]? = some (.cells #[.int .i64 1, .string ⟨#[65]⟩, .bool p, .string ⟨#[101, 114, 114, 111, 114]⟩] 69) := (u1.block _ (by simp)).trans (heap_new _ _ _ rfl)
  obtain ⟨bc1, bf1⟩ := cells_of b1
  go_wp2_with fail
  obtain ⟨V2, hV2⟩ : ∃ W, W = (((V1.setCell ⟨w.heap.size, 0, none⟩ (.int .i64 1)).setCell ⟨w.heap.size, 1, none⟩ (.string ⟨#[65]⟩)).setCell ⟨w.heap.size, 2, none⟩ (.bool p)).setCell ⟨w.heap.size, 3, none⟩ (.string ⟨#[101, 114, 114, 111, 114]⟩) := ⟨_, rfl⟩
  have k2 : Kp (· = w.heap.size) V1 V2 := by rw [hV2]; exact kp_set4 _ _ _ _ _ _
  have b2 : V2.heap[w.heap.size]? = some (.cells #[.int .i64 1, .string ⟨#[65]⟩, .bool p, .string ⟨#[101, 114, 114, 111, 114]⟩] 69) := by rw [hV2]; exact heap_set (heap_set (heap_set (heap_set b1 0 _) 1 _) 2 _) 3 _
  have y2 := k2.size
  have y2e : V2.heap.size = V1.heap.size := by rw [hV2]; simp
  obtain ⟨V3, hV3⟩ : ∃ W, W = V2.alloc (.cells #[.int .i64 1, .string ⟨#[65]⟩, .bool p, .string ⟨#[101, 114, 114, 111, 114]⟩, .int .i64 0, .slice none 0 0, .string ⟨#[]⟩, .bool false, .int .i64 0, .bool false, .pointer none, .pointer none] 72) := ⟨_, rfl⟩
  have c3 : Below V2.heap.size V2 V3 := by rw [hV3]; exact below1 _ _
  have y3 : V1.heap.size < V3.heap.size := by rw [hV3, World.size_alloc]; omega
  have n3 : V3.heap[V1.heap.size]? = some (.cells #[.int .i64 1, .string ⟨#[65]⟩, .bool p, .string ⟨#[101, 114, 114, 111, 114]⟩, .int .i64 0, .slice none 0 0, .string ⟨#[]⟩, .bool false, .int .i64 0, .bool false, .pointer none, .pointer none] 72) := by rw [hV3]; exact heap_new _ _ _ y2e.symm
  rw [← hV2]
  rw [← hV3]
  clear hV2 bc1 bf1 hV3
  have b3 : V3.heap[w.heap.size]? = _ := (c3.block _ (by omega)).trans b2
  have w3 : Below w.heap.size w V3 := w1.trans ((k2.below (by omega) fun i hi h => by omega).trans (c3.mono (by omega)))
  have h3 : V3.heap[cb]? = _ := (w3.block _ (heap_lt hc)).trans hc
  have t3 := ht.below w3
  obtain ⟨eb, heb⟩ : ∃ n, n = V1.heap.size := ⟨_, rfl⟩
  rw [← heb] at n3 y3 ⊢
  have ebl : w.heap.size < eb := by omega
  clear heb c3 k2 b2 b1 y2 y2e y1 u1 w1
  refine wp_region_noPanic ?_
  refine wp_region_held (S := fun W => (∀ j, W.cell? ⟨w.heap.size, j, none⟩ = (#[.int .i64 1, .string ⟨#[65]⟩, .bool p, .string ⟨#[101, 114, 114, 111, 114]⟩] : Array Value)[j]?) ∧ (∀ j, W.cell? ⟨cb, j, none⟩ = (#[.func (.func 24) #[.pointer (some ⟨tb, 0, none⟩)] #[], .func (.func 25) #[.pointer (some ⟨tb, 0, none⟩)] #[], d2, d3, d4, d5, d6, d7, d8, d9, d10, d11, d12, d13, d14, d15, d16, d17] : Array Value)[j]?)) (by kernel_rfl) ?_
  obtain ⟨V4, hV4⟩ : ∃ W4, W4 = (V3).drew := ⟨_, rfl⟩
  have e4 : ({ V3 with drawn := (V3).drawn + 1 } : World) = V4 := hV4.symm
  rw [e4]
  have hB4 : Below (V3).heap.size (V3) V4 := by rw [hV4]; exact (Below.refl _ _).drew
  have hS : (∀ j, V4.cell? ⟨w.heap.size, j, none⟩ = (#[.int .i64 1, .string ⟨#[65]⟩, .bool p, .string ⟨#[101, 114, 114, 111, 114]⟩] : Array Value)[j]?) ∧ (∀ j, V4.cell? ⟨cb, j, none⟩ = (#[.func (.func 24) #[.pointer (some ⟨tb, 0, none⟩)] #[], .func (.func 25) #[.pointer (some ⟨tb, 0, none⟩)] #[], d2, d3, d4, d5, d6, d7, d8, d9, d10, d11, d12, d13, d14, d15, d16, d17] : Array Value)[j]?) := ⟨(cells_of ((hB4.block _ (heap_lt b3)).trans b3)).1, (cells_of ((hB4.block _ (heap_lt h3)).trans h3)).1⟩
  have HV4 : Hid (V4 = (V3).drew) := hV4
  clear e4 hV4
  refine wpAnyH_take (i := 0) (v := .pointer (some ⟨cb, 0, none⟩)) rfl (by kernel_rfl) (by kernel_rfl) (by kernel_rfl) (fun _ _ _ h => h) (Or.inl ⟨by rfl, ?r⟩) hS ?_
  case r => intro W hW; simp [go_sem, execOp, Act.eval]
  simp only [List.getElem_toArray, List.getElem_cons_zero, Act.put, List.setIfInBounds_toArray, List.set_cons_succ, List.set_cons_zero]
  refine wpAnyH_take (i := 1) (v := .pointer (some ⟨cb, 0, none⟩)) rfl (by kernel_rfl) (by kernel_rfl) (by kernel_rfl) (fun _ _ _ h => h) (Or.inl ⟨by rfl, ?r⟩) hS ?_
  case r => intro W hW; simp [go_sem, execOp, Act.eval]
  simp only [List.getElem_toArray, List.getElem_cons_zero, List.getElem_cons_succ, Act.put, List.setIfInBounds_toArray, List.set_cons_succ, List.set_cons_zero]
  refine wpAnyH_take (i := 2) (v := .pointer (some ⟨cb, 1, none⟩)) rfl (by kernel_rfl) (by kernel_rfl) (by kernel_rfl) (fun _ _ _ h => h) (Or.inl ⟨by rfl, ?r⟩) hS ?_
  case r => intro W hW; simp [go_sem, execOp, Act.eval]
  simp only [List.getElem_toArray, List.getElem_cons_zero, List.getElem_cons_succ, Act.put, List.setIfInBounds_toArray, List.set_cons_succ, List.set_cons_zero]
  refine wpAnyH_take (i := 3) (v := .func (.func 25) #[.pointer (some ⟨tb, 0, none⟩)] #[]) rfl (by kernel_rfl) (by kernel_rfl) (by kernel_rfl) (fun _ _ _ h => h) (Or.inl ⟨by rfl, ?r⟩) hS ?_
  case r => intro W hW; simp [go_sem, execOp, Act.eval, hW.2]
  simp only [List.getElem_toArray, List.getElem_cons_zero, List.getElem_cons_succ, Act.put, List.setIfInBounds_toArray, List.set_cons_succ, List.set_cons_zero]
  refine wpAnyH_take (i := 4) (v := .pointer (some ⟨w.heap.size, 1, none⟩)) rfl (by kernel_rfl) (by kernel_rfl) (by kernel_rfl) (fun _ _ _ h => h) (Or.inl ⟨by rfl, ?r⟩) hS ?_
  case r => intro W hW; simp [go_sem, execOp, Act.eval]
  simp only [List.getElem_toArray, List.getElem_cons_zero, List.getElem_cons_succ, Act.put, List.setIfInBounds_toArray, List.set_cons_succ, List.set_cons_zero]
  refine wpAnyH_take (i := 5) (v := .string ⟨#[65]⟩) rfl (by kernel_rfl) (by kernel_rfl) (by kernel_rfl) (fun _ _ _ h => h) (Or.inl ⟨by rfl, ?r⟩) hS ?_
  case r => intro W hW; simp [go_sem, execOp, Act.eval, hW.1]
  simp only [List.getElem_toArray, List.getElem_cons_zero, List.getElem_cons_succ, Act.put, List.setIfInBounds_toArray, List.set_cons_succ, List.set_cons_zero]
  refine wpAnyH_take (i := 6) (v := .pointer (some ⟨w.heap.size, 2, none⟩)) rfl (by kernel_rfl) (by kernel_rfl) (by kernel_rfl) (fun _ _ _ h => h) (Or.inl ⟨by rfl, ?r⟩) hS ?_
  case r => intro W hW; simp [go_sem, execOp, Act.eval]
  simp only [List.getElem_toArray, List.getElem_cons_zero, List.getElem_cons_succ, Act.put, List.setIfInBounds_toArray, List.set_cons_succ, List.set_cons_zero]
  refine wpAnyH_take (i := 7) (v := .bool p) rfl (by kernel_rfl) (by kernel_rfl) (by kernel_rfl) (fun _ _ _ h => h) (Or.inl ⟨by rfl, ?r⟩) hS ?_
  case r => intro W hW; simp [go_sem, execOp, Act.eval, hW.1]
  simp only [List.getElem_toArray, List.getElem_cons_zero, List.getElem_cons_succ, Act.put, List.setIfInBounds_toArray, List.set_cons_succ, List.set_cons_zero]
  refine wpAnyH_take (i := 8) (v := .pointer (some ⟨w.heap.size, 3, none⟩)) rfl (by kernel_rfl) (by kernel_rfl) (by kernel_rfl) (fun _ _ _ h => h) (Or.inl ⟨by rfl, ?r⟩) hS ?_
  case r => intro W hW; simp [go_sem, execOp, Act.eval]
  simp only [List.getElem_toArray, List.getElem_cons_zero, List.getElem_cons_succ, Act.put, List.setIfInBounds_toArray, List.set_cons_succ, List.set_cons_zero]
  refine wpAnyH_take (i := 9) (v := .string ⟨#[101, 114, 114, 111, 114]⟩) rfl (by kernel_rfl) (by kernel_rfl) (by kernel_rfl) (fun _ _ _ h => h) (Or.inl ⟨by rfl, ?r⟩) hS ?_
  case r => intro W hW; simp [go_sem, execOp, Act.eval, hW.1]
  simp only [List.getElem_toArray, List.getElem_cons_zero, List.getElem_cons_succ, Act.put, List.setIfInBounds_toArray, List.set_cons_succ, List.set_cons_zero]
  have y4 := hB4.size
  have w4 : Below w.heap.size w V4 := w3.trans (hB4.mono (by omega))
  have b4 : V4.heap[w.heap.size]? = _ := (hB4.block _ (heap_lt b3)).trans b3
  have h4 : V4.heap[cb]? = _ := (hB4.block _ (heap_lt h3)).trans h3
  have n4 : V4.heap[eb]? = _ := (hB4.block _ (heap_lt n3)).trans n3
  have t4 := t3.below hB4
  clear HV4 hB4
  refine wpAnyH_all (rs := [10]) (by kernel_rfl) (by simp) (fun i2 hi2 => ?_)
  obtain rfl : i2 = 10 := by simpa using hi2
  clear hi2
  refine wpOp_step rfl (fun K hK => ite_yes rfl ?_)
  simp only [List.getElem_toArray, List.getElem_cons_zero, List.getElem_cons_succ]
  go_simp
  refine (Lacks_error tb M g cap pb pe es clk p _ t4).mono ?_
  rintro r V5 ⟨rfl, c5⟩
  have y5 := c5.size
  have w5 : Below w.heap.size w V5 := w4.trans (c5.mono (by omega))
  have b5 : V5.heap[w.heap.size]? = _ := (c5.block _ (heap_lt b4)).trans b4
  have h5 : V5.heap[cb]? = _ := (c5.block _ (heap_lt h4)).trans h4
  have n5 : V5.heap[eb]? = _ := (c5.block _ (heap_lt n4)).trans n4
  go_simp
  have hSV5 : (∀ j, V5.cell? ⟨w.heap.size, j, none⟩ = (#[.int .i64 1, .string ⟨#[65]⟩, .bool p, .string ⟨#[101, 114, 114, 111, 114]⟩] : Array Value)[j]?) ∧ (∀ j, V5.cell? ⟨cb, j, none⟩ = (#[.func (.func 24) #[.pointer (some ⟨tb, 0, none⟩)] #[], .func (.func 25) #[.pointer (some ⟨tb, 0, none⟩)] #[], d2, d3, d4, d5, d6, d7, d8, d9, d10, d11, d12, d13, d14, d15, d16, d17] : Array Value)[j]?) := ⟨(cells_of b5).1, (cells_of h5).1⟩
  refine hK _ _ ⟨hSV5, ?_⟩
  clear hK K hS
  have hS := hSV5
  clear hSV5
  try simp only [Act.put, List.setIfInBounds_toArray, List.set_cons_succ, List.set_cons_zero]
  refine wpAnyH_take (i := 11) (v := .tuple #[.string ⟨#[69, 114, 114, 111, 114]⟩, .bool true]) rfl (by kernel_rfl) (by kernel_rfl) (by kernel_rfl) (fun _ _ _ h => h) (Or.inl ⟨by rfl, ?r⟩) hS ?_
  case r => intro W hW; simp [go_sem, execOp, Act.eval]
  simp only [List.getElem_toArray, List.getElem_cons_zero, List.getElem_cons_succ, Act.put, List.setIfInBounds_toArray, List.set_cons_succ, List.set_cons_zero]
  refine wpAnyH_take (i := 12) (v := .string ⟨#[69, 114, 114, 111, 114]⟩) rfl (by kernel_rfl) (by kernel_rfl) (by kernel_rfl) (fun _ _ _ h => h) (Or.inl ⟨by rfl, ?r⟩) hS ?_
  case r => intro W hW; simp [go_sem, execOp, Act.eval]
  simp only [List.getElem_toArray, List.getElem_cons_zero, List.getElem_cons_succ, Act.put, List.setIfInBounds_toArray, List.set_cons_succ, List.set_cons_zero]
  refine wpAnyH_take (i := 13) (v := .bool true) rfl (by kernel_rfl) (by kernel_rfl) (by kernel_rfl) (fun _ _ _ h => h) (Or.inl ⟨by rfl, ?r⟩) hS ?_
  case r => intro W hW; simp [go_sem, execOp, Act.eval]
  simp only [List.getElem_toArray, List.getElem_cons_zero, List.getElem_cons_succ, Act.put, List.setIfInBounds_toArray, List.set_cons_succ, List.set_cons_zero]
  refine wpAnyH_take (i := 14) (v := .string ⟨#[69, 114, 114, 111, 114]⟩) rfl (by kernel_rfl) (by kernel_rfl) (by kernel_rfl) (fun _ _ _ h => h) (Or.inl ⟨by rfl, ?r⟩) hS ?_
  case r => intro W hW; simp [go_sem, execOp, Act.eval]
  simp only [List.getElem_toArray, List.getElem_cons_zero, List.getElem_cons_succ, Act.put, List.setIfInBounds_toArray, List.set_cons_succ, List.set_cons_zero]
  refine wpAnyH_take (i := 15) (v := .bool true) rfl (by kernel_rfl) (by kernel_rfl) (by kernel_rfl) (fun _ _ _ h => h) (Or.inl ⟨by rfl, ?r⟩) hS ?_
  case r => intro W hW; simp [go_sem, execOp, Act.eval]
  simp only [List.getElem_toArray, List.getElem_cons_zero, List.getElem_cons_succ, Act.put, List.setIfInBounds_toArray, List.set_cons_succ, List.set_cons_zero]
  refine wpAnyH_done (by kernel_rfl) ?_ _
  refine NoPanic.normal ?_
  try simp only [Act.put]
  obtain ⟨nc5, nf5⟩ := cells_of n5
  go_wp2_with fail
  go_ret
  have hzw := heap_lt hc
  exact ⟨eb, rfl, by omega, heap_set n5 9 (.bool false), w5.trans ((Kp.set (S := (· = eb)) V5 eb 9 (.bool false) rfl).below (by omega) fun i hi h => by omega)⟩

set_option maxRecDepth 100000 in
set_option maxHeartbeats 4000000 in
theorem answered_no {d2 d3 d4 d5 d6 d7 d8 d9 d10 d11 d12 d13 d14 d15 d16 d17 : Value} (tb M g cap pb pe : Nat) (es : Array MapEntry) (clk : Nat) (cb : Nat) (p : Bool) (s : ByteArray) (w : World) (ht : TabAt w tb M g cap pb pe es clk) (hc : w.heap[cb]? = some (.cells #[.func (.func 24) #[.pointer (some ⟨tb, 0, none⟩)] #[], .func (.func 25) #[.pointer (some ⟨tb, 0, none⟩)] #[], d2, d3, d4, d5, d6, d7, d8, d9, d10, d11, d12, d13, d14, d15, d16, d17] 74)) (hs : s.size ≤ 60000) (hno : Instr.findNow .string (.string s) (#[⟨.string ⟨#[120]⟩, .agg #[.bool true, .int .i64 0, .bool false, .int .i64 0], 0⟩] : Array MapEntry).toList 0 = some none) :
    Calls Tryz.prog 55 #[.pointer (some ⟨cb, 0, none⟩), .agg #[.int .i64 0, .string ⟨#[65]⟩, .bool p, .string s]] w fun e w' => ∃ eb, e = .returned (.pointer (some ⟨eb, 0, none⟩)) ∧ w.heap.size ≤ eb ∧ w'.heap[eb]? = some (.cells #[.int .i64 0, .string ⟨#[65]⟩, .bool p, .string s, .int .i64 0, .slice none 0 0, .string ⟨#[]⟩, .bool false, .int .i64 0, .bool false, .pointer none, .pointer none] 72) ∧ Below w.heap.size w w' := by
  go_enter Tryz.func55, Tryz.ntmps55
  go_wp2_with fail
  refine Calls.mono (owned_any _ _ _ _ (by decide) hs _) ?_
  rintro _ V1 ⟨rfl, u1⟩
  have y1 : w.heap.size < V1.heap.size := by have := u1.size; simp at this; omega
  have w1 : Below w.heap.size w V1 := (below1 w _).trans (u1.mono (by simp))
  have b1 : V1.heap[w.heap.size]? = some (.cells #[.int .i64 0, .string ⟨#[65]⟩, .bool p, .string s] 69) := (u1.block _ (by simp)).trans (heap_new _ _ _ rfl)
  obtain ⟨bc1, bf1⟩ := cells_of b1
  go_wp2_with fail
  obtain ⟨V2, hV2⟩ : ∃ W, W = (((V1.setCell ⟨w.heap.size, 0, none⟩ (.int .i64 0)).setCell ⟨w.heap.size, 1, none⟩ (.string ⟨#[65]⟩)).setCell ⟨w.heap.size, 2, none⟩ (.bool p)).setCell ⟨w.heap.size, 3, none⟩ (.string s) := ⟨_, rfl⟩
  have k2 : Kp (· = w.heap.size) V1 V2 := by rw [hV2]; exact kp_set4 _ _ _ _ _ _
  have b2 : V2.heap[w.heap.size]? = some (.cells #[.int .i64 0, .string ⟨#[65]⟩, .bool p, .string s] 69) := by rw [hV2]; exact heap_set (heap_set (heap_set (heap_set b1 0 _) 1 _) 2 _) 3 _
  have y2 := k2.size
  have y2e : V2.heap.size = V1.heap.size := by rw [hV2]; simp
  obtain ⟨V3, hV3⟩ : ∃ W, W = V2.alloc (.cells #[.int .i64 0, .string ⟨#[65]⟩, .bool p, .string s, .int .i64 0, .slice none 0 0, .string ⟨#[]⟩, .bool false, .int .i64 0, .bool false, .pointer none, .pointer none] 72) := ⟨_, rfl⟩
  have c3 : Below V2.heap.size V2 V3 := by rw [hV3]; exact below1 _ _
  have y3 : V1.heap.size < V3.heap.size := by rw [hV3, World.size_alloc]; omega
  have n3 : V3.heap[V1.heap.size]? = some (.cells #[.int .i64 0, .string ⟨#[65]⟩, .bool p, .string s, .int .i64 0, .slice none 0 0, .string ⟨#[]⟩, .bool false, .int .i64 0, .bool false, .pointer none, .pointer none] 72) := by rw [hV3]; exact heap_new _ _ _ y2e.symm
  rw [← hV2]
  rw [← hV3]
  clear hV2 bc1 bf1 hV3
  have b3 : V3.heap[w.heap.size]? = _ := (c3.block _ (by omega)).trans b2
  have w3 : Below w.heap.size w V3 := w1.trans ((k2.below (by omega) fun i hi h => by omega).trans (c3.mono (by omega)))
  have h3 : V3.heap[cb]? = _ := (w3.block _ (heap_lt hc)).trans hc
  have t3 := ht.below w3
  obtain ⟨eb, heb⟩ : ∃ n, n = V1.heap.size := ⟨_, rfl⟩
  rw [← heb] at n3 y3 ⊢
  have ebl : w.heap.size < eb := by omega
  clear heb c3 k2 b2 b1 y2 y2e y1 u1 w1
  refine wp_region_noPanic ?_
  refine wp_region_held (S := fun W => (∀ j, W.cell? ⟨w.heap.size, j, none⟩ = (#[.int .i64 0, .string ⟨#[65]⟩, .bool p, .string s] : Array Value)[j]?) ∧ (∀ j, W.cell? ⟨cb, j, none⟩ = (#[.func (.func 24) #[.pointer (some ⟨tb, 0, none⟩)] #[], .func (.func 25) #[.pointer (some ⟨tb, 0, none⟩)] #[], d2, d3, d4, d5, d6, d7, d8, d9, d10, d11, d12, d13, d14, d15, d16, d17] : Array Value)[j]?)) (by kernel_rfl) ?_
  obtain ⟨V4, hV4⟩ : ∃ W4, W4 = (V3).drew := ⟨_, rfl⟩
  have e4 : ({ V3 with drawn := (V3).drawn + 1 } : World) = V4 := hV4.symm
  rw [e4]
  have hB4 : Below (V3).heap.size (V3) V4 := by rw [hV4]; exact (Below.refl _ _).drew
  have hS : (∀ j, V4.cell? ⟨w.heap.size, j, none⟩ = (#[.int .i64 0, .string ⟨#[65]⟩, .bool p, .string s] : Array Value)[j]?) ∧ (∀ j, V4.cell? ⟨cb, j, none⟩ = (#[.func (.func 24) #[.pointer (some ⟨tb, 0, none⟩)] #[], .func (.func 25) #[.pointer (some ⟨tb, 0, none⟩)] #[], d2, d3, d4, d5, d6, d7, d8, d9, d10, d11, d12, d13, d14, d15, d16, d17] : Array Value)[j]?) := ⟨(cells_of ((hB4.block _ (heap_lt b3)).trans b3)).1, (cells_of ((hB4.block _ (heap_lt h3)).trans h3)).1⟩
  have HV4 : Hid (V4 = (V3).drew) := hV4
  clear e4 hV4
  refine wpAnyH_take (i := 0) (v := .pointer (some ⟨eb, 0, none⟩)) rfl (by kernel_rfl) (by kernel_rfl) (by kernel_rfl) (fun _ _ _ h => h) (Or.inl ⟨by rfl, ?r⟩) hS ?_
  case r => intro W hW; simp [go_sem, execOp, Act.eval]
  simp only [List.getElem_toArray, List.getElem_cons_zero, Act.put, List.setIfInBounds_toArray, List.set_cons_succ, List.set_cons_zero]
  refine wpAnyH_take (i := 1) (v := .pointer (some ⟨cb, 0, none⟩)) rfl (by kernel_rfl) (by kernel_rfl) (by kernel_rfl) (fun _ _ _ h => h) (Or.inl ⟨by rfl, ?r⟩) hS ?_
  case r => intro W hW; simp [go_sem, execOp, Act.eval]
  simp only [List.getElem_toArray, List.getElem_cons_zero, List.getElem_cons_succ, Act.put, List.setIfInBounds_toArray, List.set_cons_succ, List.set_cons_zero]
  refine wpAnyH_take (i := 2) (v := .pointer (some ⟨cb, 0, none⟩)) rfl (by kernel_rfl) (by kernel_rfl) (by kernel_rfl) (fun _ _ _ h => h) (Or.inl ⟨by rfl, ?r⟩) hS ?_
  case r => intro W hW; simp [go_sem, execOp, Act.eval]
  simp only [List.getElem_toArray, List.getElem_cons_zero, List.getElem_cons_succ, Act.put, List.setIfInBounds_toArray, List.set_cons_succ, List.set_cons_zero]
  refine wpAnyH_take (i := 3) (v := .pointer (some ⟨cb, 0, none⟩)) rfl (by kernel_rfl) (by kernel_rfl) (by kernel_rfl) (fun _ _ _ h => h) (Or.inl ⟨by rfl, ?r⟩) hS ?_
  case r => intro W hW; simp [go_sem, execOp, Act.eval]
  simp only [List.getElem_toArray, List.getElem_cons_zero, List.getElem_cons_succ, Act.put, List.setIfInBounds_toArray, List.set_cons_succ, List.set_cons_zero]
  refine wpAnyH_take (i := 4) (v := .func (.func 24) #[.pointer (some ⟨tb, 0, none⟩)] #[]) rfl (by kernel_rfl) (by kernel_rfl) (by kernel_rfl) (fun _ _ _ h => h) (Or.inl ⟨by rfl, ?r⟩) hS ?_
  case r => intro W hW; simp [go_sem, execOp, Act.eval, hW.2]
  simp only [List.getElem_toArray, List.getElem_cons_zero, List.getElem_cons_succ, Act.put, List.setIfInBounds_toArray, List.set_cons_succ, List.set_cons_zero]
  refine wpAnyH_take (i := 5) (v := .pointer (some ⟨w.heap.size, 1, none⟩)) rfl (by kernel_rfl) (by kernel_rfl) (by kernel_rfl) (fun _ _ _ h => h) (Or.inl ⟨by rfl, ?r⟩) hS ?_
  case r => intro W hW; simp [go_sem, execOp, Act.eval]
  simp only [List.getElem_toArray, List.getElem_cons_zero, List.getElem_cons_succ, Act.put, List.setIfInBounds_toArray, List.set_cons_succ, List.set_cons_zero]
  refine wpAnyH_take (i := 6) (v := .string ⟨#[65]⟩) rfl (by kernel_rfl) (by kernel_rfl) (by kernel_rfl) (fun _ _ _ h => h) (Or.inl ⟨by rfl, ?r⟩) hS ?_
  case r => intro W hW; simp [go_sem, execOp, Act.eval, hW.1]
  simp only [List.getElem_toArray, List.getElem_cons_zero, List.getElem_cons_succ, Act.put, List.setIfInBounds_toArray, List.set_cons_succ, List.set_cons_zero]
  refine wpAnyH_take (i := 7) (v := .pointer (some ⟨w.heap.size, 2, none⟩)) rfl (by kernel_rfl) (by kernel_rfl) (by kernel_rfl) (fun _ _ _ h => h) (Or.inl ⟨by rfl, ?r⟩) hS ?_
  case r => intro W hW; simp [go_sem, execOp, Act.eval]
  simp only [List.getElem_toArray, List.getElem_cons_zero, List.getElem_cons_succ, Act.put, List.setIfInBounds_toArray, List.set_cons_succ, List.set_cons_zero]
  refine wpAnyH_take (i := 8) (v := .bool p) rfl (by kernel_rfl) (by kernel_rfl) (by kernel_rfl) (fun _ _ _ h => h) (Or.inl ⟨by rfl, ?r⟩) hS ?_
  case r => intro W hW; simp [go_sem, execOp, Act.eval, hW.1]
  simp only [List.getElem_toArray, List.getElem_cons_zero, List.getElem_cons_succ, Act.put, List.setIfInBounds_toArray, List.set_cons_succ, List.set_cons_zero]
  refine wpAnyH_take (i := 9) (v := .pointer (some ⟨w.heap.size, 3, none⟩)) rfl (by kernel_rfl) (by kernel_rfl) (by kernel_rfl) (fun _ _ _ h => h) (Or.inl ⟨by rfl, ?r⟩) hS ?_
  case r => intro W hW; simp [go_sem, execOp, Act.eval]
  simp only [List.getElem_toArray, List.getElem_cons_zero, List.getElem_cons_succ, Act.put, List.setIfInBounds_toArray, List.set_cons_succ, List.set_cons_zero]
  refine wpAnyH_take (i := 10) (v := .string s) rfl (by kernel_rfl) (by kernel_rfl) (by kernel_rfl) (fun _ _ _ h => h) (Or.inl ⟨by rfl, ?r⟩) hS ?_
  case r => intro W hW; simp [go_sem, execOp, Act.eval, hW.1]
  simp only [List.getElem_toArray, List.getElem_cons_zero, List.getElem_cons_succ, Act.put, List.setIfInBounds_toArray, List.set_cons_succ, List.set_cons_zero]
  have y4 := hB4.size
  have w4 : Below w.heap.size w V4 := w3.trans (hB4.mono (by omega))
  have b4 : V4.heap[w.heap.size]? = _ := (hB4.block _ (heap_lt b3)).trans b3
  have h4 : V4.heap[cb]? = _ := (hB4.block _ (heap_lt h3)).trans h3
  have n4 : V4.heap[eb]? = _ := (hB4.block _ (heap_lt n3)).trans n3
  have t4 := t3.below hB4
  clear HV4 hB4
  refine wpAnyH_all (rs := [11]) (by kernel_rfl) (by simp) (fun i2 hi2 => ?_)
  obtain rfl : i2 = 11 := by simpa using hi2
  clear hi2
  refine wpOp_step rfl (fun K hK => ite_yes rfl ?_)
  simp only [List.getElem_toArray, List.getElem_cons_zero, List.getElem_cons_succ]
  go_simp
  refine (Find_no tb M g cap pb pe es clk p s _ t4 hno).mono ?_
  rintro r V5 ⟨rfl, c5⟩
  have y5 := c5.size
  have w5 : Below w.heap.size w V5 := w4.trans (c5.mono (by omega))
  have b5 : V5.heap[w.heap.size]? = _ := (c5.block _ (heap_lt b4)).trans b4
  have h5 : V5.heap[cb]? = _ := (c5.block _ (heap_lt h4)).trans h4
  have n5 : V5.heap[eb]? = _ := (c5.block _ (heap_lt n4)).trans n4
  go_simp
  have hSV5 : (∀ j, V5.cell? ⟨w.heap.size, j, none⟩ = (#[.int .i64 0, .string ⟨#[65]⟩, .bool p, .string s] : Array Value)[j]?) ∧ (∀ j, V5.cell? ⟨cb, j, none⟩ = (#[.func (.func 24) #[.pointer (some ⟨tb, 0, none⟩)] #[], .func (.func 25) #[.pointer (some ⟨tb, 0, none⟩)] #[], d2, d3, d4, d5, d6, d7, d8, d9, d10, d11, d12, d13, d14, d15, d16, d17] : Array Value)[j]?) := ⟨(cells_of b5).1, (cells_of h5).1⟩
  refine hK _ _ ⟨hSV5, ?_⟩
  clear hK K hS
  have hS := hSV5
  clear hSV5
  try simp only [Act.put, List.setIfInBounds_toArray, List.set_cons_succ, List.set_cons_zero]
  refine wpAnyH_take (i := 12) (v := .pointer (some ⟨eb, 0, none⟩)) rfl (by kernel_rfl) (by kernel_rfl) (by kernel_rfl) (fun _ _ _ h => h) (Or.inl ⟨by rfl, ?r⟩) hS ?_
  case r => intro W hW; simp [go_sem, execOp, Act.eval]
  simp only [List.getElem_toArray, List.getElem_cons_zero, List.getElem_cons_succ, Act.put, List.setIfInBounds_toArray, List.set_cons_succ, List.set_cons_zero]
  refine wpAnyH_take (i := 13) (v := .pointer (some ⟨eb, 4, none⟩)) rfl (by kernel_rfl) (by kernel_rfl) (by kernel_rfl) (fun _ _ _ h => h) (Or.inl ⟨by rfl, ?r⟩) hS ?_
  case r => intro W hW; simp [go_sem, execOp, Act.eval]
  simp only [List.getElem_toArray, List.getElem_cons_zero, List.getElem_cons_succ, Act.put, List.setIfInBounds_toArray, List.set_cons_succ, List.set_cons_zero]
  obtain ⟨nc5, nf5⟩ := cells_of n5
  refine wpAnyH_all (rs := [14]) (by kernel_rfl) (by simp) (fun i2 hi2 => ?_)
  obtain rfl : i2 = 14 := by simpa using hi2
  clear hi2
  refine wpOp_step rfl (fun K hK => ite_yes rfl ?_)
  simp only [List.getElem_toArray, List.getElem_cons_zero, List.getElem_cons_succ]
  go_simp
  obtain ⟨V6, hV6⟩ : ∃ W, W = ((((V5.setCell ⟨eb, 4, none⟩ (.int .i64 0)).setCell ⟨eb, 5, none⟩ (.slice none 0 0)).setCell ⟨eb, 6, none⟩ (.string ⟨#[]⟩)).setCell ⟨eb, 7, none⟩ (.bool false)).setCell ⟨eb, 8, none⟩ (.int .i64 0) := ⟨_, rfl⟩
  rw [← hV6]
  have k6 : Kp (· = eb) V5 V6 := by rw [hV6]; exact kp_set5' _ _ _ _ _ _ _
  have n6 : V6.heap[eb]? = some (.cells #[.int .i64 0, .string ⟨#[65]⟩, .bool p, .string s, .int .i64 0, .slice none 0 0, .string ⟨#[]⟩, .bool false, .int .i64 0, .bool false, .pointer none, .pointer none] 72) := by rw [hV6]; exact heap_set (heap_set (heap_set (heap_set (heap_set n5 4 _) 5 _) 6 _) 7 _) 8 _
  clear hV6
  have y6 := k6.size
  have hzw := heap_lt hc
  have b6 : V6.heap[w.heap.size]? = _ := (k6.block _ (heap_lt b5) (by omega)).trans b5
  have h6 : V6.heap[cb]? = _ := (k6.block _ (heap_lt h5) (by omega)).trans h5
  have hSV6 : (∀ j, V6.cell? ⟨w.heap.size, j, none⟩ = (#[.int .i64 0, .string ⟨#[65]⟩, .bool p, .string s] : Array Value)[j]?) ∧ (∀ j, V6.cell? ⟨cb, j, none⟩ = (#[.func (.func 24) #[.pointer (some ⟨tb, 0, none⟩)] #[], .func (.func 25) #[.pointer (some ⟨tb, 0, none⟩)] #[], d2, d3, d4, d5, d6, d7, d8, d9, d10, d11, d12, d13, d14, d15, d16, d17] : Array Value)[j]?) := ⟨(cells_of b6).1, (cells_of h6).1⟩
  refine hK _ _ ⟨hSV6, ?_⟩
  clear hK K hS
  have hS := hSV6
  clear hSV6
  try simp only [Act.put, List.setIfInBounds_toArray, List.set_cons_succ, List.set_cons_zero]
  refine wpAnyH_done (by kernel_rfl) ?_ _
  refine NoPanic.normal ?_
  try simp only [Act.put]
  go_wp2_with fail
  go_ret
  exact ⟨eb, rfl, by omega, n6, w5.trans (k6.below (by omega) fun i hi h => by omega)⟩

end Go.Proofs.YtaboeocgoocgfaaGreatDoor
