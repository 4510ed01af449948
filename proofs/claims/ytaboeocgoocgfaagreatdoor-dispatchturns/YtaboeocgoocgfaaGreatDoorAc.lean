/-
  A cache asked: the calls.
-/
import Derived.Test.YtaboeocgoocgfaaGreatDoorAb
namespace Go.Proofs.YtaboeocgoocgfaaGreatDoor
open Go.RowKit Go.ChangeMaps

set_option maxRecDepth 100000 in
set_option maxHeartbeats 4000000 in
theorem ask_first {rm : Int} (tb M g cap pb pe : Nat) (es : Array MapEntry) (clk : Nat) (cb mb : Nat) (tB : Nat) (h m : Int) (hh : 0 ≤ m ∧ m < 1000) (hrm : 1 ≤ rm) (w : World) (ht : TabAt w tb M g cap pb pe es clk) (hB : tb < tB ∧ M < tB ∧ g < tB ∧ pb < tB ∧ pe < tB) (hBc : tB ≤ cb) (hc : w.heap[cb]? = some (.cells #[.func (.func 24) #[.pointer (some ⟨tb, 0, none⟩)] #[], .func (.func 25) #[.pointer (some ⟨tb, 0, none⟩)] #[], .int .i64 rm, .int .i64 h, .int .i64 m, .map (some mb), .int .i64 0, .string ⟨#[]⟩, .bool false, .string ⟨#[]⟩, .int .i64 0, .slice none 0 0, .string ⟨#[]⟩, .bool false, .int .i64 0, .bool false, .pointer (some ⟨cb, 6, none⟩), .pointer (some ⟨cb, 6, none⟩)] 74)) (hm : w.heap[mb]? = some (.map #[] 0)) (hmc : mb ≠ cb) :
    Calls Tryz.prog 31 #[.pointer (some ⟨cb, 0, none⟩), .agg #[.int .i64 0, .string ⟨#[65]⟩, .bool false, .string ⟨#[120]⟩]] w fun e w' => ∃ eb pg pc, e = .returned (.pointer (some ⟨eb, 0, none⟩)) ∧ w.heap.size ≤ eb ∧ w'.heap[eb]? = some (.cells #[.int .i64 0, .string ⟨#[65]⟩, .bool false, .string ⟨#[120]⟩, .int .i64 1, .slice (some ⟨pg, 0, none⟩) 1 pc, .string ⟨#[]⟩, .bool false, .int .i64 0, .bool false, .pointer (some ⟨cb, 6, none⟩), .pointer (some ⟨cb, 6, none⟩)] 72) ∧ w'.heap[cb]? = some (.cells #[.func (.func 24) #[.pointer (some ⟨tb, 0, none⟩)] #[], .func (.func 25) #[.pointer (some ⟨tb, 0, none⟩)] #[], .int .i64 rm, .int .i64 h, .int .i64 (m + 1), .map (some mb), .int .i64 0, .string ⟨#[]⟩, .bool false, .string ⟨#[]⟩, .int .i64 0, .slice none 0 0, .string ⟨#[]⟩, .bool false, .int .i64 0, .bool false, .pointer (some ⟨eb, 0, none⟩), .pointer (some ⟨eb, 0, none⟩)] 74) ∧ w'.heap[mb]? = some (.map #[⟨.agg #[.int .i64 0, .string ⟨#[65]⟩, .bool false, .string ⟨#[120]⟩], .pointer (some ⟨eb, 0, none⟩), 0⟩] 1) ∧ w.heap.size ≤ pg ∧ pg < w'.heap.size ∧ pg ≠ eb ∧ 1 ≤ pc ∧ w'.cell? ⟨pg, 0, none⟩ = some (.int .i64 0) ∧ Kp (fun i => i = cb ∨ i = mb) w w' := by
  go_enter Tryz.func31, Tryz.ntmps31
  go_wp2_with fail
  obtain ⟨U0, hU0⟩ : ∃ W, W = w.alloc (.cells #[.int .i64 0, .string ⟨#[65]⟩, .bool false, .string ⟨#[120]⟩] 69) := ⟨_, rfl⟩
  rw [← hU0]
  have u0 : Below w.heap.size w U0 := by rw [hU0]; exact below1 w _
  have y0 : w.heap.size < U0.heap.size := by rw [hU0]; simp
  have b0 : U0.heap[w.heap.size]? = some (.cells #[.int .i64 0, .string ⟨#[65]⟩, .bool false, .string ⟨#[120]⟩] 69) := by rw [hU0]; exact heap_new _ _ _ rfl
  clear hU0
  have hcl := heap_lt hc
  have hml := heap_lt hm
  have c0 : U0.heap[cb]? = _ := (u0.block _ hcl).trans hc
  have m0 : U0.heap[mb]? = _ := (u0.block _ hml).trans hm
  refine wp_region_noPanic ?_
  refine wp_region_held (S := fun W => (∀ j, W.cell? ⟨w.heap.size, j, none⟩ = (#[.int .i64 0, .string ⟨#[65]⟩, .bool false, .string ⟨#[120]⟩] : Array Value)[j]?) ∧ (∀ j, W.cell? ⟨cb, j, none⟩ = (#[.func (.func 24) #[.pointer (some ⟨tb, 0, none⟩)] #[], .func (.func 25) #[.pointer (some ⟨tb, 0, none⟩)] #[], .int .i64 rm, .int .i64 h, .int .i64 m, .map (some mb), .int .i64 0, .string ⟨#[]⟩, .bool false, .string ⟨#[]⟩, .int .i64 0, .slice none 0 0, .string ⟨#[]⟩, .bool false, .int .i64 0, .bool false, .pointer (some ⟨cb, 6, none⟩), .pointer (some ⟨cb, 6, none⟩)] : Array Value)[j]?) ∧ W.heap[mb]? = some (.map #[] 0)) (by kernel_rfl) ?_
  obtain ⟨V1, hV1⟩ : ∃ W4, W4 = (U0).drew := ⟨_, rfl⟩
  have e4 : ({ U0 with drawn := (U0).drawn + 1 } : World) = V1 := hV1.symm
  rw [e4]
  have hB4 : Below (U0).heap.size (U0) V1 := by rw [hV1]; exact (Below.refl _ _).drew
  have hS : (∀ j, V1.cell? ⟨w.heap.size, j, none⟩ = (#[.int .i64 0, .string ⟨#[65]⟩, .bool false, .string ⟨#[120]⟩] : Array Value)[j]?) ∧ (∀ j, V1.cell? ⟨cb, j, none⟩ = (#[.func (.func 24) #[.pointer (some ⟨tb, 0, none⟩)] #[], .func (.func 25) #[.pointer (some ⟨tb, 0, none⟩)] #[], .int .i64 rm, .int .i64 h, .int .i64 m, .map (some mb), .int .i64 0, .string ⟨#[]⟩, .bool false, .string ⟨#[]⟩, .int .i64 0, .slice none 0 0, .string ⟨#[]⟩, .bool false, .int .i64 0, .bool false, .pointer (some ⟨cb, 6, none⟩), .pointer (some ⟨cb, 6, none⟩)] : Array Value)[j]?) ∧ V1.heap[mb]? = some (.map #[] 0) := ⟨(cells_of ((hB4.block _ (heap_lt b0)).trans b0)).1, (cells_of ((hB4.block _ (heap_lt c0)).trans c0)).1, (hB4.block _ (heap_lt m0)).trans m0⟩
  have HV1 : Hid (V1 = (U0).drew) := hV1
  clear e4 hV1
  refine wpAnyH_take (i := 0) (v := .pointer (some ⟨cb, 0, none⟩)) rfl (by kernel_rfl) (by kernel_rfl) (by kernel_rfl) (fun _ _ _ h => h) (Or.inl ⟨by rfl, ?r⟩) hS ?_
  case r => intro W hW; simp [go_sem, execOp, Act.eval]
  simp only [List.getElem_toArray, List.getElem_cons_zero, Act.put, List.setIfInBounds_toArray, List.set_cons_succ, List.set_cons_zero]
  refine wpAnyH_take (i := 1) (v := .pointer (some ⟨cb, 0, none⟩)) rfl (by kernel_rfl) (by kernel_rfl) (by kernel_rfl) (fun _ _ _ h => h) (Or.inl ⟨by rfl, ?r⟩) hS ?_
  case r => intro W hW; simp [go_sem, execOp, Act.eval]
  simp only [List.getElem_toArray, List.getElem_cons_zero, List.getElem_cons_succ, Act.put, List.setIfInBounds_toArray, List.set_cons_succ, List.set_cons_zero]
  refine wpAnyH_take (i := 2) (v := .pointer (some ⟨cb, 5, none⟩)) rfl (by kernel_rfl) (by kernel_rfl) (by kernel_rfl) (fun _ _ _ h => h) (Or.inl ⟨by rfl, ?r⟩) hS ?_
  case r => intro W hW; simp [go_sem, execOp, Act.eval]
  simp only [List.getElem_toArray, List.getElem_cons_zero, List.getElem_cons_succ, Act.put, List.setIfInBounds_toArray, List.set_cons_succ, List.set_cons_zero]
  refine wpAnyH_take (i := 3) (v := .map (some mb)) rfl (by kernel_rfl) (by kernel_rfl) (by kernel_rfl) (fun _ _ _ h => h) (Or.inl ⟨by rfl, ?r⟩) hS ?_
  case r => intro W hW; simp [go_sem, execOp, Act.eval, hW.2.1]
  simp only [List.getElem_toArray, List.getElem_cons_zero, List.getElem_cons_succ, Act.put, List.setIfInBounds_toArray, List.set_cons_succ, List.set_cons_zero]
  refine wpAnyH_take (i := 4) (v := .agg #[.int .i64 0, .string ⟨#[65]⟩, .bool false, .string ⟨#[120]⟩]) rfl (by kernel_rfl) (by kernel_rfl) (by kernel_rfl) (fun _ _ _ h => h) (Or.inl ⟨by rfl, ?r⟩) hS ?_
  case r => intro W hW; simp [go_sem, execOp, Act.eval, hW.1]
  simp only [List.getElem_toArray, List.getElem_cons_zero, List.getElem_cons_succ, Act.put, List.setIfInBounds_toArray, List.set_cons_succ, List.set_cons_zero]
  refine wpAnyH_take (i := 5) (v := .tuple #[.pointer none, .bool false]) rfl (by kernel_rfl) (by kernel_rfl) (by kernel_rfl) (fun _ _ _ h => h) (Or.inl ⟨by rfl, ?r⟩) hS ?_
  case r => intro W hW; simp [go_sem, execOp, Act.eval, lookQ_no hW.2.2 (ck1 W) (fk0 W)]
  simp only [List.getElem_toArray, List.getElem_cons_zero, List.getElem_cons_succ, Act.put, List.setIfInBounds_toArray, List.set_cons_succ, List.set_cons_zero]
  refine wpAnyH_take (i := 6) (v := .tuple #[.pointer none, .bool false]) rfl (by kernel_rfl) (by kernel_rfl) (by kernel_rfl) (fun _ _ _ h => h) (Or.inl ⟨by rfl, ?r⟩) hS ?_
  case r => intro W hW; simp [go_sem, execOp, Act.eval]
  simp only [List.getElem_toArray, List.getElem_cons_zero, List.getElem_cons_succ, Act.put, List.setIfInBounds_toArray, List.set_cons_succ, List.set_cons_zero]
  refine wpAnyH_take (i := 7) (v := .pointer none) rfl (by kernel_rfl) (by kernel_rfl) (by kernel_rfl) (fun _ _ _ h => h) (Or.inl ⟨by rfl, ?r⟩) hS ?_
  case r => intro W hW; simp [go_sem, execOp, Act.eval]
  simp only [List.getElem_toArray, List.getElem_cons_zero, List.getElem_cons_succ, Act.put, List.setIfInBounds_toArray, List.set_cons_succ, List.set_cons_zero]
  refine wpAnyH_take (i := 8) (v := .bool false) rfl (by kernel_rfl) (by kernel_rfl) (by kernel_rfl) (fun _ _ _ h => h) (Or.inl ⟨by rfl, ?r⟩) hS ?_
  case r => intro W hW; simp [go_sem, execOp, Act.eval]
  simp only [List.getElem_toArray, List.getElem_cons_zero, List.getElem_cons_succ, Act.put, List.setIfInBounds_toArray, List.set_cons_succ, List.set_cons_zero]
  refine wpAnyH_take (i := 9) (v := .pointer none) rfl (by kernel_rfl) (by kernel_rfl) (by kernel_rfl) (fun _ _ _ h => h) (Or.inl ⟨by rfl, ?r⟩) hS ?_
  case r => intro W hW; simp [go_sem, execOp, Act.eval]
  simp only [List.getElem_toArray, List.getElem_cons_zero, List.getElem_cons_succ, Act.put, List.setIfInBounds_toArray, List.set_cons_succ, List.set_cons_zero]
  refine wpAnyH_take (i := 10) (v := .bool false) rfl (by kernel_rfl) (by kernel_rfl) (by kernel_rfl) (fun _ _ _ h => h) (Or.inl ⟨by rfl, ?r⟩) hS ?_
  case r => intro W hW; simp [go_sem, execOp, Act.eval]
  simp only [List.getElem_toArray, List.getElem_cons_zero, List.getElem_cons_succ, Act.put, List.setIfInBounds_toArray, List.set_cons_succ, List.set_cons_zero]
  refine wpAnyH_done (by kernel_rfl) ?_ _
  refine NoPanic.normal ?_
  try simp only [Act.put]
  have w1 : Below w.heap.size w V1 := u0.trans (hB4.mono (by omega))
  have y1 : w.heap.size < V1.heap.size := Nat.lt_of_lt_of_le y0 hB4.size
  have b1 : V1.heap[w.heap.size]? = _ := (hB4.block _ (heap_lt b0)).trans b0
  have c1 : V1.heap[cb]? = _ := (hB4.block _ (heap_lt c0)).trans c0
  have m1 : V1.heap[mb]? = _ := (hB4.block _ (heap_lt m0)).trans m0
  clear HV1 hB4 hS u0 b0 c0 m0
  obtain ⟨cc1, cf1⟩ := cells_of c1
  have bc1 := (cells_of b1).1
  go_wp2_with fail
  obtain ⟨V2, hV2⟩ : ∃ W, W = V1.setCell ⟨cb, 4, none⟩ (.int .i64 (m + 1)) := ⟨_, rfl⟩
  rw [← hV2]
  have k2 : Kp (· = cb) V1 V2 := by rw [hV2]; exact Kp.set _ _ _ _ rfl
  have c2 : V2.heap[cb]? = some (.cells #[.func (.func 24) #[.pointer (some ⟨tb, 0, none⟩)] #[], .func (.func 25) #[.pointer (some ⟨tb, 0, none⟩)] #[], .int .i64 rm, .int .i64 h, .int .i64 (m + 1), .map (some mb), .int .i64 0, .string ⟨#[]⟩, .bool false, .string ⟨#[]⟩, .int .i64 0, .slice none 0 0, .string ⟨#[]⟩, .bool false, .int .i64 0, .bool false, .pointer (some ⟨cb, 6, none⟩), .pointer (some ⟨cb, 6, none⟩)] 74) := by rw [hV2]; exact heap_set c1 4 _
  clear hV2 cc1 cf1 bc1
  have z2 := k2.size
  have b2 : V2.heap[w.heap.size]? = _ := (k2.block _ (heap_lt b1) (by omega)).trans b1
  have m2 : V2.heap[mb]? = _ := (k2.block _ (heap_lt m1) hmc).trans m1
  have tl := ht.lts
  have t2 := (ht.below w1).kp k2 (B := tB) hB (fun i hi (e : i = cb) => by omega)
  refine Calls.mono (answered_X tb M g cap pb pe es clk cb false _ t2 c2) ?_
  rintro _ V3 ⟨eb, pg, pcc, rfl, he1, e3, hp0, hp1, hp2, hp3, hp4, k3⟩
  have z3 := k3.size
  have c3 : V3.heap[cb]? = _ := (k3.block _ (heap_lt c2)).trans c2
  have m3 : V3.heap[mb]? = _ := (k3.block _ (heap_lt m2)).trans m2
  go_wp2_with fail
  refine wp_region_noPanic ?_
  refine wp_region_held (S := fun W => (∀ j, W.cell? ⟨eb, j, none⟩ = (#[.int .i64 0, .string ⟨#[65]⟩, .bool false, .string ⟨#[120]⟩, .int .i64 1, .slice (some ⟨pg, 0, none⟩) 1 pcc, .string ⟨#[]⟩, .bool false, .int .i64 0, .bool false, .pointer none, .pointer none] : Array Value)[j]?) ∧ (∀ j, W.cell? ⟨cb, j, none⟩ = (#[.func (.func 24) #[.pointer (some ⟨tb, 0, none⟩)] #[], .func (.func 25) #[.pointer (some ⟨tb, 0, none⟩)] #[], .int .i64 rm, .int .i64 h, .int .i64 (m + 1), .map (some mb), .int .i64 0, .string ⟨#[]⟩, .bool false, .string ⟨#[]⟩, .int .i64 0, .slice none 0 0, .string ⟨#[]⟩, .bool false, .int .i64 0, .bool false, .pointer (some ⟨cb, 6, none⟩), .pointer (some ⟨cb, 6, none⟩)] : Array Value)[j]?)) (by kernel_rfl) ?_
  obtain ⟨V4, hV4⟩ : ∃ W4, W4 = (V3).drew := ⟨_, rfl⟩
  have e4 : ({ V3 with drawn := (V3).drawn + 1 } : World) = V4 := hV4.symm
  rw [e4]
  have hB4 : Below (V3).heap.size (V3) V4 := by rw [hV4]; exact (Below.refl _ _).drew
  have hS : (∀ j, V4.cell? ⟨eb, j, none⟩ = (#[.int .i64 0, .string ⟨#[65]⟩, .bool false, .string ⟨#[120]⟩, .int .i64 1, .slice (some ⟨pg, 0, none⟩) 1 pcc, .string ⟨#[]⟩, .bool false, .int .i64 0, .bool false, .pointer none, .pointer none] : Array Value)[j]?) ∧ (∀ j, V4.cell? ⟨cb, j, none⟩ = (#[.func (.func 24) #[.pointer (some ⟨tb, 0, none⟩)] #[], .func (.func 25) #[.pointer (some ⟨tb, 0, none⟩)] #[], .int .i64 rm, .int .i64 h, .int .i64 (m + 1), .map (some mb), .int .i64 0, .string ⟨#[]⟩, .bool false, .string ⟨#[]⟩, .int .i64 0, .slice none 0 0, .string ⟨#[]⟩, .bool false, .int .i64 0, .bool false, .pointer (some ⟨cb, 6, none⟩), .pointer (some ⟨cb, 6, none⟩)] : Array Value)[j]?) := ⟨(cells_of ((hB4.block _ (heap_lt e3)).trans e3)).1, (cells_of ((hB4.block _ (heap_lt c3)).trans c3)).1⟩
  have HV4 : Hid (V4 = (V3).drew) := hV4
  clear e4 hV4
  refine wpAnyH_take (i := 0) (v := .pointer (some ⟨cb, 0, none⟩)) rfl (by kernel_rfl) (by kernel_rfl) (by kernel_rfl) (fun _ _ _ h => h) (Or.inl ⟨by rfl, ?r⟩) hS ?_
  case r => intro W hW; simp [go_sem, execOp, Act.eval]
  simp only [List.getElem_toArray, List.getElem_cons_zero, Act.put, List.setIfInBounds_toArray, List.set_cons_succ, List.set_cons_zero]
  refine wpAnyH_take (i := 1) (v := .pointer (some ⟨cb, 0, none⟩)) rfl (by kernel_rfl) (by kernel_rfl) (by kernel_rfl) (fun _ _ _ h => h) (Or.inl ⟨by rfl, ?r⟩) hS ?_
  case r => intro W hW; simp [go_sem, execOp, Act.eval]
  simp only [List.getElem_toArray, List.getElem_cons_zero, List.getElem_cons_succ, Act.put, List.setIfInBounds_toArray, List.set_cons_succ, List.set_cons_zero]
  refine wpAnyH_take (i := 2) (v := .pointer (some ⟨cb, 5, none⟩)) rfl (by kernel_rfl) (by kernel_rfl) (by kernel_rfl) (fun _ _ _ h => h) (Or.inl ⟨by rfl, ?r⟩) hS ?_
  case r => intro W hW; simp [go_sem, execOp, Act.eval]
  simp only [List.getElem_toArray, List.getElem_cons_zero, List.getElem_cons_succ, Act.put, List.setIfInBounds_toArray, List.set_cons_succ, List.set_cons_zero]
  refine wpAnyH_take (i := 3) (v := .map (some mb)) rfl (by kernel_rfl) (by kernel_rfl) (by kernel_rfl) (fun _ _ _ h => h) (Or.inl ⟨by rfl, ?r⟩) hS ?_
  case r => intro W hW; simp [go_sem, execOp, Act.eval, hW.2]
  simp only [List.getElem_toArray, List.getElem_cons_zero, List.getElem_cons_succ, Act.put, List.setIfInBounds_toArray, List.set_cons_succ, List.set_cons_zero]
  refine wpAnyH_take (i := 4) (v := .pointer (some ⟨eb, 0, none⟩)) rfl (by kernel_rfl) (by kernel_rfl) (by kernel_rfl) (fun _ _ _ h => h) (Or.inl ⟨by rfl, ?r⟩) hS ?_
  case r => intro W hW; simp [go_sem, execOp, Act.eval]
  simp only [List.getElem_toArray, List.getElem_cons_zero, List.getElem_cons_succ, Act.put, List.setIfInBounds_toArray, List.set_cons_succ, List.set_cons_zero]
  refine wpAnyH_take (i := 5) (v := .pointer (some ⟨eb, 0, none⟩)) rfl (by kernel_rfl) (by kernel_rfl) (by kernel_rfl) (fun _ _ _ h => h) (Or.inl ⟨by rfl, ?r⟩) hS ?_
  case r => intro W hW; simp [go_sem, execOp, Act.eval]
  simp only [List.getElem_toArray, List.getElem_cons_zero, List.getElem_cons_succ, Act.put, List.setIfInBounds_toArray, List.set_cons_succ, List.set_cons_zero]
  refine wpAnyH_take (i := 6) (v := .pointer (some ⟨eb, 0, none⟩)) rfl (by kernel_rfl) (by kernel_rfl) (by kernel_rfl) (fun _ _ _ h => h) (Or.inl ⟨by rfl, ?r⟩) hS ?_
  case r => intro W hW; simp [go_sem, execOp, Act.eval]
  simp only [List.getElem_toArray, List.getElem_cons_zero, List.getElem_cons_succ, Act.put, List.setIfInBounds_toArray, List.set_cons_succ, List.set_cons_zero]
  refine wpAnyH_take (i := 7) (v := .agg #[.int .i64 0, .string ⟨#[65]⟩, .bool false, .string ⟨#[120]⟩]) rfl (by kernel_rfl) (by kernel_rfl) (by kernel_rfl) (fun _ _ _ h => h) (Or.inl ⟨by rfl, ?r⟩) hS ?_
  case r => intro W hW; simp [go_sem, execOp, Act.eval, hW.1]
  simp only [List.getElem_toArray, List.getElem_cons_zero, List.getElem_cons_succ, Act.put, List.setIfInBounds_toArray, List.set_cons_succ, List.set_cons_zero]
  refine wpAnyH_take (i := 8) (v := .pointer (some ⟨eb, 0, none⟩)) rfl (by kernel_rfl) (by kernel_rfl) (by kernel_rfl) (fun _ _ _ h => h) (Or.inl ⟨by rfl, ?r⟩) hS ?_
  case r => intro W hW; simp [go_sem, execOp, Act.eval]
  simp only [List.getElem_toArray, List.getElem_cons_zero, List.getElem_cons_succ, Act.put, List.setIfInBounds_toArray, List.set_cons_succ, List.set_cons_zero]
  have z4 := hB4.size
  have c4 : V4.heap[cb]? = _ := (hB4.block _ (heap_lt c3)).trans c3
  have m4 : V4.heap[mb]? = _ := (hB4.block _ (heap_lt m3)).trans m3
  have e4 : V4.heap[eb]? = _ := (hB4.block _ (heap_lt e3)).trans e3
  have d4 := hB4
  clear HV4 hB4
  have hup := updQ m4 (ck1 V4) (fk0 V4) (.pointer (some ⟨eb, 0, none⟩))
  obtain ⟨V5, hV5⟩ : ∃ W, W = ChangeMaps.setBlock V4 mb (.map ((#[] : Array MapEntry).push ⟨.agg #[.int .i64 0, .string ⟨#[65]⟩, .bool false, .string ⟨#[120]⟩], .pointer (some ⟨eb, 0, none⟩), 0⟩) (0 + 1)) := ⟨_, rfl⟩
  rw [← hV5] at hup
  have k5 : Kp (· = mb) V4 V5 := by rw [hV5]; exact Kp.setB _ _ _ rfl
  have m5 : V5.heap[mb]? = some (.map #[⟨.agg #[.int .i64 0, .string ⟨#[65]⟩, .bool false, .string ⟨#[120]⟩], .pointer (some ⟨eb, 0, none⟩), 0⟩] 1) := by rw [hV5]; exact setBlock_same _ _ _ (heap_lt m4)
  clear hV5
  have z5 := k5.size
  have c5 : V5.heap[cb]? = _ := (k5.block _ (heap_lt c4) hmc.symm).trans c4
  have e5 : V5.heap[eb]? = _ := (k5.block _ (heap_lt e4) (by omega)).trans e4
  refine wpAnyH_all (rs := [9]) (by kernel_rfl) (by simp) (fun i2 hi2 => ?_)
  obtain rfl : i2 = 9 := by simpa using hi2
  clear hi2
  refine wpOp_step rfl (fun K hK => ite_yes rfl ?_)
  simp only [List.getElem_toArray, List.getElem_cons_zero, List.getElem_cons_succ]
  go_simp
  have hSV5 : (∀ j, V5.cell? ⟨eb, j, none⟩ = (#[.int .i64 0, .string ⟨#[65]⟩, .bool false, .string ⟨#[120]⟩, .int .i64 1, .slice (some ⟨pg, 0, none⟩) 1 pcc, .string ⟨#[]⟩, .bool false, .int .i64 0, .bool false, .pointer none, .pointer none] : Array Value)[j]?) ∧ (∀ j, V5.cell? ⟨cb, j, none⟩ = (#[.func (.func 24) #[.pointer (some ⟨tb, 0, none⟩)] #[], .func (.func 25) #[.pointer (some ⟨tb, 0, none⟩)] #[], .int .i64 rm, .int .i64 h, .int .i64 (m + 1), .map (some mb), .int .i64 0, .string ⟨#[]⟩, .bool false, .string ⟨#[]⟩, .int .i64 0, .slice none 0 0, .string ⟨#[]⟩, .bool false, .int .i64 0, .bool false, .pointer (some ⟨cb, 6, none⟩), .pointer (some ⟨cb, 6, none⟩)] : Array Value)[j]?) := ⟨(cells_of e5).1, (cells_of c5).1⟩
  refine hK _ _ ⟨hSV5, ?_⟩
  clear hK K hS hSV5 hup
  try simp only [Act.put, List.setIfInBounds_toArray, List.set_cons_succ, List.set_cons_zero]
  refine wpAnyH_done (by kernel_rfl) ?_ _
  refine NoPanic.normal ?_
  try simp only [Act.put]
  go_wp2_with fail
  refine Calls.mono (join_none cb eb _ _ _ _ c5 e5 (by omega)) ?_
  rintro _ V6 ⟨rfl, e6, c6, k6⟩
  have m6 : V6.heap[mb]? = _ := (k6.block _ (heap_lt m5) (by omega)).trans m5
  have z6 := k6.size
  go_wp2_with fail
  refine wp_region_noPanic ?_
  refine wp_region_held (S := fun W => (∀ j, W.cell? ⟨cb, j, none⟩ = (#[.func (.func 24) #[.pointer (some ⟨tb, 0, none⟩)] #[], .func (.func 25) #[.pointer (some ⟨tb, 0, none⟩)] #[], .int .i64 rm, .int .i64 h, .int .i64 (m + 1), .map (some mb), .int .i64 0, .string ⟨#[]⟩, .bool false, .string ⟨#[]⟩, .int .i64 0, .slice none 0 0, .string ⟨#[]⟩, .bool false, .int .i64 0, .bool false, .pointer (some ⟨eb, 0, none⟩), .pointer (some ⟨eb, 0, none⟩)] : Array Value)[j]?) ∧ W.heap[mb]? = some (.map #[⟨.agg #[.int .i64 0, .string ⟨#[65]⟩, .bool false, .string ⟨#[120]⟩], .pointer (some ⟨eb, 0, none⟩), 0⟩] 1)) (by kernel_rfl) ?_
  obtain ⟨V9, hV9⟩ : ∃ W4, W4 = (V6).drew := ⟨_, rfl⟩
  have e4 : ({ V6 with drawn := (V6).drawn + 1 } : World) = V9 := hV9.symm
  rw [e4]
  have hB4 : Below (V6).heap.size (V6) V9 := by rw [hV9]; exact (Below.refl _ _).drew
  have hS : (∀ j, V9.cell? ⟨cb, j, none⟩ = (#[.func (.func 24) #[.pointer (some ⟨tb, 0, none⟩)] #[], .func (.func 25) #[.pointer (some ⟨tb, 0, none⟩)] #[], .int .i64 rm, .int .i64 h, .int .i64 (m + 1), .map (some mb), .int .i64 0, .string ⟨#[]⟩, .bool false, .string ⟨#[]⟩, .int .i64 0, .slice none 0 0, .string ⟨#[]⟩, .bool false, .int .i64 0, .bool false, .pointer (some ⟨eb, 0, none⟩), .pointer (some ⟨eb, 0, none⟩)] : Array Value)[j]?) ∧ V9.heap[mb]? = some (.map #[⟨.agg #[.int .i64 0, .string ⟨#[65]⟩, .bool false, .string ⟨#[120]⟩], .pointer (some ⟨eb, 0, none⟩), 0⟩] 1) := ⟨(cells_of ((hB4.block _ (heap_lt c6)).trans c6)).1, (hB4.block _ (heap_lt m6)).trans m6⟩
  have HV9 : Hid (V9 = (V6).drew) := hV9
  clear e4 hV9
  refine wpAnyH_take (i := 0) (v := .pointer (some ⟨cb, 0, none⟩)) rfl (by kernel_rfl) (by kernel_rfl) (by kernel_rfl) (fun _ _ _ h => h) (Or.inl ⟨by rfl, ?r⟩) hS ?_
  case r => intro W hW; simp [go_sem, execOp, Act.eval]
  simp only [List.getElem_toArray, List.getElem_cons_zero, Act.put, List.setIfInBounds_toArray, List.set_cons_succ, List.set_cons_zero]
  refine wpAnyH_take (i := 1) (v := .pointer (some ⟨cb, 0, none⟩)) rfl (by kernel_rfl) (by kernel_rfl) (by kernel_rfl) (fun _ _ _ h => h) (Or.inl ⟨by rfl, ?r⟩) hS ?_
  case r => intro W hW; simp [go_sem, execOp, Act.eval]
  simp only [List.getElem_toArray, List.getElem_cons_zero, List.getElem_cons_succ, Act.put, List.setIfInBounds_toArray, List.set_cons_succ, List.set_cons_zero]
  refine wpAnyH_take (i := 2) (v := .pointer (some ⟨cb, 5, none⟩)) rfl (by kernel_rfl) (by kernel_rfl) (by kernel_rfl) (fun _ _ _ h => h) (Or.inl ⟨by rfl, ?r⟩) hS ?_
  case r => intro W hW; simp [go_sem, execOp, Act.eval]
  simp only [List.getElem_toArray, List.getElem_cons_zero, List.getElem_cons_succ, Act.put, List.setIfInBounds_toArray, List.set_cons_succ, List.set_cons_zero]
  refine wpAnyH_take (i := 3) (v := .map (some mb)) rfl (by kernel_rfl) (by kernel_rfl) (by kernel_rfl) (fun _ _ _ h => h) (Or.inl ⟨by rfl, ?r⟩) hS ?_
  case r => intro W hW; simp [go_sem, execOp, Act.eval, hW.1]
  simp only [List.getElem_toArray, List.getElem_cons_zero, List.getElem_cons_succ, Act.put, List.setIfInBounds_toArray, List.set_cons_succ, List.set_cons_zero]
  refine wpAnyH_take (i := 4) (v := .int .i64 1) rfl (by kernel_rfl) (by kernel_rfl) (by kernel_rfl) (fun _ _ _ h => h) (Or.inl ⟨by rfl, ?r⟩) hS ?_
  case r => intro W hW; simp [go_sem, execOp, Act.eval, invoke, resolve, builtin, lenQ _ _ _ _ _ hW.2 (by simp)]
  simp only [List.getElem_toArray, List.getElem_cons_zero, List.getElem_cons_succ, Act.put, List.setIfInBounds_toArray, List.set_cons_succ, List.set_cons_zero]
  refine wpAnyH_take (i := 5) (v := .pointer (some ⟨cb, 0, none⟩)) rfl (by kernel_rfl) (by kernel_rfl) (by kernel_rfl) (fun _ _ _ h => h) (Or.inl ⟨by rfl, ?r⟩) hS ?_
  case r => intro W hW; simp [go_sem, execOp, Act.eval]
  simp only [List.getElem_toArray, List.getElem_cons_zero, List.getElem_cons_succ, Act.put, List.setIfInBounds_toArray, List.set_cons_succ, List.set_cons_zero]
  refine wpAnyH_take (i := 6) (v := .pointer (some ⟨cb, 0, none⟩)) rfl (by kernel_rfl) (by kernel_rfl) (by kernel_rfl) (fun _ _ _ h => h) (Or.inl ⟨by rfl, ?r⟩) hS ?_
  case r => intro W hW; simp [go_sem, execOp, Act.eval]
  simp only [List.getElem_toArray, List.getElem_cons_zero, List.getElem_cons_succ, Act.put, List.setIfInBounds_toArray, List.set_cons_succ, List.set_cons_zero]
  refine wpAnyH_take (i := 7) (v := .pointer (some ⟨cb, 2, none⟩)) rfl (by kernel_rfl) (by kernel_rfl) (by kernel_rfl) (fun _ _ _ h => h) (Or.inl ⟨by rfl, ?r⟩) hS ?_
  case r => intro W hW; simp [go_sem, execOp, Act.eval]
  simp only [List.getElem_toArray, List.getElem_cons_zero, List.getElem_cons_succ, Act.put, List.setIfInBounds_toArray, List.set_cons_succ, List.set_cons_zero]
  refine wpAnyH_take (i := 8) (v := .int .i64 rm) rfl (by kernel_rfl) (by kernel_rfl) (by kernel_rfl) (fun _ _ _ h => h) (Or.inl ⟨by rfl, ?r⟩) hS ?_
  case r => intro W hW; simp [go_sem, execOp, Act.eval, hW.1]
  simp only [List.getElem_toArray, List.getElem_cons_zero, List.getElem_cons_succ, Act.put, List.setIfInBounds_toArray, List.set_cons_succ, List.set_cons_zero]
  refine wpAnyH_take (i := 9) (v := .bool false) rfl (by kernel_rfl) (by kernel_rfl) (by kernel_rfl) (fun _ _ _ h => h) (Or.inl ⟨by rfl, ?r⟩) hS ?_
  case r => intro W hW; simp [go_sem, execOp, Act.eval]; omega
  simp only [List.getElem_toArray, List.getElem_cons_zero, List.getElem_cons_succ, Act.put, List.setIfInBounds_toArray, List.set_cons_succ, List.set_cons_zero]
  refine wpAnyH_done (by kernel_rfl) ?_ _
  refine NoPanic.normal ?_
  try simp only [Act.put]
  have c9 := (hB4.block _ (heap_lt c6)).trans c6
  have m9 := (hB4.block _ (heap_lt m6)).trans m6
  have e9 := (hB4.block _ (heap_lt e6)).trans e6
  go_wp2_with fail
  go_ret
  have z9 := hB4.size
  have hpg : pg ≠ cb ∧ pg ≠ mb ∧ pg ≠ eb := by omega
  exact ⟨eb, pg, pcc, rfl, by omega, e9, c9, m9, by omega, by omega, hpg.2.2, hp3, (hB4.cell (p := ⟨pg, 0, none⟩) (by show pg < _; omega)).trans ((k6.cell (by omega) (by omega)).trans ((k5.cell (by omega) (by omega)).trans ((d4.cell (p := ⟨pg, 0, none⟩) (by show pg < _; omega)).trans hp4))), ((((((Kp.of w1).trans k2 fun _ _ h => by omega).trans (Kp.of (S := fun _ => False) k3) fun _ _ h => h.elim).trans (Kp.of (S := fun _ => False) d4) fun _ _ h => h.elim).trans k5 fun _ _ h => by omega).trans k6 fun _ _ h => by omega).trans (Kp.of (S := fun _ => False) hB4) fun _ _ h => h.elim⟩

set_option maxRecDepth 100000 in
set_option maxHeartbeats 4000000 in
theorem ask_hit {rm : Int} (tb _M _g _cap _pb _pe : Nat) (_es : Array MapEntry) (_clk : Nat) (cb mb : Nat) (eb pg pc : Nat) (h m : Int) (hh : 0 ≤ h ∧ h < 1000) (hrm : 1 ≤ rm) (w : World) (hc : w.heap[cb]? = some (.cells #[.func (.func 24) #[.pointer (some ⟨tb, 0, none⟩)] #[], .func (.func 25) #[.pointer (some ⟨tb, 0, none⟩)] #[], .int .i64 rm, .int .i64 h, .int .i64 m, .map (some mb), .int .i64 0, .string ⟨#[]⟩, .bool false, .string ⟨#[]⟩, .int .i64 0, .slice none 0 0, .string ⟨#[]⟩, .bool false, .int .i64 0, .bool false, .pointer (some ⟨eb, 0, none⟩), .pointer (some ⟨eb, 0, none⟩)] 74)) (hm : w.heap[mb]? = some (.map #[⟨.agg #[.int .i64 0, .string ⟨#[65]⟩, .bool false, .string ⟨#[120]⟩], .pointer (some ⟨eb, 0, none⟩), 0⟩] 1)) (he : w.heap[eb]? = some (.cells #[.int .i64 0, .string ⟨#[65]⟩, .bool false, .string ⟨#[120]⟩, .int .i64 1, .slice (some ⟨pg, 0, none⟩) 1 pc, .string ⟨#[]⟩, .bool false, .int .i64 0, .bool false, .pointer (some ⟨cb, 6, none⟩), .pointer (some ⟨cb, 6, none⟩)] 72)) (hne : cb ≠ eb) (hmc : mb ≠ cb) (hme : mb ≠ eb) :
    Calls Tryz.prog 31 #[.pointer (some ⟨cb, 0, none⟩), .agg #[.int .i64 0, .string ⟨#[65]⟩, .bool false, .string ⟨#[120]⟩]] w fun e w' => e = .returned (.pointer (some ⟨eb, 0, none⟩)) ∧ w'.heap[eb]? = some (.cells #[.int .i64 0, .string ⟨#[65]⟩, .bool false, .string ⟨#[120]⟩, .int .i64 1, .slice (some ⟨pg, 0, none⟩) 1 pc, .string ⟨#[]⟩, .bool false, .int .i64 0, .bool false, .pointer (some ⟨cb, 6, none⟩), .pointer (some ⟨cb, 6, none⟩)] 72) ∧ w'.heap[cb]? = some (.cells #[.func (.func 24) #[.pointer (some ⟨tb, 0, none⟩)] #[], .func (.func 25) #[.pointer (some ⟨tb, 0, none⟩)] #[], .int .i64 rm, .int .i64 (h + 1), .int .i64 m, .map (some mb), .int .i64 0, .string ⟨#[]⟩, .bool false, .string ⟨#[]⟩, .int .i64 0, .slice none 0 0, .string ⟨#[]⟩, .bool false, .int .i64 0, .bool false, .pointer (some ⟨eb, 0, none⟩), .pointer (some ⟨eb, 0, none⟩)] 74) ∧ w'.heap[mb]? = some (.map #[⟨.agg #[.int .i64 0, .string ⟨#[65]⟩, .bool false, .string ⟨#[120]⟩], .pointer (some ⟨eb, 0, none⟩), 0⟩] 1) ∧ Kp (fun i => i = cb ∨ i = eb) w w' := by
  go_enter Tryz.func31, Tryz.ntmps31
  go_wp2_with fail
  obtain ⟨U0, hU0⟩ : ∃ W, W = w.alloc (.cells #[.int .i64 0, .string ⟨#[65]⟩, .bool false, .string ⟨#[120]⟩] 69) := ⟨_, rfl⟩
  rw [← hU0]
  have u0 : Below w.heap.size w U0 := by rw [hU0]; exact below1 w _
  have y0 : w.heap.size < U0.heap.size := by rw [hU0]; simp
  have b0 : U0.heap[w.heap.size]? = some (.cells #[.int .i64 0, .string ⟨#[65]⟩, .bool false, .string ⟨#[120]⟩] 69) := by rw [hU0]; exact heap_new _ _ _ rfl
  clear hU0
  have hcl := heap_lt hc
  have hml := heap_lt hm
  have c0 : U0.heap[cb]? = _ := (u0.block _ hcl).trans hc
  have m0 : U0.heap[mb]? = _ := (u0.block _ hml).trans hm
  refine wp_region_noPanic ?_
  refine wp_region_held (S := fun W => (∀ j, W.cell? ⟨w.heap.size, j, none⟩ = (#[.int .i64 0, .string ⟨#[65]⟩, .bool false, .string ⟨#[120]⟩] : Array Value)[j]?) ∧ (∀ j, W.cell? ⟨cb, j, none⟩ = (#[.func (.func 24) #[.pointer (some ⟨tb, 0, none⟩)] #[], .func (.func 25) #[.pointer (some ⟨tb, 0, none⟩)] #[], .int .i64 rm, .int .i64 h, .int .i64 m, .map (some mb), .int .i64 0, .string ⟨#[]⟩, .bool false, .string ⟨#[]⟩, .int .i64 0, .slice none 0 0, .string ⟨#[]⟩, .bool false, .int .i64 0, .bool false, .pointer (some ⟨eb, 0, none⟩), .pointer (some ⟨eb, 0, none⟩)] : Array Value)[j]?) ∧ W.heap[mb]? = some (.map #[⟨.agg #[.int .i64 0, .string ⟨#[65]⟩, .bool false, .string ⟨#[120]⟩], .pointer (some ⟨eb, 0, none⟩), 0⟩] 1)) (by kernel_rfl) ?_
  obtain ⟨V1, hV1⟩ : ∃ W4, W4 = (U0).drew := ⟨_, rfl⟩
  have e4 : ({ U0 with drawn := (U0).drawn + 1 } : World) = V1 := hV1.symm
  rw [e4]
  have hB4 : Below (U0).heap.size (U0) V1 := by rw [hV1]; exact (Below.refl _ _).drew
  have hS : (∀ j, V1.cell? ⟨w.heap.size, j, none⟩ = (#[.int .i64 0, .string ⟨#[65]⟩, .bool false, .string ⟨#[120]⟩] : Array Value)[j]?) ∧ (∀ j, V1.cell? ⟨cb, j, none⟩ = (#[.func (.func 24) #[.pointer (some ⟨tb, 0, none⟩)] #[], .func (.func 25) #[.pointer (some ⟨tb, 0, none⟩)] #[], .int .i64 rm, .int .i64 h, .int .i64 m, .map (some mb), .int .i64 0, .string ⟨#[]⟩, .bool false, .string ⟨#[]⟩, .int .i64 0, .slice none 0 0, .string ⟨#[]⟩, .bool false, .int .i64 0, .bool false, .pointer (some ⟨eb, 0, none⟩), .pointer (some ⟨eb, 0, none⟩)] : Array Value)[j]?) ∧ V1.heap[mb]? = some (.map #[⟨.agg #[.int .i64 0, .string ⟨#[65]⟩, .bool false, .string ⟨#[120]⟩], .pointer (some ⟨eb, 0, none⟩), 0⟩] 1) := ⟨(cells_of ((hB4.block _ (heap_lt b0)).trans b0)).1, (cells_of ((hB4.block _ (heap_lt c0)).trans c0)).1, (hB4.block _ (heap_lt m0)).trans m0⟩
  have HV1 : Hid (V1 = (U0).drew) := hV1
  clear e4 hV1
  refine wpAnyH_take (i := 0) (v := .pointer (some ⟨cb, 0, none⟩)) rfl (by kernel_rfl) (by kernel_rfl) (by kernel_rfl) (fun _ _ _ h => h) (Or.inl ⟨by rfl, ?r⟩) hS ?_
  case r => intro W hW; simp [go_sem, execOp, Act.eval]
  simp only [List.getElem_toArray, List.getElem_cons_zero, Act.put, List.setIfInBounds_toArray, List.set_cons_succ, List.set_cons_zero]
  refine wpAnyH_take (i := 1) (v := .pointer (some ⟨cb, 0, none⟩)) rfl (by kernel_rfl) (by kernel_rfl) (by kernel_rfl) (fun _ _ _ h => h) (Or.inl ⟨by rfl, ?r⟩) hS ?_
  case r => intro W hW; simp [go_sem, execOp, Act.eval]
  simp only [List.getElem_toArray, List.getElem_cons_zero, List.getElem_cons_succ, Act.put, List.setIfInBounds_toArray, List.set_cons_succ, List.set_cons_zero]
  refine wpAnyH_take (i := 2) (v := .pointer (some ⟨cb, 5, none⟩)) rfl (by kernel_rfl) (by kernel_rfl) (by kernel_rfl) (fun _ _ _ h => h) (Or.inl ⟨by rfl, ?r⟩) hS ?_
  case r => intro W hW; simp [go_sem, execOp, Act.eval]
  simp only [List.getElem_toArray, List.getElem_cons_zero, List.getElem_cons_succ, Act.put, List.setIfInBounds_toArray, List.set_cons_succ, List.set_cons_zero]
  refine wpAnyH_take (i := 3) (v := .map (some mb)) rfl (by kernel_rfl) (by kernel_rfl) (by kernel_rfl) (fun _ _ _ h => h) (Or.inl ⟨by rfl, ?r⟩) hS ?_
  case r => intro W hW; simp [go_sem, execOp, Act.eval, hW.2.1]
  simp only [List.getElem_toArray, List.getElem_cons_zero, List.getElem_cons_succ, Act.put, List.setIfInBounds_toArray, List.set_cons_succ, List.set_cons_zero]
  refine wpAnyH_take (i := 4) (v := .agg #[.int .i64 0, .string ⟨#[65]⟩, .bool false, .string ⟨#[120]⟩]) rfl (by kernel_rfl) (by kernel_rfl) (by kernel_rfl) (fun _ _ _ h => h) (Or.inl ⟨by rfl, ?r⟩) hS ?_
  case r => intro W hW; simp [go_sem, execOp, Act.eval, hW.1]
  simp only [List.getElem_toArray, List.getElem_cons_zero, List.getElem_cons_succ, Act.put, List.setIfInBounds_toArray, List.set_cons_succ, List.set_cons_zero]
  refine wpAnyH_take (i := 5) (v := .tuple #[.pointer (some ⟨eb, 0, none⟩), .bool true]) rfl (by kernel_rfl) (by kernel_rfl) (by kernel_rfl) (fun _ _ _ h => h) (Or.inl ⟨by rfl, ?r⟩) hS ?_
  case r => intro W hW; simp [go_sem, execOp, Act.eval, lookQ_yes hW.2.2 (ck1 W) (fk1 W eb)]
  simp only [List.getElem_toArray, List.getElem_cons_zero, List.getElem_cons_succ, Act.put, List.setIfInBounds_toArray, List.set_cons_succ, List.set_cons_zero]
  refine wpAnyH_take (i := 6) (v := .tuple #[.pointer (some ⟨eb, 0, none⟩), .bool true]) rfl (by kernel_rfl) (by kernel_rfl) (by kernel_rfl) (fun _ _ _ h => h) (Or.inl ⟨by rfl, ?r⟩) hS ?_
  case r => intro W hW; simp [go_sem, execOp, Act.eval]
  simp only [List.getElem_toArray, List.getElem_cons_zero, List.getElem_cons_succ, Act.put, List.setIfInBounds_toArray, List.set_cons_succ, List.set_cons_zero]
  refine wpAnyH_take (i := 7) (v := .pointer (some ⟨eb, 0, none⟩)) rfl (by kernel_rfl) (by kernel_rfl) (by kernel_rfl) (fun _ _ _ h => h) (Or.inl ⟨by rfl, ?r⟩) hS ?_
  case r => intro W hW; simp [go_sem, execOp, Act.eval]
  simp only [List.getElem_toArray, List.getElem_cons_zero, List.getElem_cons_succ, Act.put, List.setIfInBounds_toArray, List.set_cons_succ, List.set_cons_zero]
  refine wpAnyH_take (i := 8) (v := .bool true) rfl (by kernel_rfl) (by kernel_rfl) (by kernel_rfl) (fun _ _ _ h => h) (Or.inl ⟨by rfl, ?r⟩) hS ?_
  case r => intro W hW; simp [go_sem, execOp, Act.eval]
  simp only [List.getElem_toArray, List.getElem_cons_zero, List.getElem_cons_succ, Act.put, List.setIfInBounds_toArray, List.set_cons_succ, List.set_cons_zero]
  refine wpAnyH_take (i := 9) (v := .pointer (some ⟨eb, 0, none⟩)) rfl (by kernel_rfl) (by kernel_rfl) (by kernel_rfl) (fun _ _ _ h => h) (Or.inl ⟨by rfl, ?r⟩) hS ?_
  case r => intro W hW; simp [go_sem, execOp, Act.eval]
  simp only [List.getElem_toArray, List.getElem_cons_zero, List.getElem_cons_succ, Act.put, List.setIfInBounds_toArray, List.set_cons_succ, List.set_cons_zero]
  refine wpAnyH_take (i := 10) (v := .bool true) rfl (by kernel_rfl) (by kernel_rfl) (by kernel_rfl) (fun _ _ _ h => h) (Or.inl ⟨by rfl, ?r⟩) hS ?_
  case r => intro W hW; simp [go_sem, execOp, Act.eval]
  simp only [List.getElem_toArray, List.getElem_cons_zero, List.getElem_cons_succ, Act.put, List.setIfInBounds_toArray, List.set_cons_succ, List.set_cons_zero]
  refine wpAnyH_done (by kernel_rfl) ?_ _
  refine NoPanic.normal ?_
  try simp only [Act.put]
  have w1 : Below w.heap.size w V1 := u0.trans (hB4.mono (by omega))
  have y1 : w.heap.size < V1.heap.size := Nat.lt_of_lt_of_le y0 hB4.size
  have b1 : V1.heap[w.heap.size]? = _ := (hB4.block _ (heap_lt b0)).trans b0
  have c1 : V1.heap[cb]? = _ := (hB4.block _ (heap_lt c0)).trans c0
  have m1 : V1.heap[mb]? = _ := (hB4.block _ (heap_lt m0)).trans m0
  clear HV1 hB4 hS u0 b0 c0 m0
  obtain ⟨cc1, cf1⟩ := cells_of c1
  have bc1 := (cells_of b1).1
  go_wp2_with fail
  obtain ⟨V2, hV2⟩ : ∃ W, W = V1.setCell ⟨cb, 3, none⟩ (.int .i64 (h + 1)) := ⟨_, rfl⟩
  rw [← hV2]
  have k2 : Kp (· = cb) V1 V2 := by rw [hV2]; exact Kp.set _ _ _ _ rfl
  have c2 : V2.heap[cb]? = some (.cells #[.func (.func 24) #[.pointer (some ⟨tb, 0, none⟩)] #[], .func (.func 25) #[.pointer (some ⟨tb, 0, none⟩)] #[], .int .i64 rm, .int .i64 (h + 1), .int .i64 m, .map (some mb), .int .i64 0, .string ⟨#[]⟩, .bool false, .string ⟨#[]⟩, .int .i64 0, .slice none 0 0, .string ⟨#[]⟩, .bool false, .int .i64 0, .bool false, .pointer (some ⟨eb, 0, none⟩), .pointer (some ⟨eb, 0, none⟩)] 74) := by rw [hV2]; exact heap_set c1 3 _
  clear hV2 cc1 cf1 bc1
  have hel := heap_lt he
  have e1 : V1.heap[eb]? = _ := (w1.block _ hel).trans he
  have e2 : V2.heap[eb]? = _ := (k2.block _ (heap_lt e1) hne.symm).trans e1
  have m2 : V2.heap[mb]? = _ := (k2.block _ (heap_lt m1) hmc).trans m1
  refine Calls.mono (leave_only cb eb _ c2 e2 hne) ?_
  rintro _ V3 ⟨rfl, e3, c3, k3⟩
  have m3 : V3.heap[mb]? = _ := (k3.block _ (heap_lt m2) hmc).trans m2
  go_wp2_with fail
  refine Calls.mono (join_none cb eb _ _ _ _ c3 e3 hne) ?_
  rintro _ V4 ⟨rfl, e4, c4, k4⟩
  have m4 : V4.heap[mb]? = _ := (k4.block _ (heap_lt m3) (by omega)).trans m3
  have z2 := k2.size
  have z3 := k3.size
  have z4 := k4.size
  go_wp2_with fail
  refine wp_region_noPanic ?_
  refine wp_region_held (S := fun W => (∀ j, W.cell? ⟨cb, j, none⟩ = (#[.func (.func 24) #[.pointer (some ⟨tb, 0, none⟩)] #[], .func (.func 25) #[.pointer (some ⟨tb, 0, none⟩)] #[], .int .i64 rm, .int .i64 (h + 1), .int .i64 m, .map (some mb), .int .i64 0, .string ⟨#[]⟩, .bool false, .string ⟨#[]⟩, .int .i64 0, .slice none 0 0, .string ⟨#[]⟩, .bool false, .int .i64 0, .bool false, .pointer (some ⟨eb, 0, none⟩), .pointer (some ⟨eb, 0, none⟩)] : Array Value)[j]?) ∧ W.heap[mb]? = some (.map #[⟨.agg #[.int .i64 0, .string ⟨#[65]⟩, .bool false, .string ⟨#[120]⟩], .pointer (some ⟨eb, 0, none⟩), 0⟩] 1)) (by kernel_rfl) ?_
  obtain ⟨V9, hV9⟩ : ∃ W4, W4 = (V4).drew := ⟨_, rfl⟩
  have e4 : ({ V4 with drawn := (V4).drawn + 1 } : World) = V9 := hV9.symm
  rw [e4]
  have hB4 : Below (V4).heap.size (V4) V9 := by rw [hV9]; exact (Below.refl _ _).drew
  have hS : (∀ j, V9.cell? ⟨cb, j, none⟩ = (#[.func (.func 24) #[.pointer (some ⟨tb, 0, none⟩)] #[], .func (.func 25) #[.pointer (some ⟨tb, 0, none⟩)] #[], .int .i64 rm, .int .i64 (h + 1), .int .i64 m, .map (some mb), .int .i64 0, .string ⟨#[]⟩, .bool false, .string ⟨#[]⟩, .int .i64 0, .slice none 0 0, .string ⟨#[]⟩, .bool false, .int .i64 0, .bool false, .pointer (some ⟨eb, 0, none⟩), .pointer (some ⟨eb, 0, none⟩)] : Array Value)[j]?) ∧ V9.heap[mb]? = some (.map #[⟨.agg #[.int .i64 0, .string ⟨#[65]⟩, .bool false, .string ⟨#[120]⟩], .pointer (some ⟨eb, 0, none⟩), 0⟩] 1) := ⟨(cells_of ((hB4.block _ (heap_lt c4)).trans c4)).1, (hB4.block _ (heap_lt m4)).trans m4⟩
  have HV9 : Hid (V9 = (V4).drew) := hV9
  clear e4 hV9
  refine wpAnyH_take (i := 0) (v := .pointer (some ⟨cb, 0, none⟩)) rfl (by kernel_rfl) (by kernel_rfl) (by kernel_rfl) (fun _ _ _ h => h) (Or.inl ⟨by rfl, ?r⟩) hS ?_
  case r => intro W hW; simp [go_sem, execOp, Act.eval]
  simp only [List.getElem_toArray, List.getElem_cons_zero, Act.put, List.setIfInBounds_toArray, List.set_cons_succ, List.set_cons_zero]
  refine wpAnyH_take (i := 1) (v := .pointer (some ⟨cb, 0, none⟩)) rfl (by kernel_rfl) (by kernel_rfl) (by kernel_rfl) (fun _ _ _ h => h) (Or.inl ⟨by rfl, ?r⟩) hS ?_
  case r => intro W hW; simp [go_sem, execOp, Act.eval]
  simp only [List.getElem_toArray, List.getElem_cons_zero, List.getElem_cons_succ, Act.put, List.setIfInBounds_toArray, List.set_cons_succ, List.set_cons_zero]
  refine wpAnyH_take (i := 2) (v := .pointer (some ⟨cb, 5, none⟩)) rfl (by kernel_rfl) (by kernel_rfl) (by kernel_rfl) (fun _ _ _ h => h) (Or.inl ⟨by rfl, ?r⟩) hS ?_
  case r => intro W hW; simp [go_sem, execOp, Act.eval]
  simp only [List.getElem_toArray, List.getElem_cons_zero, List.getElem_cons_succ, Act.put, List.setIfInBounds_toArray, List.set_cons_succ, List.set_cons_zero]
  refine wpAnyH_take (i := 3) (v := .map (some mb)) rfl (by kernel_rfl) (by kernel_rfl) (by kernel_rfl) (fun _ _ _ h => h) (Or.inl ⟨by rfl, ?r⟩) hS ?_
  case r => intro W hW; simp [go_sem, execOp, Act.eval, hW.1]
  simp only [List.getElem_toArray, List.getElem_cons_zero, List.getElem_cons_succ, Act.put, List.setIfInBounds_toArray, List.set_cons_succ, List.set_cons_zero]
  refine wpAnyH_take (i := 4) (v := .int .i64 1) rfl (by kernel_rfl) (by kernel_rfl) (by kernel_rfl) (fun _ _ _ h => h) (Or.inl ⟨by rfl, ?r⟩) hS ?_
  case r => intro W hW; simp [go_sem, execOp, Act.eval, invoke, resolve, builtin, lenQ _ _ _ _ _ hW.2 (by simp)]
  simp only [List.getElem_toArray, List.getElem_cons_zero, List.getElem_cons_succ, Act.put, List.setIfInBounds_toArray, List.set_cons_succ, List.set_cons_zero]
  refine wpAnyH_take (i := 5) (v := .pointer (some ⟨cb, 0, none⟩)) rfl (by kernel_rfl) (by kernel_rfl) (by kernel_rfl) (fun _ _ _ h => h) (Or.inl ⟨by rfl, ?r⟩) hS ?_
  case r => intro W hW; simp [go_sem, execOp, Act.eval]
  simp only [List.getElem_toArray, List.getElem_cons_zero, List.getElem_cons_succ, Act.put, List.setIfInBounds_toArray, List.set_cons_succ, List.set_cons_zero]
  refine wpAnyH_take (i := 6) (v := .pointer (some ⟨cb, 0, none⟩)) rfl (by kernel_rfl) (by kernel_rfl) (by kernel_rfl) (fun _ _ _ h => h) (Or.inl ⟨by rfl, ?r⟩) hS ?_
  case r => intro W hW; simp [go_sem, execOp, Act.eval]
  simp only [List.getElem_toArray, List.getElem_cons_zero, List.getElem_cons_succ, Act.put, List.setIfInBounds_toArray, List.set_cons_succ, List.set_cons_zero]
  refine wpAnyH_take (i := 7) (v := .pointer (some ⟨cb, 2, none⟩)) rfl (by kernel_rfl) (by kernel_rfl) (by kernel_rfl) (fun _ _ _ h => h) (Or.inl ⟨by rfl, ?r⟩) hS ?_
  case r => intro W hW; simp [go_sem, execOp, Act.eval]
  simp only [List.getElem_toArray, List.getElem_cons_zero, List.getElem_cons_succ, Act.put, List.setIfInBounds_toArray, List.set_cons_succ, List.set_cons_zero]
  refine wpAnyH_take (i := 8) (v := .int .i64 rm) rfl (by kernel_rfl) (by kernel_rfl) (by kernel_rfl) (fun _ _ _ h => h) (Or.inl ⟨by rfl, ?r⟩) hS ?_
  case r => intro W hW; simp [go_sem, execOp, Act.eval, hW.1]
  simp only [List.getElem_toArray, List.getElem_cons_zero, List.getElem_cons_succ, Act.put, List.setIfInBounds_toArray, List.set_cons_succ, List.set_cons_zero]
  refine wpAnyH_take (i := 9) (v := .bool false) rfl (by kernel_rfl) (by kernel_rfl) (by kernel_rfl) (fun _ _ _ h => h) (Or.inl ⟨by rfl, ?r⟩) hS ?_
  case r => intro W hW; simp [go_sem, execOp, Act.eval]; omega
  simp only [List.getElem_toArray, List.getElem_cons_zero, List.getElem_cons_succ, Act.put, List.setIfInBounds_toArray, List.set_cons_succ, List.set_cons_zero]
  refine wpAnyH_done (by kernel_rfl) ?_ _
  refine NoPanic.normal ?_
  try simp only [Act.put]
  have k5 := hB4
  have c5 := (hB4.block _ (heap_lt c4)).trans c4
  have m5 := (hB4.block _ (heap_lt m4)).trans m4
  have e4 := (k5.block _ (heap_lt e4)).trans e4
  go_wp2_with fail
  go_ret
  exact ⟨rfl, e4, c5, m5, (((((Kp.of w1).trans k2 fun _ _ h => by omega).trans k3 fun _ _ h => by omega).trans k4 fun _ _ h => h).trans (Kp.of (S := fun _ => False) k5) fun _ _ h => h.elim)⟩

set_option maxRecDepth 100000 in
set_option maxHeartbeats 4000000 in
theorem ask_second {rm : Int} (tb M g cap pb pe : Nat) (es : Array MapEntry) (clk : Nat) (cb mb : Nat) (tB eb pg pc : Nat) (h m : Int) (hh : 0 ≤ m ∧ m < 1000) (hrm : 2 ≤ rm) (w : World) (ht : TabAt w tb M g cap pb pe es clk) (hB : tb < tB ∧ M < tB ∧ g < tB ∧ pb < tB ∧ pe < tB) (hBc : tB ≤ cb) (hc : w.heap[cb]? = some (.cells #[.func (.func 24) #[.pointer (some ⟨tb, 0, none⟩)] #[], .func (.func 25) #[.pointer (some ⟨tb, 0, none⟩)] #[], .int .i64 rm, .int .i64 h, .int .i64 m, .map (some mb), .int .i64 0, .string ⟨#[]⟩, .bool false, .string ⟨#[]⟩, .int .i64 0, .slice none 0 0, .string ⟨#[]⟩, .bool false, .int .i64 0, .bool false, .pointer (some ⟨eb, 0, none⟩), .pointer (some ⟨eb, 0, none⟩)] 74)) (hm : w.heap[mb]? = some (.map #[⟨.agg #[.int .i64 0, .string ⟨#[65]⟩, .bool false, .string ⟨#[120]⟩], .pointer (some ⟨eb, 0, none⟩), 0⟩] 1)) (he : w.heap[eb]? = some (.cells #[.int .i64 0, .string ⟨#[65]⟩, .bool false, .string ⟨#[120]⟩, .int .i64 1, .slice (some ⟨pg, 0, none⟩) 1 pc, .string ⟨#[]⟩, .bool false, .int .i64 0, .bool false, .pointer (some ⟨cb, 6, none⟩), .pointer (some ⟨cb, 6, none⟩)] 72)) (hne : cb ≠ eb) (hmc : mb ≠ cb) (hme : mb ≠ eb) :
    Calls Tryz.prog 31 #[.pointer (some ⟨cb, 0, none⟩), .agg #[.int .i64 1, .string ⟨#[65]⟩, .bool false, .string ⟨#[101, 114, 114, 111, 114]⟩]] w fun e w' => ∃ nb, e = .returned (.pointer (some ⟨nb, 0, none⟩)) ∧ w.heap.size ≤ nb ∧ w'.heap[nb]? = some (.cells #[.int .i64 1, .string ⟨#[65]⟩, .bool false, .string ⟨#[101, 114, 114, 111, 114]⟩, .int .i64 0, .slice none 0 0, .string ⟨#[]⟩, .bool false, .int .i64 0, .bool false, .pointer (some ⟨eb, 0, none⟩), .pointer (some ⟨cb, 6, none⟩)] 72) ∧ w'.heap[cb]? = some (.cells #[.func (.func 24) #[.pointer (some ⟨tb, 0, none⟩)] #[], .func (.func 25) #[.pointer (some ⟨tb, 0, none⟩)] #[], .int .i64 rm, .int .i64 h, .int .i64 (m + 1), .map (some mb), .int .i64 0, .string ⟨#[]⟩, .bool false, .string ⟨#[]⟩, .int .i64 0, .slice none 0 0, .string ⟨#[]⟩, .bool false, .int .i64 0, .bool false, .pointer (some ⟨nb, 0, none⟩), .pointer (some ⟨eb, 0, none⟩)] 74) ∧ w'.heap[mb]? = some (.map #[⟨.agg #[.int .i64 0, .string ⟨#[65]⟩, .bool false, .string ⟨#[120]⟩], .pointer (some ⟨eb, 0, none⟩), 0⟩, ⟨.agg #[.int .i64 1, .string ⟨#[65]⟩, .bool false, .string ⟨#[101, 114, 114, 111, 114]⟩], .pointer (some ⟨nb, 0, none⟩), 1⟩] 2) ∧ w'.heap[eb]? = some (.cells #[.int .i64 0, .string ⟨#[65]⟩, .bool false, .string ⟨#[120]⟩, .int .i64 1, .slice (some ⟨pg, 0, none⟩) 1 pc, .string ⟨#[]⟩, .bool false, .int .i64 0, .bool false, .pointer (some ⟨cb, 6, none⟩), .pointer (some ⟨nb, 0, none⟩)] 72) ∧ Kp (fun i => i = cb ∨ i = mb ∨ i = eb) w w' := by
  go_enter Tryz.func31, Tryz.ntmps31
  go_wp2_with fail
  obtain ⟨U0, hU0⟩ : ∃ W, W = w.alloc (.cells #[.int .i64 1, .string ⟨#[65]⟩, .bool false, .string ⟨#[101, 114, 114, 111, 114]⟩] 69) := ⟨_, rfl⟩
  rw [← hU0]
  have u0 : Below w.heap.size w U0 := by rw [hU0]; exact below1 w _
  have y0 : w.heap.size < U0.heap.size := by rw [hU0]; simp
  have b0 : U0.heap[w.heap.size]? = some (.cells #[.int .i64 1, .string ⟨#[65]⟩, .bool false, .string ⟨#[101, 114, 114, 111, 114]⟩] 69) := by rw [hU0]; exact heap_new _ _ _ rfl
  clear hU0
  have hcl := heap_lt hc
  have hml := heap_lt hm
  have c0 : U0.heap[cb]? = _ := (u0.block _ hcl).trans hc
  have m0 : U0.heap[mb]? = _ := (u0.block _ hml).trans hm
  refine wp_region_noPanic ?_
  refine wp_region_held (S := fun W => (∀ j, W.cell? ⟨w.heap.size, j, none⟩ = (#[.int .i64 1, .string ⟨#[65]⟩, .bool false, .string ⟨#[101, 114, 114, 111, 114]⟩] : Array Value)[j]?) ∧ (∀ j, W.cell? ⟨cb, j, none⟩ = (#[.func (.func 24) #[.pointer (some ⟨tb, 0, none⟩)] #[], .func (.func 25) #[.pointer (some ⟨tb, 0, none⟩)] #[], .int .i64 rm, .int .i64 h, .int .i64 m, .map (some mb), .int .i64 0, .string ⟨#[]⟩, .bool false, .string ⟨#[]⟩, .int .i64 0, .slice none 0 0, .string ⟨#[]⟩, .bool false, .int .i64 0, .bool false, .pointer (some ⟨eb, 0, none⟩), .pointer (some ⟨eb, 0, none⟩)] : Array Value)[j]?) ∧ W.heap[mb]? = some (.map #[⟨.agg #[.int .i64 0, .string ⟨#[65]⟩, .bool false, .string ⟨#[120]⟩], .pointer (some ⟨eb, 0, none⟩), 0⟩] 1)) (by kernel_rfl) ?_
  obtain ⟨V1, hV1⟩ : ∃ W4, W4 = (U0).drew := ⟨_, rfl⟩
  have e4 : ({ U0 with drawn := (U0).drawn + 1 } : World) = V1 := hV1.symm
  rw [e4]
  have hB4 : Below (U0).heap.size (U0) V1 := by rw [hV1]; exact (Below.refl _ _).drew
  have hS : (∀ j, V1.cell? ⟨w.heap.size, j, none⟩ = (#[.int .i64 1, .string ⟨#[65]⟩, .bool false, .string ⟨#[101, 114, 114, 111, 114]⟩] : Array Value)[j]?) ∧ (∀ j, V1.cell? ⟨cb, j, none⟩ = (#[.func (.func 24) #[.pointer (some ⟨tb, 0, none⟩)] #[], .func (.func 25) #[.pointer (some ⟨tb, 0, none⟩)] #[], .int .i64 rm, .int .i64 h, .int .i64 m, .map (some mb), .int .i64 0, .string ⟨#[]⟩, .bool false, .string ⟨#[]⟩, .int .i64 0, .slice none 0 0, .string ⟨#[]⟩, .bool false, .int .i64 0, .bool false, .pointer (some ⟨eb, 0, none⟩), .pointer (some ⟨eb, 0, none⟩)] : Array Value)[j]?) ∧ V1.heap[mb]? = some (.map #[⟨.agg #[.int .i64 0, .string ⟨#[65]⟩, .bool false, .string ⟨#[120]⟩], .pointer (some ⟨eb, 0, none⟩), 0⟩] 1) := ⟨(cells_of ((hB4.block _ (heap_lt b0)).trans b0)).1, (cells_of ((hB4.block _ (heap_lt c0)).trans c0)).1, (hB4.block _ (heap_lt m0)).trans m0⟩
  have HV1 : Hid (V1 = (U0).drew) := hV1
  clear e4 hV1
  refine wpAnyH_take (i := 0) (v := .pointer (some ⟨cb, 0, none⟩)) rfl (by kernel_rfl) (by kernel_rfl) (by kernel_rfl) (fun _ _ _ h => h) (Or.inl ⟨by rfl, ?r⟩) hS ?_
  case r => intro W hW; simp [go_sem, execOp, Act.eval]
  simp only [List.getElem_toArray, List.getElem_cons_zero, Act.put, List.setIfInBounds_toArray, List.set_cons_succ, List.set_cons_zero]
  refine wpAnyH_take (i := 1) (v := .pointer (some ⟨cb, 0, none⟩)) rfl (by kernel_rfl) (by kernel_rfl) (by kernel_rfl) (fun _ _ _ h => h) (Or.inl ⟨by rfl, ?r⟩) hS ?_
  case r => intro W hW; simp [go_sem, execOp, Act.eval]
  simp only [List.getElem_toArray, List.getElem_cons_zero, List.getElem_cons_succ, Act.put, List.setIfInBounds_toArray, List.set_cons_succ, List.set_cons_zero]
  refine wpAnyH_take (i := 2) (v := .pointer (some ⟨cb, 5, none⟩)) rfl (by kernel_rfl) (by kernel_rfl) (by kernel_rfl) (fun _ _ _ h => h) (Or.inl ⟨by rfl, ?r⟩) hS ?_
  case r => intro W hW; simp [go_sem, execOp, Act.eval]
  simp only [List.getElem_toArray, List.getElem_cons_zero, List.getElem_cons_succ, Act.put, List.setIfInBounds_toArray, List.set_cons_succ, List.set_cons_zero]
  refine wpAnyH_take (i := 3) (v := .map (some mb)) rfl (by kernel_rfl) (by kernel_rfl) (by kernel_rfl) (fun _ _ _ h => h) (Or.inl ⟨by rfl, ?r⟩) hS ?_
  case r => intro W hW; simp [go_sem, execOp, Act.eval, hW.2.1]
  simp only [List.getElem_toArray, List.getElem_cons_zero, List.getElem_cons_succ, Act.put, List.setIfInBounds_toArray, List.set_cons_succ, List.set_cons_zero]
  refine wpAnyH_take (i := 4) (v := .agg #[.int .i64 1, .string ⟨#[65]⟩, .bool false, .string ⟨#[101, 114, 114, 111, 114]⟩]) rfl (by kernel_rfl) (by kernel_rfl) (by kernel_rfl) (fun _ _ _ h => h) (Or.inl ⟨by rfl, ?r⟩) hS ?_
  case r => intro W hW; simp [go_sem, execOp, Act.eval, hW.1]
  simp only [List.getElem_toArray, List.getElem_cons_zero, List.getElem_cons_succ, Act.put, List.setIfInBounds_toArray, List.set_cons_succ, List.set_cons_zero]
  refine wpAnyH_take (i := 5) (v := .tuple #[.pointer none, .bool false]) rfl (by kernel_rfl) (by kernel_rfl) (by kernel_rfl) (fun _ _ _ h => h) (Or.inl ⟨by rfl, ?r⟩) hS ?_
  case r => intro W hW; simp [go_sem, execOp, Act.eval, lookQ_no hW.2.2 (ck2 W) (fk2 W eb)]
  simp only [List.getElem_toArray, List.getElem_cons_zero, List.getElem_cons_succ, Act.put, List.setIfInBounds_toArray, List.set_cons_succ, List.set_cons_zero]
  refine wpAnyH_take (i := 6) (v := .tuple #[.pointer none, .bool false]) rfl (by kernel_rfl) (by kernel_rfl) (by kernel_rfl) (fun _ _ _ h => h) (Or.inl ⟨by rfl, ?r⟩) hS ?_
  case r => intro W hW; simp [go_sem, execOp, Act.eval]
  simp only [List.getElem_toArray, List.getElem_cons_zero, List.getElem_cons_succ, Act.put, List.setIfInBounds_toArray, List.set_cons_succ, List.set_cons_zero]
  refine wpAnyH_take (i := 7) (v := .pointer none) rfl (by kernel_rfl) (by kernel_rfl) (by kernel_rfl) (fun _ _ _ h => h) (Or.inl ⟨by rfl, ?r⟩) hS ?_
  case r => intro W hW; simp [go_sem, execOp, Act.eval]
  simp only [List.getElem_toArray, List.getElem_cons_zero, List.getElem_cons_succ, Act.put, List.setIfInBounds_toArray, List.set_cons_succ, List.set_cons_zero]
  refine wpAnyH_take (i := 8) (v := .bool false) rfl (by kernel_rfl) (by kernel_rfl) (by kernel_rfl) (fun _ _ _ h => h) (Or.inl ⟨by rfl, ?r⟩) hS ?_
  case r => intro W hW; simp [go_sem, execOp, Act.eval]
  simp only [List.getElem_toArray, List.getElem_cons_zero, List.getElem_cons_succ, Act.put, List.setIfInBounds_toArray, List.set_cons_succ, List.set_cons_zero]
  refine wpAnyH_take (i := 9) (v := .pointer none) rfl (by kernel_rfl) (by kernel_rfl) (by kernel_rfl) (fun _ _ _ h => h) (Or.inl ⟨by rfl, ?r⟩) hS ?_
  case r => intro W hW; simp [go_sem, execOp, Act.eval]
  simp only [List.getElem_toArray, List.getElem_cons_zero, List.getElem_cons_succ, Act.put, List.setIfInBounds_toArray, List.set_cons_succ, List.set_cons_zero]
  refine wpAnyH_take (i := 10) (v := .bool false) rfl (by kernel_rfl) (by kernel_rfl) (by kernel_rfl) (fun _ _ _ h => h) (Or.inl ⟨by rfl, ?r⟩) hS ?_
  case r => intro W hW; simp [go_sem, execOp, Act.eval]
  simp only [List.getElem_toArray, List.getElem_cons_zero, List.getElem_cons_succ, Act.put, List.setIfInBounds_toArray, List.set_cons_succ, List.set_cons_zero]
  refine wpAnyH_done (by kernel_rfl) ?_ _
  refine NoPanic.normal ?_
  try simp only [Act.put]
  have w1 : Below w.heap.size w V1 := u0.trans (hB4.mono (by omega))
  have y1 : w.heap.size < V1.heap.size := Nat.lt_of_lt_of_le y0 hB4.size
  have b1 : V1.heap[w.heap.size]? = _ := (hB4.block _ (heap_lt b0)).trans b0
  have c1 : V1.heap[cb]? = _ := (hB4.block _ (heap_lt c0)).trans c0
  have m1 : V1.heap[mb]? = _ := (hB4.block _ (heap_lt m0)).trans m0
  clear HV1 hB4 hS u0 b0 c0 m0
  obtain ⟨cc1, cf1⟩ := cells_of c1
  have bc1 := (cells_of b1).1
  go_wp2_with fail
  obtain ⟨V2, hV2⟩ : ∃ W, W = V1.setCell ⟨cb, 4, none⟩ (.int .i64 (m + 1)) := ⟨_, rfl⟩
  rw [← hV2]
  have k2 : Kp (· = cb) V1 V2 := by rw [hV2]; exact Kp.set _ _ _ _ rfl
  have c2 : V2.heap[cb]? = some (.cells #[.func (.func 24) #[.pointer (some ⟨tb, 0, none⟩)] #[], .func (.func 25) #[.pointer (some ⟨tb, 0, none⟩)] #[], .int .i64 rm, .int .i64 h, .int .i64 (m + 1), .map (some mb), .int .i64 0, .string ⟨#[]⟩, .bool false, .string ⟨#[]⟩, .int .i64 0, .slice none 0 0, .string ⟨#[]⟩, .bool false, .int .i64 0, .bool false, .pointer (some ⟨eb, 0, none⟩), .pointer (some ⟨eb, 0, none⟩)] 74) := by rw [hV2]; exact heap_set c1 4 _
  clear hV2 cc1 cf1 bc1
  have z2 := k2.size
  have b2 : V2.heap[w.heap.size]? = _ := (k2.block _ (heap_lt b1) (by omega)).trans b1
  have m2 : V2.heap[mb]? = _ := (k2.block _ (heap_lt m1) hmc).trans m1
  have tl := ht.lts
  have t2 := (ht.below w1).kp k2 (B := tB) hB (fun i hi (e : i = cb) => by omega)
  refine Calls.mono (answered_E tb M g cap pb pe es clk cb false _ t2 c2) ?_
  rintro _ V3 ⟨nb, rfl, he1, e3, k3⟩
  have z3 := k3.size
  have c3 : V3.heap[cb]? = _ := (k3.block _ (heap_lt c2)).trans c2
  have m3 : V3.heap[mb]? = _ := (k3.block _ (heap_lt m2)).trans m2
  go_wp2_with fail
  refine wp_region_noPanic ?_
  refine wp_region_held (S := fun W => (∀ j, W.cell? ⟨nb, j, none⟩ = (#[.int .i64 1, .string ⟨#[65]⟩, .bool false, .string ⟨#[101, 114, 114, 111, 114]⟩, .int .i64 0, .slice none 0 0, .string ⟨#[]⟩, .bool false, .int .i64 0, .bool false, .pointer none, .pointer none] : Array Value)[j]?) ∧ (∀ j, W.cell? ⟨cb, j, none⟩ = (#[.func (.func 24) #[.pointer (some ⟨tb, 0, none⟩)] #[], .func (.func 25) #[.pointer (some ⟨tb, 0, none⟩)] #[], .int .i64 rm, .int .i64 h, .int .i64 (m + 1), .map (some mb), .int .i64 0, .string ⟨#[]⟩, .bool false, .string ⟨#[]⟩, .int .i64 0, .slice none 0 0, .string ⟨#[]⟩, .bool false, .int .i64 0, .bool false, .pointer (some ⟨eb, 0, none⟩), .pointer (some ⟨eb, 0, none⟩)] : Array Value)[j]?)) (by kernel_rfl) ?_
  obtain ⟨V4, hV4⟩ : ∃ W4, W4 = (V3).drew := ⟨_, rfl⟩
  have e4 : ({ V3 with drawn := (V3).drawn + 1 } : World) = V4 := hV4.symm
  rw [e4]
  have hB4 : Below (V3).heap.size (V3) V4 := by rw [hV4]; exact (Below.refl _ _).drew
  have hS : (∀ j, V4.cell? ⟨nb, j, none⟩ = (#[.int .i64 1, .string ⟨#[65]⟩, .bool false, .string ⟨#[101, 114, 114, 111, 114]⟩, .int .i64 0, .slice none 0 0, .string ⟨#[]⟩, .bool false, .int .i64 0, .bool false, .pointer none, .pointer none] : Array Value)[j]?) ∧ (∀ j, V4.cell? ⟨cb, j, none⟩ = (#[.func (.func 24) #[.pointer (some ⟨tb, 0, none⟩)] #[], .func (.func 25) #[.pointer (some ⟨tb, 0, none⟩)] #[], .int .i64 rm, .int .i64 h, .int .i64 (m + 1), .map (some mb), .int .i64 0, .string ⟨#[]⟩, .bool false, .string ⟨#[]⟩, .int .i64 0, .slice none 0 0, .string ⟨#[]⟩, .bool false, .int .i64 0, .bool false, .pointer (some ⟨eb, 0, none⟩), .pointer (some ⟨eb, 0, none⟩)] : Array Value)[j]?) := ⟨(cells_of ((hB4.block _ (heap_lt e3)).trans e3)).1, (cells_of ((hB4.block _ (heap_lt c3)).trans c3)).1⟩
  have HV4 : Hid (V4 = (V3).drew) := hV4
  clear e4 hV4
  refine wpAnyH_take (i := 0) (v := .pointer (some ⟨cb, 0, none⟩)) rfl (by kernel_rfl) (by kernel_rfl) (by kernel_rfl) (fun _ _ _ h => h) (Or.inl ⟨by rfl, ?r⟩) hS ?_
  case r => intro W hW; simp [go_sem, execOp, Act.eval]
  simp only [List.getElem_toArray, List.getElem_cons_zero, Act.put, List.setIfInBounds_toArray, List.set_cons_succ, List.set_cons_zero]
  refine wpAnyH_take (i := 1) (v := .pointer (some ⟨cb, 0, none⟩)) rfl (by kernel_rfl) (by kernel_rfl) (by kernel_rfl) (fun _ _ _ h => h) (Or.inl ⟨by rfl, ?r⟩) hS ?_
  case r => intro W hW; simp [go_sem, execOp, Act.eval]
  simp only [List.getElem_toArray, List.getElem_cons_zero, List.getElem_cons_succ, Act.put, List.setIfInBounds_toArray, List.set_cons_succ, List.set_cons_zero]
  refine wpAnyH_take (i := 2) (v := .pointer (some ⟨cb, 5, none⟩)) rfl (by kernel_rfl) (by kernel_rfl) (by kernel_rfl) (fun _ _ _ h => h) (Or.inl ⟨by rfl, ?r⟩) hS ?_
  case r => intro W hW; simp [go_sem, execOp, Act.eval]
  simp only [List.getElem_toArray, List.getElem_cons_zero, List.getElem_cons_succ, Act.put, List.setIfInBounds_toArray, List.set_cons_succ, List.set_cons_zero]
  refine wpAnyH_take (i := 3) (v := .map (some mb)) rfl (by kernel_rfl) (by kernel_rfl) (by kernel_rfl) (fun _ _ _ h => h) (Or.inl ⟨by rfl, ?r⟩) hS ?_
  case r => intro W hW; simp [go_sem, execOp, Act.eval, hW.2]
  simp only [List.getElem_toArray, List.getElem_cons_zero, List.getElem_cons_succ, Act.put, List.setIfInBounds_toArray, List.set_cons_succ, List.set_cons_zero]
  refine wpAnyH_take (i := 4) (v := .pointer (some ⟨nb, 0, none⟩)) rfl (by kernel_rfl) (by kernel_rfl) (by kernel_rfl) (fun _ _ _ h => h) (Or.inl ⟨by rfl, ?r⟩) hS ?_
  case r => intro W hW; simp [go_sem, execOp, Act.eval]
  simp only [List.getElem_toArray, List.getElem_cons_zero, List.getElem_cons_succ, Act.put, List.setIfInBounds_toArray, List.set_cons_succ, List.set_cons_zero]
  refine wpAnyH_take (i := 5) (v := .pointer (some ⟨nb, 0, none⟩)) rfl (by kernel_rfl) (by kernel_rfl) (by kernel_rfl) (fun _ _ _ h => h) (Or.inl ⟨by rfl, ?r⟩) hS ?_
  case r => intro W hW; simp [go_sem, execOp, Act.eval]
  simp only [List.getElem_toArray, List.getElem_cons_zero, List.getElem_cons_succ, Act.put, List.setIfInBounds_toArray, List.set_cons_succ, List.set_cons_zero]
  refine wpAnyH_take (i := 6) (v := .pointer (some ⟨nb, 0, none⟩)) rfl (by kernel_rfl) (by kernel_rfl) (by kernel_rfl) (fun _ _ _ h => h) (Or.inl ⟨by rfl, ?r⟩) hS ?_
  case r => intro W hW; simp [go_sem, execOp, Act.eval]
  simp only [List.getElem_toArray, List.getElem_cons_zero, List.getElem_cons_succ, Act.put, List.setIfInBounds_toArray, List.set_cons_succ, List.set_cons_zero]
  refine wpAnyH_take (i := 7) (v := .agg #[.int .i64 1, .string ⟨#[65]⟩, .bool false, .string ⟨#[101, 114, 114, 111, 114]⟩]) rfl (by kernel_rfl) (by kernel_rfl) (by kernel_rfl) (fun _ _ _ h => h) (Or.inl ⟨by rfl, ?r⟩) hS ?_
  case r => intro W hW; simp [go_sem, execOp, Act.eval, hW.1]
  simp only [List.getElem_toArray, List.getElem_cons_zero, List.getElem_cons_succ, Act.put, List.setIfInBounds_toArray, List.set_cons_succ, List.set_cons_zero]
  refine wpAnyH_take (i := 8) (v := .pointer (some ⟨nb, 0, none⟩)) rfl (by kernel_rfl) (by kernel_rfl) (by kernel_rfl) (fun _ _ _ h => h) (Or.inl ⟨by rfl, ?r⟩) hS ?_
  case r => intro W hW; simp [go_sem, execOp, Act.eval]
  simp only [List.getElem_toArray, List.getElem_cons_zero, List.getElem_cons_succ, Act.put, List.setIfInBounds_toArray, List.set_cons_succ, List.set_cons_zero]
  have z4 := hB4.size
  have c4 : V4.heap[cb]? = _ := (hB4.block _ (heap_lt c3)).trans c3
  have m4 : V4.heap[mb]? = _ := (hB4.block _ (heap_lt m3)).trans m3
  have e4 : V4.heap[nb]? = _ := (hB4.block _ (heap_lt e3)).trans e3
  have d4 := hB4
  clear HV4 hB4
  have hup := updQ m4 (ck2 V4) (fk2 V4 eb) (.pointer (some ⟨nb, 0, none⟩))
  obtain ⟨V5, hV5⟩ : ∃ W, W = ChangeMaps.setBlock V4 mb (.map ((#[⟨.agg #[.int .i64 0, .string ⟨#[65]⟩, .bool false, .string ⟨#[120]⟩], .pointer (some ⟨eb, 0, none⟩), 0⟩] : Array MapEntry).push ⟨.agg #[.int .i64 1, .string ⟨#[65]⟩, .bool false, .string ⟨#[101, 114, 114, 111, 114]⟩], .pointer (some ⟨nb, 0, none⟩), 1⟩) (1 + 1)) := ⟨_, rfl⟩
  rw [← hV5] at hup
  have k5 : Kp (· = mb) V4 V5 := by rw [hV5]; exact Kp.setB _ _ _ rfl
  have m5 : V5.heap[mb]? = some (.map #[⟨.agg #[.int .i64 0, .string ⟨#[65]⟩, .bool false, .string ⟨#[120]⟩], .pointer (some ⟨eb, 0, none⟩), 0⟩, ⟨.agg #[.int .i64 1, .string ⟨#[65]⟩, .bool false, .string ⟨#[101, 114, 114, 111, 114]⟩], .pointer (some ⟨nb, 0, none⟩), 1⟩] 2) := by rw [hV5]; exact setBlock_same _ _ _ (heap_lt m4)
  clear hV5
  have z5 := k5.size
  have c5 : V5.heap[cb]? = _ := (k5.block _ (heap_lt c4) hmc.symm).trans c4
  have e5 : V5.heap[nb]? = _ := (k5.block _ (heap_lt e4) (by omega)).trans e4
  refine wpAnyH_all (rs := [9]) (by kernel_rfl) (by simp) (fun i2 hi2 => ?_)
  obtain rfl : i2 = 9 := by simpa using hi2
  clear hi2
  refine wpOp_step rfl (fun K hK => ite_yes rfl ?_)
  simp only [List.getElem_toArray, List.getElem_cons_zero, List.getElem_cons_succ]
  go_simp
  have hSV5 : (∀ j, V5.cell? ⟨nb, j, none⟩ = (#[.int .i64 1, .string ⟨#[65]⟩, .bool false, .string ⟨#[101, 114, 114, 111, 114]⟩, .int .i64 0, .slice none 0 0, .string ⟨#[]⟩, .bool false, .int .i64 0, .bool false, .pointer none, .pointer none] : Array Value)[j]?) ∧ (∀ j, V5.cell? ⟨cb, j, none⟩ = (#[.func (.func 24) #[.pointer (some ⟨tb, 0, none⟩)] #[], .func (.func 25) #[.pointer (some ⟨tb, 0, none⟩)] #[], .int .i64 rm, .int .i64 h, .int .i64 (m + 1), .map (some mb), .int .i64 0, .string ⟨#[]⟩, .bool false, .string ⟨#[]⟩, .int .i64 0, .slice none 0 0, .string ⟨#[]⟩, .bool false, .int .i64 0, .bool false, .pointer (some ⟨eb, 0, none⟩), .pointer (some ⟨eb, 0, none⟩)] : Array Value)[j]?) := ⟨(cells_of e5).1, (cells_of c5).1⟩
  refine hK _ _ ⟨hSV5, ?_⟩
  clear hK K hS hSV5 hup
  try simp only [Act.put, List.setIfInBounds_toArray, List.set_cons_succ, List.set_cons_zero]
  refine wpAnyH_done (by kernel_rfl) ?_ _
  refine NoPanic.normal ?_
  try simp only [Act.put]
  go_wp2_with fail
  have hel := heap_lt he
  have r5 : V5.heap[eb]? = _ := (k5.block _ (by omega) (by omega)).trans ((d4.block _ (by omega)).trans ((k3.block _ (by omega)).trans ((k2.block _ (by omega) (by omega)).trans ((w1.block _ hel).trans he))))
  refine Calls.mono (join_some cb nb eb _ _ _ _ _ _ c5 e5 r5 (by omega) (by omega) (by omega)) ?_
  rintro _ V6 ⟨rfl, e6, c6, r6, k6⟩
  have m6 : V6.heap[mb]? = _ := (k6.block _ (heap_lt m5) (by omega)).trans m5
  have z6 := k6.size
  go_wp2_with fail
  refine wp_region_noPanic ?_
  refine wp_region_held (S := fun W => (∀ j, W.cell? ⟨cb, j, none⟩ = (#[.func (.func 24) #[.pointer (some ⟨tb, 0, none⟩)] #[], .func (.func 25) #[.pointer (some ⟨tb, 0, none⟩)] #[], .int .i64 rm, .int .i64 h, .int .i64 (m + 1), .map (some mb), .int .i64 0, .string ⟨#[]⟩, .bool false, .string ⟨#[]⟩, .int .i64 0, .slice none 0 0, .string ⟨#[]⟩, .bool false, .int .i64 0, .bool false, .pointer (some ⟨nb, 0, none⟩), .pointer (some ⟨eb, 0, none⟩)] : Array Value)[j]?) ∧ W.heap[mb]? = some (.map #[⟨.agg #[.int .i64 0, .string ⟨#[65]⟩, .bool false, .string ⟨#[120]⟩], .pointer (some ⟨eb, 0, none⟩), 0⟩, ⟨.agg #[.int .i64 1, .string ⟨#[65]⟩, .bool false, .string ⟨#[101, 114, 114, 111, 114]⟩], .pointer (some ⟨nb, 0, none⟩), 1⟩] 2)) (by kernel_rfl) ?_
  obtain ⟨V9, hV9⟩ : ∃ W4, W4 = (V6).drew := ⟨_, rfl⟩
  have e4 : ({ V6 with drawn := (V6).drawn + 1 } : World) = V9 := hV9.symm
  rw [e4]
  have hB4 : Below (V6).heap.size (V6) V9 := by rw [hV9]; exact (Below.refl _ _).drew
  have hS : (∀ j, V9.cell? ⟨cb, j, none⟩ = (#[.func (.func 24) #[.pointer (some ⟨tb, 0, none⟩)] #[], .func (.func 25) #[.pointer (some ⟨tb, 0, none⟩)] #[], .int .i64 rm, .int .i64 h, .int .i64 (m + 1), .map (some mb), .int .i64 0, .string ⟨#[]⟩, .bool false, .string ⟨#[]⟩, .int .i64 0, .slice none 0 0, .string ⟨#[]⟩, .bool false, .int .i64 0, .bool false, .pointer (some ⟨nb, 0, none⟩), .pointer (some ⟨eb, 0, none⟩)] : Array Value)[j]?) ∧ V9.heap[mb]? = some (.map #[⟨.agg #[.int .i64 0, .string ⟨#[65]⟩, .bool false, .string ⟨#[120]⟩], .pointer (some ⟨eb, 0, none⟩), 0⟩, ⟨.agg #[.int .i64 1, .string ⟨#[65]⟩, .bool false, .string ⟨#[101, 114, 114, 111, 114]⟩], .pointer (some ⟨nb, 0, none⟩), 1⟩] 2) := ⟨(cells_of ((hB4.block _ (heap_lt c6)).trans c6)).1, (hB4.block _ (heap_lt m6)).trans m6⟩
  have HV9 : Hid (V9 = (V6).drew) := hV9
  clear e4 hV9
  refine wpAnyH_take (i := 0) (v := .pointer (some ⟨cb, 0, none⟩)) rfl (by kernel_rfl) (by kernel_rfl) (by kernel_rfl) (fun _ _ _ h => h) (Or.inl ⟨by rfl, ?r⟩) hS ?_
  case r => intro W hW; simp [go_sem, execOp, Act.eval]
  simp only [List.getElem_toArray, List.getElem_cons_zero, Act.put, List.setIfInBounds_toArray, List.set_cons_succ, List.set_cons_zero]
  refine wpAnyH_take (i := 1) (v := .pointer (some ⟨cb, 0, none⟩)) rfl (by kernel_rfl) (by kernel_rfl) (by kernel_rfl) (fun _ _ _ h => h) (Or.inl ⟨by rfl, ?r⟩) hS ?_
  case r => intro W hW; simp [go_sem, execOp, Act.eval]
  simp only [List.getElem_toArray, List.getElem_cons_zero, List.getElem_cons_succ, Act.put, List.setIfInBounds_toArray, List.set_cons_succ, List.set_cons_zero]
  refine wpAnyH_take (i := 2) (v := .pointer (some ⟨cb, 5, none⟩)) rfl (by kernel_rfl) (by kernel_rfl) (by kernel_rfl) (fun _ _ _ h => h) (Or.inl ⟨by rfl, ?r⟩) hS ?_
  case r => intro W hW; simp [go_sem, execOp, Act.eval]
  simp only [List.getElem_toArray, List.getElem_cons_zero, List.getElem_cons_succ, Act.put, List.setIfInBounds_toArray, List.set_cons_succ, List.set_cons_zero]
  refine wpAnyH_take (i := 3) (v := .map (some mb)) rfl (by kernel_rfl) (by kernel_rfl) (by kernel_rfl) (fun _ _ _ h => h) (Or.inl ⟨by rfl, ?r⟩) hS ?_
  case r => intro W hW; simp [go_sem, execOp, Act.eval, hW.1]
  simp only [List.getElem_toArray, List.getElem_cons_zero, List.getElem_cons_succ, Act.put, List.setIfInBounds_toArray, List.set_cons_succ, List.set_cons_zero]
  refine wpAnyH_take (i := 4) (v := .int .i64 2) rfl (by kernel_rfl) (by kernel_rfl) (by kernel_rfl) (fun _ _ _ h => h) (Or.inl ⟨by rfl, ?r⟩) hS ?_
  case r => intro W hW; simp [go_sem, execOp, Act.eval, invoke, resolve, builtin, lenQ _ _ _ _ _ hW.2 (by simp)]
  simp only [List.getElem_toArray, List.getElem_cons_zero, List.getElem_cons_succ, Act.put, List.setIfInBounds_toArray, List.set_cons_succ, List.set_cons_zero]
  refine wpAnyH_take (i := 5) (v := .pointer (some ⟨cb, 0, none⟩)) rfl (by kernel_rfl) (by kernel_rfl) (by kernel_rfl) (fun _ _ _ h => h) (Or.inl ⟨by rfl, ?r⟩) hS ?_
  case r => intro W hW; simp [go_sem, execOp, Act.eval]
  simp only [List.getElem_toArray, List.getElem_cons_zero, List.getElem_cons_succ, Act.put, List.setIfInBounds_toArray, List.set_cons_succ, List.set_cons_zero]
  refine wpAnyH_take (i := 6) (v := .pointer (some ⟨cb, 0, none⟩)) rfl (by kernel_rfl) (by kernel_rfl) (by kernel_rfl) (fun _ _ _ h => h) (Or.inl ⟨by rfl, ?r⟩) hS ?_
  case r => intro W hW; simp [go_sem, execOp, Act.eval]
  simp only [List.getElem_toArray, List.getElem_cons_zero, List.getElem_cons_succ, Act.put, List.setIfInBounds_toArray, List.set_cons_succ, List.set_cons_zero]
  refine wpAnyH_take (i := 7) (v := .pointer (some ⟨cb, 2, none⟩)) rfl (by kernel_rfl) (by kernel_rfl) (by kernel_rfl) (fun _ _ _ h => h) (Or.inl ⟨by rfl, ?r⟩) hS ?_
  case r => intro W hW; simp [go_sem, execOp, Act.eval]
  simp only [List.getElem_toArray, List.getElem_cons_zero, List.getElem_cons_succ, Act.put, List.setIfInBounds_toArray, List.set_cons_succ, List.set_cons_zero]
  refine wpAnyH_take (i := 8) (v := .int .i64 rm) rfl (by kernel_rfl) (by kernel_rfl) (by kernel_rfl) (fun _ _ _ h => h) (Or.inl ⟨by rfl, ?r⟩) hS ?_
  case r => intro W hW; simp [go_sem, execOp, Act.eval, hW.1]
  simp only [List.getElem_toArray, List.getElem_cons_zero, List.getElem_cons_succ, Act.put, List.setIfInBounds_toArray, List.set_cons_succ, List.set_cons_zero]
  refine wpAnyH_take (i := 9) (v := .bool false) rfl (by kernel_rfl) (by kernel_rfl) (by kernel_rfl) (fun _ _ _ h => h) (Or.inl ⟨by rfl, ?r⟩) hS ?_
  case r => intro W hW; simp [go_sem, execOp, Act.eval]; omega
  simp only [List.getElem_toArray, List.getElem_cons_zero, List.getElem_cons_succ, Act.put, List.setIfInBounds_toArray, List.set_cons_succ, List.set_cons_zero]
  refine wpAnyH_done (by kernel_rfl) ?_ _
  refine NoPanic.normal ?_
  try simp only [Act.put]
  have c9 := (hB4.block _ (heap_lt c6)).trans c6
  have m9 := (hB4.block _ (heap_lt m6)).trans m6
  have e9 := (hB4.block _ (heap_lt e6)).trans e6
  have r9 := (hB4.block _ (heap_lt r6)).trans r6
  go_wp2_with fail
  go_ret
  exact ⟨nb, rfl, by omega, e9, c9, m9, r9, ((((((Kp.of w1).trans k2 fun _ _ h => by omega).trans (Kp.of (S := fun _ => False) k3) fun _ _ h => h.elim).trans (Kp.of (S := fun _ => False) d4) fun _ _ h => h.elim).trans k5 fun _ _ h => by omega).trans k6 fun _ _ h => by omega).trans (Kp.of (S := fun _ => False) hB4) fun _ _ h => h.elim⟩

end Go.Proofs.YtaboeocgoocgfaaGreatDoor
