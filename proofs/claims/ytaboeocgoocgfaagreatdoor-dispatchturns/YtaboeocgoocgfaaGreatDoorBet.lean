/-
  A cache with a ring of any length is asked: a miss with room, a miss without, a hit of the oldest.
-/
import Derived.Test.YtaboeocgoocgfaaGreatDoorBfJ
import Derived.Test.YtaboeocgoocgfaaGreatDoorAc
namespace Go.Proofs.YtaboeocgoocgfaaGreatDoor
open Go.RowKit Go.ChangeMaps

set_option maxRecDepth 100000 in
set_option maxHeartbeats 4000000 in
theorem ring_turn {tb mb cb k eb ix : Nat} {rm h m : Int} {L : List (ByteArray × Nat)} {D : List (ByteArray × Nat × Nat)} {s : ByteArray} (w : World) (hr : Ring w tb mb cb rm h m ((s, eb) :: L)) (hm : w.heap[mb]? = some (.map (ents D).toArray k)) (hmc : mb ≠ cb) (hmL : ∀ x ∈ ((s, eb) :: L), x.2 ≠ mb) (hno : at? s D 0 = some (ix, eb)) (hLe : ∀ x ∈ L, x.2 ≠ eb) (hlr : (D.length : Int) ≤ rm) (hl100 : D.length ≤ 90) (hh : 0 ≤ h ∧ h < 1000) :
    Calls Tryz.prog 31 #[.pointer (some ⟨cb, 0, none⟩), .agg #[.int .i64 0, .string ⟨#[65]⟩, .bool false, .string s]] w fun e w' => e = .returned (.pointer (some ⟨eb, 0, none⟩)) ∧ Ring w' tb mb cb rm (h + 1) m (L ++ [(s, eb)]) ∧ w'.heap[mb]? = some (.map (ents D).toArray k) ∧ Kp (fun i => i = cb ∨ ∃ x ∈ ((s, eb) :: L), i = x.2) w w' := by
  go_enter Tryz.func31, Tryz.ntmps31
  have fk : ∀ W, (Instr.findKey 69 (.agg #[.int .i64 0, .string ⟨#[65]⟩, .bool false, .string s]) (ents D).toArray.toList).run Tryz.prog W = .ok (some (ix, .pointer (some ⟨eb, 0, none⟩))) W := fun W => by
    have := fkQ s W D
    rw [hno] at this
    simpa [qk] using this
  go_wp2_with fail
  obtain ⟨U0, hU0⟩ : ∃ W, W = w.alloc (.cells #[.int .i64 0, .string ⟨#[65]⟩, .bool false, .string s] 69) := ⟨_, rfl⟩
  rw [← hU0]
  have u0 : Below w.heap.size w U0 := by rw [hU0]; exact below1 w _
  have y0 : w.heap.size < U0.heap.size := by rw [hU0]; simp
  have b0 : U0.heap[w.heap.size]? = some (.cells #[.int .i64 0, .string ⟨#[65]⟩, .bool false, .string s] 69) := by rw [hU0]; exact heap_new _ _ _ rfl
  clear hU0
  have hc : w.heap[cb]? = some (.cells #[.func (.func 24) #[.pointer (some ⟨tb, 0, none⟩)] #[], .func (.func 25) #[.pointer (some ⟨tb, 0, none⟩)] #[], .int .i64 rm, .int .i64 h, .int .i64 m, .map (some mb), .int .i64 0, .string ⟨#[]⟩, .bool false, .string ⟨#[]⟩, .int .i64 0, .slice none 0 0, .string ⟨#[]⟩, .bool false, .int .i64 0, .bool false, (lastP (ringP cb) ((s, eb) :: L)), (firstP cb ((s, eb) :: L))] 74) := hr.cache
  have hcl := heap_lt hc
  have hml := heap_lt hm
  have c0 : U0.heap[cb]? = _ := (u0.block _ hcl).trans hc
  have m0 : U0.heap[mb]? = _ := (u0.block _ hml).trans hm
  refine wp_region_noPanic ?_
  refine wp_region_held (S := fun W => (∀ j, W.cell? ⟨w.heap.size, j, none⟩ = (#[.int .i64 0, .string ⟨#[65]⟩, .bool false, .string s] : Array Value)[j]?) ∧ (∀ j, W.cell? ⟨cb, j, none⟩ = (#[.func (.func 24) #[.pointer (some ⟨tb, 0, none⟩)] #[], .func (.func 25) #[.pointer (some ⟨tb, 0, none⟩)] #[], .int .i64 rm, .int .i64 h, .int .i64 m, .map (some mb), .int .i64 0, .string ⟨#[]⟩, .bool false, .string ⟨#[]⟩, .int .i64 0, .slice none 0 0, .string ⟨#[]⟩, .bool false, .int .i64 0, .bool false, (lastP (ringP cb) ((s, eb) :: L)), (firstP cb ((s, eb) :: L))] : Array Value)[j]?) ∧ W.heap[mb]? = some (.map (ents D).toArray k)) (by kernel_rfl) ?_
  obtain ⟨V1, hV1⟩ : ∃ W4, W4 = (U0).drew := ⟨_, rfl⟩
  have e4 : ({ U0 with drawn := (U0).drawn + 1 } : World) = V1 := hV1.symm
  rw [e4]
  have hB4 : Below (U0).heap.size (U0) V1 := by rw [hV1]; exact (Below.refl _ _).drew
  have hS : (∀ j, V1.cell? ⟨w.heap.size, j, none⟩ = (#[.int .i64 0, .string ⟨#[65]⟩, .bool false, .string s] : Array Value)[j]?) ∧ (∀ j, V1.cell? ⟨cb, j, none⟩ = (#[.func (.func 24) #[.pointer (some ⟨tb, 0, none⟩)] #[], .func (.func 25) #[.pointer (some ⟨tb, 0, none⟩)] #[], .int .i64 rm, .int .i64 h, .int .i64 m, .map (some mb), .int .i64 0, .string ⟨#[]⟩, .bool false, .string ⟨#[]⟩, .int .i64 0, .slice none 0 0, .string ⟨#[]⟩, .bool false, .int .i64 0, .bool false, (lastP (ringP cb) ((s, eb) :: L)), (firstP cb ((s, eb) :: L))] : Array Value)[j]?) ∧ V1.heap[mb]? = some (.map (ents D).toArray k) := ⟨(cells_of ((hB4.block _ (heap_lt b0)).trans b0)).1, (cells_of ((hB4.block _ (heap_lt c0)).trans c0)).1, (hB4.block _ (heap_lt m0)).trans m0⟩
  have HV1 : Hid (V1 = (U0).drew) := hV1
  clear e4 hV1
  refine wpAnyH_take (i := 0) (v := .pointer (some ⟨cb, 0, none⟩)) rfl (by kernel_rfl) (by kernel_rfl) (by kernel_rfl) (fun _ _ _ h => h) (Or.inl ⟨by rfl, ?r⟩) hS ?_
  case r => intro W hW; simp [go_sem, execOp, Act.eval]
  simp only [List.getElem_toArray, List.getElem_cons_zero, Act.put, List.setIfInBounds_toArray, List.set_cons_succ, List.set_cons_zero]
  refine wpAnyH_take (i := 1) (v := .pointer (some ⟨cb, 0, none⟩)) rfl (by kernel_rfl) (by kernel_rfl) (by kernel_rfl) (fun _ _ _ h => h) (Or.inl ⟨by rfl, ?r⟩) hS ?_
  case r => intro W hW; simp [go_sem, execOp, Act.eval]
  simp only [List.getElem_toArray, List.getElem_cons_zero, List.getElem_cons_succ, Act.put, List.setIfInBounds_toArray, List.set_cons_succ, List.set_cons_zero]
  refine wpAnyH_take (i := 2) (v := .pointer (some ⟨cb, 5, none⟩)) rfl (by kernel_rfl) (by kernel_rfl) (by kernel_rfl) (fun _ _ _ h => h) (Or.inl ⟨by rfl, ?r⟩) hS ?_
  case r => intro W hW; simp [go_sem, execOp, Act.eval]
  simp only [List.getElem_toArray, List.getElem_cons_zero, List.getElem_cons_succ, Act.put, List.setIfInBounds_toArray, List.set_cons_succ, List.set_cons_zero]
  refine wpAnyH_take (i := 3) (v := .map (some mb)) rfl (by kernel_rfl) (by kernel_rfl) (by kernel_rfl) (fun _ _ _ h => h) (Or.inl ⟨by rfl, ?r⟩) hS ?_
  case r => intro W hW; simp [go_sem, execOp, Act.eval, hW.2.1]
  simp only [List.getElem_toArray, List.getElem_cons_zero, List.getElem_cons_succ, Act.put, List.setIfInBounds_toArray, List.set_cons_succ, List.set_cons_zero]
  refine wpAnyH_take (i := 4) (v := .agg #[.int .i64 0, .string ⟨#[65]⟩, .bool false, .string s]) rfl (by kernel_rfl) (by kernel_rfl) (by kernel_rfl) (fun _ _ _ h => h) (Or.inl ⟨by rfl, ?r⟩) hS ?_
  case r => intro W hW; simp [go_sem, execOp, Act.eval, hW.1]
  simp only [List.getElem_toArray, List.getElem_cons_zero, List.getElem_cons_succ, Act.put, List.setIfInBounds_toArray, List.set_cons_succ, List.set_cons_zero]
  refine wpAnyH_take (i := 5) (v := .tuple #[.pointer (some ⟨eb, 0, none⟩), .bool true]) rfl (by kernel_rfl) (by kernel_rfl) (by kernel_rfl) (fun _ _ _ h => h) (Or.inl ⟨by rfl, ?r⟩) hS ?_
  case r => intro W hW; have hl := lookQ_yes hW.2.2 (ckQ s W) (fk W); simp only [qk] at hl; simp [go_sem, execOp, Act.eval, hl]
  simp only [List.getElem_toArray, List.getElem_cons_zero, List.getElem_cons_succ, Act.put, List.setIfInBounds_toArray, List.set_cons_succ, List.set_cons_zero]
  refine wpAnyH_take (i := 6) (v := .tuple #[.pointer (some ⟨eb, 0, none⟩), .bool true]) rfl (by kernel_rfl) (by kernel_rfl) (by kernel_rfl) (fun _ _ _ h => h) (Or.inl ⟨by rfl, ?r⟩) hS ?_
  case r => intro W hW; simp [go_sem, execOp, Act.eval]
  simp only [List.getElem_toArray, List.getElem_cons_zero, List.getElem_cons_succ, Act.put, List.setIfInBounds_toArray, List.set_cons_succ, List.set_cons_zero]
  refine wpAnyH_take (i := 7) (v := .pointer (some ⟨eb, 0, none⟩)) rfl (by kernel_rfl) (by kernel_rfl) (by kernel_rfl) (fun _ _ _ h => h) (Or.inl ⟨by rfl, ?r⟩) hS ?_
  case r => intro W hW; simp [go_sem, execOp, Act.eval]
  simp only [List.getElem_toArray, List.getElem_cons_zero, List.getElem_cons_succ, Act.put, List.setIfInBounds_toArray, List.set_cons_succ, List.set_cons_zero]
  refine wpAnyH_take (i := 8) (v := .bool true) rfl (by kernel_rfl) (by kernel_rfl) (by kernel_rfl) (fun _ _ _ h => h) (Or.inl ⟨by rfl, ?r⟩) hS ?_
  case r => intro W hW; simp [go_sem, execOp, Act.eval]
  simp only [List.getElem_toArray, List.getElem_cons_zero, List.getElem_cons_succ, Act.put, List.setIfInBounds_toArray, List.set_cons_succ, List.set_cons_zero]
  refine wpAnyH_take (i := 9) (v := .pointer (some ⟨eb, 0, none⟩)) rfl (by kernel_rfl) (by kernel_rfl) (by kernel_rfl) (fun _ _ _ h => h) (Or.inl ⟨by rfl, ?r⟩) hS ?_
  case r => intro W hW; simp [go_sem, execOp, Act.eval]
  simp only [List.getElem_toArray, List.getElem_cons_zero, List.getElem_cons_succ, Act.put, List.setIfInBounds_toArray, List.set_cons_succ, List.set_cons_zero]
  refine wpAnyH_take (i := 10) (v := .bool true) rfl (by kernel_rfl) (by kernel_rfl) (by kernel_rfl) (fun _ _ _ h => h) (Or.inl ⟨by rfl, ?r⟩) hS ?_
  case r => intro W hW; simp [go_sem, execOp, Act.eval]
  simp only [List.getElem_toArray, List.getElem_cons_zero, List.getElem_cons_succ, Act.put, List.setIfInBounds_toArray, List.set_cons_succ, List.set_cons_zero]
  refine wpAnyH_done (by kernel_rfl) ?_ _
  refine NoPanic.normal ?_
  try simp only [Act.put]
  have w1 : Below w.heap.size w V1 := u0.trans (hB4.mono (by omega))
  have y1 : w.heap.size < V1.heap.size := Nat.lt_of_lt_of_le y0 hB4.size
  have b1 : V1.heap[w.heap.size]? = _ := (hB4.block _ (heap_lt b0)).trans b0
  have c1 : V1.heap[cb]? = _ := (hB4.block _ (heap_lt c0)).trans c0
  have m1 : V1.heap[mb]? = _ := (hB4.block _ (heap_lt m0)).trans m0
  clear HV1 hB4 hS u0 b0 c0 m0
  obtain ⟨cc1, cf1⟩ := cells_of c1
  have bc1 := (cells_of b1).1
  have g1 := Row.kp (Kp.of (S := fun _ => False) w1) hr.row fun _ _ h => h
  go_wp2_with fail
  obtain ⟨V2, hV2⟩ : ∃ W, W = V1.setCell ⟨cb, 3, none⟩ (.int .i64 (h + 1)) := ⟨_, rfl⟩
  rw [← hV2]
  have k2 : Kp (· = cb) V1 V2 := by rw [hV2]; exact Kp.set _ _ _ _ rfl
  have c2 : V2.heap[cb]? = some (.cells #[.func (.func 24) #[.pointer (some ⟨tb, 0, none⟩)] #[], .func (.func 25) #[.pointer (some ⟨tb, 0, none⟩)] #[], .int .i64 rm, .int .i64 (h + 1), .int .i64 m, .map (some mb), .int .i64 0, .string ⟨#[]⟩, .bool false, .string ⟨#[]⟩, .int .i64 0, .slice none 0 0, .string ⟨#[]⟩, .bool false, .int .i64 0, .bool false, (lastP (ringP cb) ((s, eb) :: L)), (firstP cb ((s, eb) :: L))] 74) := by rw [hV2]; exact heap_set c1 3 _
  clear hV2 cc1 cf1 bc1
  have z2 := k2.size
  have b2 : V2.heap[w.heap.size]? = _ := (k2.block _ (heap_lt b1) (by omega)).trans b1
  have m2 : V2.heap[mb]? = _ := (k2.block _ (heap_lt m1) hmc).trans m1
  have r2 : Ring V2 tb mb cb rm (h + 1) m ((s, eb) :: L) := ⟨c2, Row.kp k2 g1 fun x hx => hr.apart x hx, hr.apart, hr.once⟩
  refine Calls.mono (ring_leave _ r2) ?_
  rintro _ V3 ⟨rfl, r3, ⟨eo, en, e3⟩, k3⟩
  have z3 := k3.size
  have m3 : V3.heap[mb]? = _ := (k3.block _ (heap_lt m2) (by rintro (h | ⟨x, hx, h⟩); exact hmc h; exact hmL x (by simp [hx]) h.symm)).trans m2
  go_wp2_with fail
  refine Calls.mono (ring_join _ _ _ r3 e3 (hr.apart (s, eb) (by simp)) hLe) ?_
  rintro _ V6 ⟨rfl, r6, k6⟩
  have z6 := k6.size
  have m6 : V6.heap[mb]? = some (.map (ents D).toArray k) := (k6.block _ (heap_lt m3) (by rintro (h | h | ⟨x, hx, h⟩); exact hmc h; exact hmL (s, eb) (by simp) h.symm; exact hmL x (by simp [hx]) h.symm)).trans m3
  have c6 : V6.heap[cb]? = some (.cells #[.func (.func 24) #[.pointer (some ⟨tb, 0, none⟩)] #[], .func (.func 25) #[.pointer (some ⟨tb, 0, none⟩)] #[], .int .i64 rm, .int .i64 (h + 1), .int .i64 m, .map (some mb), .int .i64 0, .string ⟨#[]⟩, .bool false, .string ⟨#[]⟩, .int .i64 0, .slice none 0 0, .string ⟨#[]⟩, .bool false, .int .i64 0, .bool false, (lastP (ringP cb) (L ++ [(s, eb)])), (firstP cb (L ++ [(s, eb)]))] 74) := r6.cache
  have hlen : (ents D).toArray.size = D.length := by simp [ents]
  go_wp2_with fail
  refine wp_region_noPanic ?_
  refine wp_region_held (S := fun W => (∀ j, W.cell? ⟨cb, j, none⟩ = (#[.func (.func 24) #[.pointer (some ⟨tb, 0, none⟩)] #[], .func (.func 25) #[.pointer (some ⟨tb, 0, none⟩)] #[], .int .i64 rm, .int .i64 (h + 1), .int .i64 m, .map (some mb), .int .i64 0, .string ⟨#[]⟩, .bool false, .string ⟨#[]⟩, .int .i64 0, .slice none 0 0, .string ⟨#[]⟩, .bool false, .int .i64 0, .bool false, (lastP (ringP cb) (L ++ [(s, eb)])), (firstP cb (L ++ [(s, eb)]))] : Array Value)[j]?) ∧ W.heap[mb]? = some (.map (ents D).toArray k)) (by kernel_rfl) ?_
  obtain ⟨V9, hV9⟩ : ∃ W4, W4 = (V6).drew := ⟨_, rfl⟩
  have e4 : ({ V6 with drawn := (V6).drawn + 1 } : World) = V9 := hV9.symm
  rw [e4]
  have hB4 : Below (V6).heap.size (V6) V9 := by rw [hV9]; exact (Below.refl _ _).drew
  have hS : (∀ j, V9.cell? ⟨cb, j, none⟩ = (#[.func (.func 24) #[.pointer (some ⟨tb, 0, none⟩)] #[], .func (.func 25) #[.pointer (some ⟨tb, 0, none⟩)] #[], .int .i64 rm, .int .i64 (h + 1), .int .i64 m, .map (some mb), .int .i64 0, .string ⟨#[]⟩, .bool false, .string ⟨#[]⟩, .int .i64 0, .slice none 0 0, .string ⟨#[]⟩, .bool false, .int .i64 0, .bool false, (lastP (ringP cb) (L ++ [(s, eb)])), (firstP cb (L ++ [(s, eb)]))] : Array Value)[j]?) ∧ V9.heap[mb]? = some (.map (ents D).toArray k) := ⟨(cells_of ((hB4.block _ (heap_lt c6)).trans c6)).1, (hB4.block _ (heap_lt m6)).trans m6⟩
  have HV9 : Hid (V9 = (V6).drew) := hV9
  clear e4 hV9
  refine wpAnyH_take (i := 0) (v := .pointer (some ⟨cb, 0, none⟩)) rfl (by kernel_rfl) (by kernel_rfl) (by kernel_rfl) (fun _ _ _ h => h) (Or.inl ⟨by rfl, ?r⟩) hS ?_
  case r => intro W hW; simp [go_sem, execOp, Act.eval]
  simp only [List.getElem_toArray, List.getElem_cons_zero, Act.put, List.setIfInBounds_toArray, List.set_cons_succ, List.set_cons_zero]
  refine wpAnyH_take (i := 1) (v := .pointer (some ⟨cb, 0, none⟩)) rfl (by kernel_rfl) (by kernel_rfl) (by kernel_rfl) (fun _ _ _ h => h) (Or.inl ⟨by rfl, ?r⟩) hS ?_
  case r => intro W hW; simp [go_sem, execOp, Act.eval]
  simp only [List.getElem_toArray, List.getElem_cons_zero, List.getElem_cons_succ, Act.put, List.setIfInBounds_toArray, List.set_cons_succ, List.set_cons_zero]
  refine wpAnyH_take (i := 2) (v := .pointer (some ⟨cb, 5, none⟩)) rfl (by kernel_rfl) (by kernel_rfl) (by kernel_rfl) (fun _ _ _ h => h) (Or.inl ⟨by rfl, ?r⟩) hS ?_
  case r => intro W hW; simp [go_sem, execOp, Act.eval]
  simp only [List.getElem_toArray, List.getElem_cons_zero, List.getElem_cons_succ, Act.put, List.setIfInBounds_toArray, List.set_cons_succ, List.set_cons_zero]
  refine wpAnyH_take (i := 3) (v := .map (some mb)) rfl (by kernel_rfl) (by kernel_rfl) (by kernel_rfl) (fun _ _ _ h => h) (Or.inl ⟨by rfl, ?r⟩) hS ?_
  case r => intro W hW; simp [go_sem, execOp, Act.eval, hW.1]
  simp only [List.getElem_toArray, List.getElem_cons_zero, List.getElem_cons_succ, Act.put, List.setIfInBounds_toArray, List.set_cons_succ, List.set_cons_zero]
  refine wpAnyH_take (i := 4) (v := .int .i64 ((ents D).toArray.size : Int)) rfl (by kernel_rfl) (by kernel_rfl) (by kernel_rfl) (fun _ _ _ h => h) (Or.inl ⟨by rfl, ?r⟩) hS ?_
  case r => intro W hW; simp [go_sem, execOp, Act.eval, invoke, resolve, builtin, lenQ _ _ _ _ _ hW.2 (by omega)]
  simp only [List.getElem_toArray, List.getElem_cons_zero, List.getElem_cons_succ, Act.put, List.setIfInBounds_toArray, List.set_cons_succ, List.set_cons_zero]
  refine wpAnyH_take (i := 5) (v := .pointer (some ⟨cb, 0, none⟩)) rfl (by kernel_rfl) (by kernel_rfl) (by kernel_rfl) (fun _ _ _ h => h) (Or.inl ⟨by rfl, ?r⟩) hS ?_
  case r => intro W hW; simp [go_sem, execOp, Act.eval]
  simp only [List.getElem_toArray, List.getElem_cons_zero, List.getElem_cons_succ, Act.put, List.setIfInBounds_toArray, List.set_cons_succ, List.set_cons_zero]
  refine wpAnyH_take (i := 6) (v := .pointer (some ⟨cb, 0, none⟩)) rfl (by kernel_rfl) (by kernel_rfl) (by kernel_rfl) (fun _ _ _ h => h) (Or.inl ⟨by rfl, ?r⟩) hS ?_
  case r => intro W hW; simp [go_sem, execOp, Act.eval]
  simp only [List.getElem_toArray, List.getElem_cons_zero, List.getElem_cons_succ, Act.put, List.setIfInBounds_toArray, List.set_cons_succ, List.set_cons_zero]
  refine wpAnyH_take (i := 7) (v := .pointer (some ⟨cb, 2, none⟩)) rfl (by kernel_rfl) (by kernel_rfl) (by kernel_rfl) (fun _ _ _ h => h) (Or.inl ⟨by rfl, ?r⟩) hS ?_
  case r => intro W hW; simp [go_sem, execOp, Act.eval]
  simp only [List.getElem_toArray, List.getElem_cons_zero, List.getElem_cons_succ, Act.put, List.setIfInBounds_toArray, List.set_cons_succ, List.set_cons_zero]
  refine wpAnyH_take (i := 8) (v := .int .i64 rm) rfl (by kernel_rfl) (by kernel_rfl) (by kernel_rfl) (fun _ _ _ h => h) (Or.inl ⟨by rfl, ?r⟩) hS ?_
  case r => intro W hW; simp [go_sem, execOp, Act.eval, hW.1]
  simp only [List.getElem_toArray, List.getElem_cons_zero, List.getElem_cons_succ, Act.put, List.setIfInBounds_toArray, List.set_cons_succ, List.set_cons_zero]
  refine wpAnyH_take (i := 9) (v := .bool false) rfl (by kernel_rfl) (by kernel_rfl) (by kernel_rfl) (fun _ _ _ h => h) (Or.inl ⟨by rfl, ?r⟩) hS ?_
  case r => intro W hW; rw [hlen]; simp [go_sem, execOp, Act.eval]; omega
  simp only [List.getElem_toArray, List.getElem_cons_zero, List.getElem_cons_succ, Act.put, List.setIfInBounds_toArray, List.set_cons_succ, List.set_cons_zero]
  refine wpAnyH_done (by kernel_rfl) ?_ _
  refine NoPanic.normal ?_
  try simp only [Act.put]
  have z9 := hB4.size
  have c9 := (hB4.block _ (heap_lt c6)).trans c6
  have m9 := (hB4.block _ (heap_lt m6)).trans m6
  have r9 : Ring V9 tb mb cb rm (h + 1) m (L ++ [(s, eb)]) := ⟨c9, Row.kp (Kp.of (S := fun _ => False) hB4) r6.row fun _ _ h => h, r6.apart, r6.once⟩
  have kA : Kp (fun i => i = cb ∨ ∃ x ∈ ((s, eb) :: L), i = x.2) w V9 := ((((Kp.of w1).trans k2 fun _ _ h => Or.inl h).trans k3 fun _ _ h => h.elim Or.inl fun ⟨x, hx, h⟩ => Or.inr ⟨x, by simp [hx], h⟩).trans k6 fun _ _ h => h.elim Or.inl fun h => h.elim (fun h => Or.inr ⟨(s, eb), by simp, h⟩) fun ⟨x, hx, h⟩ => Or.inr ⟨x, by simp [hx], h⟩).trans (Kp.of (S := fun _ => False) hB4) fun _ _ h => h.elim
  go_wp2_with fail
  go_ret
  exact ⟨rfl, r9, m9, kA⟩

end Go.Proofs.YtaboeocgoocgfaaGreatDoor
