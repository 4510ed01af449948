/-
  A cache with a ring of any length is asked: a miss with room, a miss without, a hit of the oldest.
-/
import Derived.Test.YtaboeocgoocgfaaGreatDoorBfJ
import Derived.Test.YtaboeocgoocgfaaGreatDoorAc
namespace Go.Proofs.YtaboeocgoocgfaaGreatDoor
open Go.RowKit Go.ChangeMaps

set_option maxRecDepth 100000 in
set_option maxHeartbeats 4000000 in
theorem ring_miss {tb M g cap pb pe clk mb cb k : Nat} {es : Array MapEntry} {rm h m : Int} {L : List (ByteArray × Nat)} {D : List (ByteArray × Nat × Nat)} {s : ByteArray} (w : World) (hr : Ring w tb mb cb rm h m L) (hm : w.heap[mb]? = some (.map (ents D).toArray k)) (hmc : mb ≠ cb) (hmL : ∀ x ∈ L, x.2 ≠ mb) (tB : Nat)  (ht : TabAt w tb M g cap pb pe es clk) (hB : tb < tB ∧ M < tB ∧ g < tB ∧ pb < tB ∧ pe < tB) (hBc : tB ≤ cb) (hs : s.size ≤ 60000) (hnx : Instr.findNow .string (.string s) (#[⟨.string ⟨#[120]⟩, .agg #[.bool true, .int .i64 0, .bool false, .int .i64 0], 0⟩] : Array MapEntry).toList 0 = some none) (hno : at? s D 0 = none) (hlr : (D.length : Int) + 1 ≤ rm) (hl100 : D.length ≤ 90) (hh : 0 ≤ m ∧ m < 1000) :
    Calls Tryz.prog 31 #[.pointer (some ⟨cb, 0, none⟩), .agg #[.int .i64 0, .string ⟨#[65]⟩, .bool false, .string s]] w fun e w' => ∃ eb, e = .returned (.pointer (some ⟨eb, 0, none⟩)) ∧ w.heap.size ≤ eb ∧ eb < w'.heap.size ∧ Ring w' tb mb cb rm h (m + 1) (L ++ [(s, eb)]) ∧ w'.heap[mb]? = some (.map (ents (D ++ [(s, eb, k)])).toArray (k + 1)) ∧ Kp (fun i => i = cb ∨ i = mb ∨ ∃ x ∈ L, i = x.2) w w' := by
  go_enter Tryz.func31, Tryz.ntmps31
  have fk : ∀ W, (Instr.findKey 69 (.agg #[.int .i64 0, .string ⟨#[65]⟩, .bool false, .string s]) (ents D).toArray.toList).run Tryz.prog W = .ok (none) W := fun W => by
    have := fkQ s W D
    rw [hno] at this
    simpa [qk] using this
  go_wp2_with fail
  obtain ⟨U0, hU0⟩ : ∃ W, W = w.alloc (.cells #[.int .i64 0, .string ⟨#[65]⟩, .bool false, .string s] 69) := ⟨_, rfl⟩
  rw [← hU0]
  have u0 : Below w.heap.size w U0 := by rw [hU0]; exact below1 w _
  have y0 : w.heap.size < U0.heap.size := by rw [hU0]; simp
  have b0 : U0.heap[w.heap.size]? = some (.cells #[.int .i64 0, .string ⟨#[65]⟩, .bool false, .string s] 69) := by rw [hU0]; exact heap_new _ _ _ rfl
  clear hU0
  have hc : w.heap[cb]? = some (.cells #[.func (.func 24) #[.pointer (some ⟨tb, 0, none⟩)] #[], .func (.func 25) #[.pointer (some ⟨tb, 0, none⟩)] #[], .int .i64 rm, .int .i64 h, .int .i64 m, .map (some mb), .int .i64 0, .string ⟨#[]⟩, .bool false, .string ⟨#[]⟩, .int .i64 0, .slice none 0 0, .string ⟨#[]⟩, .bool false, .int .i64 0, .bool false, (lastP (ringP cb) L), (firstP cb L)] 74) := hr.cache
  have hcl := heap_lt hc
  have hml := heap_lt hm
  have c0 : U0.heap[cb]? = _ := (u0.block _ hcl).trans hc
  have m0 : U0.heap[mb]? = _ := (u0.block _ hml).trans hm
  refine wp_region_noPanic ?_
  refine wp_region_held (S := fun W => (∀ j, W.cell? ⟨w.heap.size, j, none⟩ = (#[.int .i64 0, .string ⟨#[65]⟩, .bool false, .string s] : Array Value)[j]?) ∧ (∀ j, W.cell? ⟨cb, j, none⟩ = (#[.func (.func 24) #[.pointer (some ⟨tb, 0, none⟩)] #[], .func (.func 25) #[.pointer (some ⟨tb, 0, none⟩)] #[], .int .i64 rm, .int .i64 h, .int .i64 m, .map (some mb), .int .i64 0, .string ⟨#[]⟩, .bool false, .string ⟨#[]⟩, .int .i64 0, .slice none 0 0, .string ⟨#[]⟩, .bool false, .int .i64 0, .bool false, (lastP (ringP cb) L), (firstP cb L)] : Array Value)[j]?) ∧ W.heap[mb]? = some (.map (ents D).toArray k)) (by kernel_rfl) ?_
  obtain ⟨V1, hV1⟩ : ∃ W4, W4 = (U0).drew := ⟨_, rfl⟩
  have e4 : ({ U0 with drawn := (U0).drawn + 1 } : World) = V1 := hV1.symm
  rw [e4]
  have hB4 : Below (U0).heap.size (U0) V1 := by rw [hV1]; exact (Below.refl _ _).drew
  have hS : (∀ j, V1.cell? ⟨w.heap.size, j, none⟩ = (#[.int .i64 0, .string ⟨#[65]⟩, .bool false, .string s] : Array Value)[j]?) ∧ (∀ j, V1.cell? ⟨cb, j, none⟩ = (#[.func (.func 24) #[.pointer (some ⟨tb, 0, none⟩)] #[], .func (.func 25) #[.pointer (some ⟨tb, 0, none⟩)] #[], .int .i64 rm, .int .i64 h, .int .i64 m, .map (some mb), .int .i64 0, .string ⟨#[]⟩, .bool false, .string ⟨#[]⟩, .int .i64 0, .slice none 0 0, .string ⟨#[]⟩, .bool false, .int .i64 0, .bool false, (lastP (ringP cb) L), (firstP cb L)] : Array Value)[j]?) ∧ V1.heap[mb]? = some (.map (ents D).toArray k) := ⟨(cells_of ((hB4.block _ (heap_lt b0)).trans b0)).1, (cells_of ((hB4.block _ (heap_lt c0)).trans c0)).1, (hB4.block _ (heap_lt m0)).trans m0⟩
  have HV1 : Hid (V1 = (U0).drew) := hV1
  clear e4 hV1
  refine wpAnyH_take (i := 0) (v := .pointer (some ⟨cb, 0, none⟩)) rfl (by kernel_rfl) (by kernel_rfl) (by kernel_rfl) (fun _ _ _ h => h) (Or.inl ⟨by rfl, ?r⟩) hS ?_
  case r => intro W hW; simp [go_sem, execOp, Act.eval]
  simp only [List.getElem_toArray, List.getElem_cons_zero, Act.put, List.setIfInBounds_toArray, List.set_cons_succ, List.set_cons_zero]
  refine wpAnyH_take (i := 1) (v := .pointer (some ⟨cb, 0, none⟩)) rfl (by kernel_rfl) (by kernel_rfl) (by kernel_rfl) (fun _ _ _ h => h) (Or.inl ⟨by rfl, ?r⟩) hS ?_
  case r => intro W hW; simp [go_sem, execOp, Act.eval]
  simp only [List.getElem_toArray, List.getElem_cons_zero, List.getElem_cons_succ, Act.put, List.setIfInBounds_toArray, List.set_cons_succ, List.set_cons_zero]
  refine wpAnyH_take (i := 2) (v := .pointer (some ⟨cb, 5, none⟩)) rfl (by kernel_rfl) (by kernel_rfl) (by kernel_rfl) (fun _ _ _ h => h) (Or.inl ⟨by rfl, ?r⟩) hS ?_
  case r => intro W hW; simp [go_sem, execOp, Act.eval]
  simp only [List.getElem_toArray, List.getElem_cons_zero, List.getElem_cons_succ, Act.put, List.setIfInBounds_toArray, List.set_cons_succ, List.set_cons_zero]
  refine wpAnyH_take (i := 3) (v := .map (some mb)) rfl (by kernel_rfl) (by kernel_rfl) (by kernel_rfl) (fun _ _ _ h => h) (Or.inl ⟨by rfl, ?r⟩) hS ?_
  case r => intro W hW; simp [go_sem, execOp, Act.eval, hW.2.1]
  simp only [List.getElem_toArray, List.getElem_cons_zero, List.getElem_cons_succ, Act.put, List.setIfInBounds_toArray, List.set_cons_succ, List.set_cons_zero]
  refine wpAnyH_take (i := 4) (v := .agg #[.int .i64 0, .string ⟨#[65]⟩, .bool false, .string s]) rfl (by kernel_rfl) (by kernel_rfl) (by kernel_rfl) (fun _ _ _ h => h) (Or.inl ⟨by rfl, ?r⟩) hS ?_
  case r => intro W hW; simp [go_sem, execOp, Act.eval, hW.1]
  simp only [List.getElem_toArray, List.getElem_cons_zero, List.getElem_cons_succ, Act.put, List.setIfInBounds_toArray, List.set_cons_succ, List.set_cons_zero]
  refine wpAnyH_take (i := 5) (v := .tuple #[.pointer none, .bool false]) rfl (by kernel_rfl) (by kernel_rfl) (by kernel_rfl) (fun _ _ _ h => h) (Or.inl ⟨by rfl, ?r⟩) hS ?_
  case r => intro W hW; have hl := lookQ_no hW.2.2 (ckQ s W) (fk W); simp only [qk] at hl; simp [go_sem, execOp, Act.eval, hl]
  simp only [List.getElem_toArray, List.getElem_cons_zero, List.getElem_cons_succ, Act.put, List.setIfInBounds_toArray, List.set_cons_succ, List.set_cons_zero]
  refine wpAnyH_take (i := 6) (v := .tuple #[.pointer none, .bool false]) rfl (by kernel_rfl) (by kernel_rfl) (by kernel_rfl) (fun _ _ _ h => h) (Or.inl ⟨by rfl, ?r⟩) hS ?_
  case r => intro W hW; simp [go_sem, execOp, Act.eval]
  simp only [List.getElem_toArray, List.getElem_cons_zero, List.getElem_cons_succ, Act.put, List.setIfInBounds_toArray, List.set_cons_succ, List.set_cons_zero]
  refine wpAnyH_take (i := 7) (v := .pointer none) rfl (by kernel_rfl) (by kernel_rfl) (by kernel_rfl) (fun _ _ _ h => h) (Or.inl ⟨by rfl, ?r⟩) hS ?_
  case r => intro W hW; simp [go_sem, execOp, Act.eval]
  simp only [List.getElem_toArray, List.getElem_cons_zero, List.getElem_cons_succ, Act.put, List.setIfInBounds_toArray, List.set_cons_succ, List.set_cons_zero]
  refine wpAnyH_take (i := 8) (v := .bool false) rfl (by kernel_rfl) (by kernel_rfl) (by kernel_rfl) (fun _ _ _ h => h) (Or.inl ⟨by rfl, ?r⟩) hS ?_
  case r => intro W hW; simp [go_sem, execOp, Act.eval]
  simp only [List.getElem_toArray, List.getElem_cons_zero, List.getElem_cons_succ, Act.put, List.setIfInBounds_toArray, List.set_cons_succ, List.set_cons_zero]
  refine wpAnyH_take (i := 9) (v := .pointer none) rfl (by kernel_rfl) (by kernel_rfl) (by kernel_rfl) (fun _ _ _ h => h) (Or.inl ⟨by rfl, ?r⟩) hS ?_
  case r => intro W hW; simp [go_sem, execOp, Act.eval]
  simp only [List.getElem_toArray, List.getElem_cons_zero, List.getElem_cons_succ, Act.put, List.setIfInBounds_toArray, List.set_cons_succ, List.set_cons_zero]
  refine wpAnyH_take (i := 10) (v := .bool false) rfl (by kernel_rfl) (by kernel_rfl) (by kernel_rfl) (fun _ _ _ h => h) (Or.inl ⟨by rfl, ?r⟩) hS ?_
  case r => intro W hW; simp [go_sem, execOp, Act.eval]
  simp only [List.getElem_toArray, List.getElem_cons_zero, List.getElem_cons_succ, Act.put, List.setIfInBounds_toArray, List.set_cons_succ, List.set_cons_zero]
  refine wpAnyH_done (by kernel_rfl) ?_ _
  refine NoPanic.normal ?_
  try simp only [Act.put]
  have w1 : Below w.heap.size w V1 := u0.trans (hB4.mono (by omega))
  have y1 : w.heap.size < V1.heap.size := Nat.lt_of_lt_of_le y0 hB4.size
  have b1 : V1.heap[w.heap.size]? = _ := (hB4.block _ (heap_lt b0)).trans b0
  have c1 : V1.heap[cb]? = _ := (hB4.block _ (heap_lt c0)).trans c0
  have m1 : V1.heap[mb]? = _ := (hB4.block _ (heap_lt m0)).trans m0
  clear HV1 hB4 hS u0 b0 c0 m0
  obtain ⟨cc1, cf1⟩ := cells_of c1
  have bc1 := (cells_of b1).1
  have g1 := Row.kp (Kp.of (S := fun _ => False) w1) hr.row fun _ _ h => h
  go_wp2_with fail
  obtain ⟨V2, hV2⟩ : ∃ W, W = V1.setCell ⟨cb, 4, none⟩ (.int .i64 (m + 1)) := ⟨_, rfl⟩
  rw [← hV2]
  have k2 : Kp (· = cb) V1 V2 := by rw [hV2]; exact Kp.set _ _ _ _ rfl
  have c2 : V2.heap[cb]? = some (.cells #[.func (.func 24) #[.pointer (some ⟨tb, 0, none⟩)] #[], .func (.func 25) #[.pointer (some ⟨tb, 0, none⟩)] #[], .int .i64 rm, .int .i64 h, .int .i64 (m + 1), .map (some mb), .int .i64 0, .string ⟨#[]⟩, .bool false, .string ⟨#[]⟩, .int .i64 0, .slice none 0 0, .string ⟨#[]⟩, .bool false, .int .i64 0, .bool false, (lastP (ringP cb) L), (firstP cb L)] 74) := by rw [hV2]; exact heap_set c1 4 _
  clear hV2 cc1 cf1 bc1
  have z2 := k2.size
  have b2 : V2.heap[w.heap.size]? = _ := (k2.block _ (heap_lt b1) (by omega)).trans b1
  have m2 : V2.heap[mb]? = _ := (k2.block _ (heap_lt m1) hmc).trans m1
  have r2 : Ring V2 tb mb cb rm h (m + 1) L := ⟨c2, Row.kp k2 g1 fun x hx => hr.apart x hx, hr.apart, hr.once⟩
  have tl := ht.lts
  have t2 := (ht.below w1).kp k2 (B := tB) hB (fun i hi (e : i = cb) => by omega)
  refine Calls.mono (answered_no tb M g cap pb pe es clk cb false s _ t2 c2 hs hnx) ?_
  rintro _ V3 ⟨eb, rfl, he1, e3, k3⟩
  have z3 := k3.size
  have c3 : V3.heap[cb]? = _ := (k3.block _ (heap_lt c2)).trans c2
  have m3 : V3.heap[mb]? = _ := (k3.block _ (heap_lt m2)).trans m2
  have hebL : ∀ x ∈ L, x.2 ≠ eb := fun x hx h => by have := Row.lt hr.row x hx; omega
  go_wp2_with fail
  refine wp_region_noPanic ?_
  refine wp_region_held (S := fun W => (∀ j, W.cell? ⟨eb, j, none⟩ = (#[.int .i64 0, .string ⟨#[65]⟩, .bool false, .string s, .int .i64 0, .slice none 0 0, .string ⟨#[]⟩, .bool false, .int .i64 0, .bool false, .pointer none, .pointer none] : Array Value)[j]?) ∧ (∀ j, W.cell? ⟨cb, j, none⟩ = (#[.func (.func 24) #[.pointer (some ⟨tb, 0, none⟩)] #[], .func (.func 25) #[.pointer (some ⟨tb, 0, none⟩)] #[], .int .i64 rm, .int .i64 h, .int .i64 (m + 1), .map (some mb), .int .i64 0, .string ⟨#[]⟩, .bool false, .string ⟨#[]⟩, .int .i64 0, .slice none 0 0, .string ⟨#[]⟩, .bool false, .int .i64 0, .bool false, (lastP (ringP cb) L), (firstP cb L)] : Array Value)[j]?)) (by kernel_rfl) ?_
  obtain ⟨V4, hV4⟩ : ∃ W4, W4 = (V3).drew := ⟨_, rfl⟩
  have e4 : ({ V3 with drawn := (V3).drawn + 1 } : World) = V4 := hV4.symm
  rw [e4]
  have hB4 : Below (V3).heap.size (V3) V4 := by rw [hV4]; exact (Below.refl _ _).drew
  have hS : (∀ j, V4.cell? ⟨eb, j, none⟩ = (#[.int .i64 0, .string ⟨#[65]⟩, .bool false, .string s, .int .i64 0, .slice none 0 0, .string ⟨#[]⟩, .bool false, .int .i64 0, .bool false, .pointer none, .pointer none] : Array Value)[j]?) ∧ (∀ j, V4.cell? ⟨cb, j, none⟩ = (#[.func (.func 24) #[.pointer (some ⟨tb, 0, none⟩)] #[], .func (.func 25) #[.pointer (some ⟨tb, 0, none⟩)] #[], .int .i64 rm, .int .i64 h, .int .i64 (m + 1), .map (some mb), .int .i64 0, .string ⟨#[]⟩, .bool false, .string ⟨#[]⟩, .int .i64 0, .slice none 0 0, .string ⟨#[]⟩, .bool false, .int .i64 0, .bool false, (lastP (ringP cb) L), (firstP cb L)] : Array Value)[j]?) := ⟨(cells_of ((hB4.block _ (heap_lt e3)).trans e3)).1, (cells_of ((hB4.block _ (heap_lt c3)).trans c3)).1⟩
  have HV4 : Hid (V4 = (V3).drew) := hV4
  clear e4 hV4
  refine wpAnyH_take (i := 0) (v := .pointer (some ⟨cb, 0, none⟩)) rfl (by kernel_rfl) (by kernel_rfl) (by kernel_rfl) (fun _ _ _ h => h) (Or.inl ⟨by rfl, ?r⟩) hS ?_
  case r => intro W hW; simp [go_sem, execOp, Act.eval]
  simp only [List.getElem_toArray, List.getElem_cons_zero, Act.put, List.setIfInBounds_toArray, List.set_cons_succ, List.set_cons_zero]
  refine wpAnyH_take (i := 1) (v := .pointer (some ⟨cb, 0, none⟩)) rfl (by kernel_rfl) (by kernel_rfl) (by kernel_rfl) (fun _ _ _ h => h) (Or.inl ⟨by rfl, ?r⟩) hS ?_
  case r => intro W hW; simp [go_sem, execOp, Act.eval]
  simp only [List.getElem_toArray, List.getElem_cons_zero, List.getElem_cons_succ, Act.put, List.setIfInBounds_toArray, List.set_cons_succ, List.set_cons_zero]
  refine wpAnyH_take (i := 2) (v := .pointer (some ⟨cb, 5, none⟩)) rfl (by kernel_rfl) (by kernel_rfl) (by kernel_rfl) (fun _ _ _ h => h) (Or.inl ⟨by rfl, ?r⟩) hS ?_
  case r => intro W hW; simp [go_sem, execOp, Act.eval]
  simp only [List.getElem_toArray, List.getElem_cons_zero, List.getElem_cons_succ, Act.put, List.setIfInBounds_toArray, List.set_cons_succ, List.set_cons_zero]
  refine wpAnyH_take (i := 3) (v := .map (some mb)) rfl (by kernel_rfl) (by kernel_rfl) (by kernel_rfl) (fun _ _ _ h => h) (Or.inl ⟨by rfl, ?r⟩) hS ?_
  case r => intro W hW; simp [go_sem, execOp, Act.eval, hW.2]
  simp only [List.getElem_toArray, List.getElem_cons_zero, List.getElem_cons_succ, Act.put, List.setIfInBounds_toArray, List.set_cons_succ, List.set_cons_zero]
  refine wpAnyH_take (i := 4) (v := .pointer (some ⟨eb, 0, none⟩)) rfl (by kernel_rfl) (by kernel_rfl) (by kernel_rfl) (fun _ _ _ h => h) (Or.inl ⟨by rfl, ?r⟩) hS ?_
  case r => intro W hW; simp [go_sem, execOp, Act.eval]
  simp only [List.getElem_toArray, List.getElem_cons_zero, List.getElem_cons_succ, Act.put, List.setIfInBounds_toArray, List.set_cons_succ, List.set_cons_zero]
  refine wpAnyH_take (i := 5) (v := .pointer (some ⟨eb, 0, none⟩)) rfl (by kernel_rfl) (by kernel_rfl) (by kernel_rfl) (fun _ _ _ h => h) (Or.inl ⟨by rfl, ?r⟩) hS ?_
  case r => intro W hW; simp [go_sem, execOp, Act.eval]
  simp only [List.getElem_toArray, List.getElem_cons_zero, List.getElem_cons_succ, Act.put, List.setIfInBounds_toArray, List.set_cons_succ, List.set_cons_zero]
  refine wpAnyH_take (i := 6) (v := .pointer (some ⟨eb, 0, none⟩)) rfl (by kernel_rfl) (by kernel_rfl) (by kernel_rfl) (fun _ _ _ h => h) (Or.inl ⟨by rfl, ?r⟩) hS ?_
  case r => intro W hW; simp [go_sem, execOp, Act.eval]
  simp only [List.getElem_toArray, List.getElem_cons_zero, List.getElem_cons_succ, Act.put, List.setIfInBounds_toArray, List.set_cons_succ, List.set_cons_zero]
  refine wpAnyH_take (i := 7) (v := .agg #[.int .i64 0, .string ⟨#[65]⟩, .bool false, .string s]) rfl (by kernel_rfl) (by kernel_rfl) (by kernel_rfl) (fun _ _ _ h => h) (Or.inl ⟨by rfl, ?r⟩) hS ?_
  case r => intro W hW; simp [go_sem, execOp, Act.eval, hW.1]
  simp only [List.getElem_toArray, List.getElem_cons_zero, List.getElem_cons_succ, Act.put, List.setIfInBounds_toArray, List.set_cons_succ, List.set_cons_zero]
  refine wpAnyH_take (i := 8) (v := .pointer (some ⟨eb, 0, none⟩)) rfl (by kernel_rfl) (by kernel_rfl) (by kernel_rfl) (fun _ _ _ h => h) (Or.inl ⟨by rfl, ?r⟩) hS ?_
  case r => intro W hW; simp [go_sem, execOp, Act.eval]
  simp only [List.getElem_toArray, List.getElem_cons_zero, List.getElem_cons_succ, Act.put, List.setIfInBounds_toArray, List.set_cons_succ, List.set_cons_zero]
  have z4 := hB4.size
  have c4 : V4.heap[cb]? = _ := (hB4.block _ (heap_lt c3)).trans c3
  have m4 : V4.heap[mb]? = _ := (hB4.block _ (heap_lt m3)).trans m3
  have e4 : V4.heap[eb]? = _ := (hB4.block _ (heap_lt e3)).trans e3
  have d4 := hB4
  clear HV4 hB4
  have hup := updQ m4 (ckQ s V4) (fk V4) (.pointer (some ⟨eb, 0, none⟩))
  simp only [qk] at hup
  obtain ⟨V5, hV5⟩ : ∃ W, W = ChangeMaps.setBlock V4 mb (.map ((ents D).toArray.push ⟨.agg #[.int .i64 0, .string ⟨#[65]⟩, .bool false, .string s], .pointer (some ⟨eb, 0, none⟩), k⟩) (k + 1)) := ⟨_, rfl⟩
  rw [← hV5] at hup
  have k5 : Kp (· = mb) V4 V5 := by rw [hV5]; exact Kp.setB _ _ _ rfl
  have m5 : V5.heap[mb]? = some (.map (ents (D ++ [(s, eb, k)])).toArray (k + 1)) := by
    have e : (ents (D ++ [(s, eb, k)])).toArray = (ents D).toArray.push ⟨.agg #[.int .i64 0, .string ⟨#[65]⟩, .bool false, .string s], .pointer (some ⟨eb, 0, none⟩), k⟩ := by simp [ents, qk]
    rw [hV5, e]; exact setBlock_same _ _ _ (heap_lt m4)
  clear hV5
  have z5 := k5.size
  have c5 : V5.heap[cb]? = _ := (k5.block _ (heap_lt c4) hmc.symm).trans c4
  have e5 : V5.heap[eb]? = _ := (k5.block _ (heap_lt e4) (by omega)).trans e4
  have hel := heap_lt e5
  refine wpAnyH_all (rs := [9]) (by kernel_rfl) (by simp) (fun i2 hi2 => ?_)
  obtain rfl : i2 = 9 := by simpa using hi2
  clear hi2
  refine wpOp_step rfl (fun K hK => ite_yes rfl ?_)
  simp only [List.getElem_toArray, List.getElem_cons_zero, List.getElem_cons_succ]
  go_simp
  have hSV5 : (∀ j, V5.cell? ⟨eb, j, none⟩ = (#[.int .i64 0, .string ⟨#[65]⟩, .bool false, .string s, .int .i64 0, .slice none 0 0, .string ⟨#[]⟩, .bool false, .int .i64 0, .bool false, .pointer none, .pointer none] : Array Value)[j]?) ∧ (∀ j, V5.cell? ⟨cb, j, none⟩ = (#[.func (.func 24) #[.pointer (some ⟨tb, 0, none⟩)] #[], .func (.func 25) #[.pointer (some ⟨tb, 0, none⟩)] #[], .int .i64 rm, .int .i64 h, .int .i64 (m + 1), .map (some mb), .int .i64 0, .string ⟨#[]⟩, .bool false, .string ⟨#[]⟩, .int .i64 0, .slice none 0 0, .string ⟨#[]⟩, .bool false, .int .i64 0, .bool false, (lastP (ringP cb) L), (firstP cb L)] : Array Value)[j]?) := ⟨(cells_of e5).1, (cells_of c5).1⟩
  refine hK _ _ ⟨hSV5, ?_⟩
  clear hK K hS hSV5 hup
  try simp only [Act.put, List.setIfInBounds_toArray, List.set_cons_succ, List.set_cons_zero]
  refine wpAnyH_done (by kernel_rfl) ?_ _
  refine NoPanic.normal ?_
  try simp only [Act.put]
  go_wp2_with fail
  have r5 : Ring V5 tb mb cb rm h (m + 1) L := ⟨c5, Row.kp k5 (Row.kp (Kp.of (S := fun _ => False) d4) (Row.kp (Kp.of (S := fun _ => False) k3) r2.row fun _ _ h => h) fun _ _ h => h) fun x hx => hmL x hx, hr.apart, hr.once⟩
  refine Calls.mono (ring_join (s := s) _ _ _ r5 e5 (by omega) hebL) ?_
  rintro _ V6 ⟨rfl, r6, k6⟩
  have z6 := k6.size
  have m6 : V6.heap[mb]? = some (.map (ents (D ++ [(s, eb, k)])).toArray (k + 1)) := (k6.block _ (heap_lt m5) (by rintro (h | h | ⟨x, hx, h⟩); exact hmc h; omega; exact hmL x hx h.symm)).trans m5
  have c6 : V6.heap[cb]? = some (.cells #[.func (.func 24) #[.pointer (some ⟨tb, 0, none⟩)] #[], .func (.func 25) #[.pointer (some ⟨tb, 0, none⟩)] #[], .int .i64 rm, .int .i64 h, .int .i64 (m + 1), .map (some mb), .int .i64 0, .string ⟨#[]⟩, .bool false, .string ⟨#[]⟩, .int .i64 0, .slice none 0 0, .string ⟨#[]⟩, .bool false, .int .i64 0, .bool false, (lastP (ringP cb) (L ++ [(s, eb)])), (firstP cb (L ++ [(s, eb)]))] 74) := r6.cache
  have hlen : (ents (D ++ [(s, eb, k)])).toArray.size = D.length + 1 := by simp [ents]
  go_wp2_with fail
  refine wp_region_noPanic ?_
  refine wp_region_held (S := fun W => (∀ j, W.cell? ⟨cb, j, none⟩ = (#[.func (.func 24) #[.pointer (some ⟨tb, 0, none⟩)] #[], .func (.func 25) #[.pointer (some ⟨tb, 0, none⟩)] #[], .int .i64 rm, .int .i64 h, .int .i64 (m + 1), .map (some mb), .int .i64 0, .string ⟨#[]⟩, .bool false, .string ⟨#[]⟩, .int .i64 0, .slice none 0 0, .string ⟨#[]⟩, .bool false, .int .i64 0, .bool false, (lastP (ringP cb) (L ++ [(s, eb)])), (firstP cb (L ++ [(s, eb)]))] : Array Value)[j]?) ∧ W.heap[mb]? = some (.map (ents (D ++ [(s, eb, k)])).toArray (k + 1))) (by kernel_rfl) ?_
  obtain ⟨V9, hV9⟩ : ∃ W4, W4 = (V6).drew := ⟨_, rfl⟩
  have e4 : ({ V6 with drawn := (V6).drawn + 1 } : World) = V9 := hV9.symm
  rw [e4]
  have hB4 : Below (V6).heap.size (V6) V9 := by rw [hV9]; exact (Below.refl _ _).drew
  have hS : (∀ j, V9.cell? ⟨cb, j, none⟩ = (#[.func (.func 24) #[.pointer (some ⟨tb, 0, none⟩)] #[], .func (.func 25) #[.pointer (some ⟨tb, 0, none⟩)] #[], .int .i64 rm, .int .i64 h, .int .i64 (m + 1), .map (some mb), .int .i64 0, .string ⟨#[]⟩, .bool false, .string ⟨#[]⟩, .int .i64 0, .slice none 0 0, .string ⟨#[]⟩, .bool false, .int .i64 0, .bool false, (lastP (ringP cb) (L ++ [(s, eb)])), (firstP cb (L ++ [(s, eb)]))] : Array Value)[j]?) ∧ V9.heap[mb]? = some (.map (ents (D ++ [(s, eb, k)])).toArray (k + 1)) := ⟨(cells_of ((hB4.block _ (heap_lt c6)).trans c6)).1, (hB4.block _ (heap_lt m6)).trans m6⟩
  have HV9 : Hid (V9 = (V6).drew) := hV9
  clear e4 hV9
  refine wpAnyH_take (i := 0) (v := .pointer (some ⟨cb, 0, none⟩)) rfl (by kernel_rfl) (by kernel_rfl) (by kernel_rfl) (fun _ _ _ h => h) (Or.inl ⟨by rfl, ?r⟩) hS ?_
  case r => intro W hW; simp [go_sem, execOp, Act.eval]
  simp only [List.getElem_toArray, List.getElem_cons_zero, Act.put, List.setIfInBounds_toArray, List.set_cons_succ, List.set_cons_zero]
  refine wpAnyH_take (i := 1) (v := .pointer (some ⟨cb, 0, none⟩)) rfl (by kernel_rfl) (by kernel_rfl) (by kernel_rfl) (fun _ _ _ h => h) (Or.inl ⟨by rfl, ?r⟩) hS ?_
  case r => intro W hW; simp [go_sem, execOp, Act.eval]
  simp only [List.getElem_toArray, List.getElem_cons_zero, List.getElem_cons_succ, Act.put, List.setIfInBounds_toArray, List.set_cons_succ, List.set_cons_zero]
  refine wpAnyH_take (i := 2) (v := .pointer (some ⟨cb, 5, none⟩)) rfl (by kernel_rfl) (by kernel_rfl) (by kernel_rfl) (fun _ _ _ h => h) (Or.inl ⟨by rfl, ?r⟩) hS ?_
  case r => intro W hW; simp [go_sem, execOp, Act.eval]
  simp only [List.getElem_toArray, List.getElem_cons_zero, List.getElem_cons_succ, Act.put, List.setIfInBounds_toArray, List.set_cons_succ, List.set_cons_zero]
  refine wpAnyH_take (i := 3) (v := .map (some mb)) rfl (by kernel_rfl) (by kernel_rfl) (by kernel_rfl) (fun _ _ _ h => h) (Or.inl ⟨by rfl, ?r⟩) hS ?_
  case r => intro W hW; simp [go_sem, execOp, Act.eval, hW.1]
  simp only [List.getElem_toArray, List.getElem_cons_zero, List.getElem_cons_succ, Act.put, List.setIfInBounds_toArray, List.set_cons_succ, List.set_cons_zero]
  refine wpAnyH_take (i := 4) (v := .int .i64 ((ents (D ++ [(s, eb, k)])).toArray.size : Int)) rfl (by kernel_rfl) (by kernel_rfl) (by kernel_rfl) (fun _ _ _ h => h) (Or.inl ⟨by rfl, ?r⟩) hS ?_
  case r => intro W hW; simp [go_sem, execOp, Act.eval, invoke, resolve, builtin, lenQ _ _ _ _ _ hW.2 (by omega)]
  simp only [List.getElem_toArray, List.getElem_cons_zero, List.getElem_cons_succ, Act.put, List.setIfInBounds_toArray, List.set_cons_succ, List.set_cons_zero]
  refine wpAnyH_take (i := 5) (v := .pointer (some ⟨cb, 0, none⟩)) rfl (by kernel_rfl) (by kernel_rfl) (by kernel_rfl) (fun _ _ _ h => h) (Or.inl ⟨by rfl, ?r⟩) hS ?_
  case r => intro W hW; simp [go_sem, execOp, Act.eval]
  simp only [List.getElem_toArray, List.getElem_cons_zero, List.getElem_cons_succ, Act.put, List.setIfInBounds_toArray, List.set_cons_succ, List.set_cons_zero]
  refine wpAnyH_take (i := 6) (v := .pointer (some ⟨cb, 0, none⟩)) rfl (by kernel_rfl) (by kernel_rfl) (by kernel_rfl) (fun _ _ _ h => h) (Or.inl ⟨by rfl, ?r⟩) hS ?_
  case r => intro W hW; simp [go_sem, execOp, Act.eval]
  simp only [List.getElem_toArray, List.getElem_cons_zero, List.getElem_cons_succ, Act.put, List.setIfInBounds_toArray, List.set_cons_succ, List.set_cons_zero]
  refine wpAnyH_take (i := 7) (v := .pointer (some ⟨cb, 2, none⟩)) rfl (by kernel_rfl) (by kernel_rfl) (by kernel_rfl) (fun _ _ _ h => h) (Or.inl ⟨by rfl, ?r⟩) hS ?_
  case r => intro W hW; simp [go_sem, execOp, Act.eval]
  simp only [List.getElem_toArray, List.getElem_cons_zero, List.getElem_cons_succ, Act.put, List.setIfInBounds_toArray, List.set_cons_succ, List.set_cons_zero]
  refine wpAnyH_take (i := 8) (v := .int .i64 rm) rfl (by kernel_rfl) (by kernel_rfl) (by kernel_rfl) (fun _ _ _ h => h) (Or.inl ⟨by rfl, ?r⟩) hS ?_
  case r => intro W hW; simp [go_sem, execOp, Act.eval, hW.1]
  simp only [List.getElem_toArray, List.getElem_cons_zero, List.getElem_cons_succ, Act.put, List.setIfInBounds_toArray, List.set_cons_succ, List.set_cons_zero]
  refine wpAnyH_take (i := 9) (v := .bool false) rfl (by kernel_rfl) (by kernel_rfl) (by kernel_rfl) (fun _ _ _ h => h) (Or.inl ⟨by rfl, ?r⟩) hS ?_
  case r => intro W hW; rw [hlen]; simp [go_sem, execOp, Act.eval]; omega
  simp only [List.getElem_toArray, List.getElem_cons_zero, List.getElem_cons_succ, Act.put, List.setIfInBounds_toArray, List.set_cons_succ, List.set_cons_zero]
  refine wpAnyH_done (by kernel_rfl) ?_ _
  refine NoPanic.normal ?_
  try simp only [Act.put]
  have z9 := hB4.size
  have c9 := (hB4.block _ (heap_lt c6)).trans c6
  have m9 := (hB4.block _ (heap_lt m6)).trans m6
  have r9 : Ring V9 tb mb cb rm h (m + 1) (L ++ [(s, eb)]) := ⟨c9, Row.kp (Kp.of (S := fun _ => False) hB4) r6.row fun _ _ h => h, r6.apart, r6.once⟩
  have kA : Kp (fun i => i = cb ∨ i = mb ∨ ∃ x ∈ L, i = x.2) w V9 := ((((((Kp.of w1).trans k2 fun _ _ h => Or.inl h).trans (Kp.of (S := fun _ => False) k3) fun _ _ h => h.elim).trans (Kp.of (S := fun _ => False) d4) fun _ _ h => h.elim).trans k5 fun _ _ h => Or.inr (Or.inl h)).trans k6 fun _ _ h => h.elim Or.inl fun h => h.elim (fun h => by omega) fun h => Or.inr (Or.inr h)).trans (Kp.of (S := fun _ => False) hB4) fun _ _ h => h.elim
  go_wp2_with fail
  go_ret
  exact ⟨eb, rfl, by omega, by omega, r9, m9, kA⟩

end Go.Proofs.YtaboeocgoocgfaaGreatDoor
