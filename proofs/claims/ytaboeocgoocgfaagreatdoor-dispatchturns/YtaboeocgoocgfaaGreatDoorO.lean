/-
  No struct type holds itself; sizes.
-/
import Derived.Test.YtaboeocgoocgfaaGreatDoorN
import Derived.Stop.Asserts
namespace Go.Proofs.YtaboeocgoocgfaaGreatDoor
open Go.RowKit Go.ChangeMaps Go.Extern

theorem fld2 (g cap pb : Nat) (W : World) : (Instr.field 106 (.agg #[.int .i64 8, .bool false, .slice (some ⟨g, 0, none⟩) 1 cap, .map (some pb)]) 2).run Tryz.prog W = .ok (.slice (some ⟨g, 0, none⟩) 1 cap) W := by kernel_rfl
theorem clone_run (M : Nat) (es : Array MapEntry) (clk : Nat) (w : World) (hM : w.heap[M]? = some (.map es clk)) : (MapsClone.clone #[.iface 57 (.map (some M))]).run Tryz.prog w = .ok (.iface 57 (.map (some w.heap.size))) (w.alloc (.map es clk)) := by
  have h := MapKept.run_getObj_map (P := Tryz.prog) hM
  have e : MapsClone.clone #[.iface 57 (.map (some M))] = (getObj M >>= fun o => match o with
      | .map entries clock => (newObj (.map entries clock) >>= fun n => pure (.iface 57 (.map (some n))))
      | _ => stuck "maps.clone: a map expected") := rfl
  rw [e]
  simp [h, Result.andThen]
set_option maxRecDepth 100000 in
set_option maxHeartbeats 4000000 in
theorem mapsClone_any (M : Nat) (es : Array MapEntry) (clk : Nat) (w : World) (hM : w.heap[M]? = some (.map es clk)) :
    Calls Tryz.prog 42 #[.map (some M)] w fun e w' => e = .returned (.map (some w.heap.size)) ∧ w' = w.alloc (.map es clk) := by
  have x69 := @run_callFunc_extern Tryz.prog 69 _ MapsClone.clone Tryz.func69 (by kernel_rfl) (by kernel_rfl) (by kernel_rfl) (by kernel_rfl)
  have hc := clone_run M es clk w hM
  have he : ∀ W, Sem.run Tryz.prog (binOp .eql 57 (.map (some M)) (.map none)) W = .ok (.bool false) W := fun W => by kernel_rfl
  have hta : ∀ W, Sem.run Tryz.prog (Instr.typeAssert (.iface 57 (.map (some w.heap.size))) 20 57 false) W = .ok (.map (some w.heap.size)) W := fun W => by kernel_rfl
  go_enter Tryz.func42, Tryz.ntmps42
  go_wp2_with fail
  go_ret
  exact ⟨rfl, rfl⟩

set_option maxRecDepth 100000 in
set_option maxHeartbeats 4000000 in
theorem within_none (mb EB : Nat) (v0 v1 v3 l : Value) (s : ByteArray) (w : World) (hm : w.heap[mb]? = some (.cells #[v0, v1, .map (some EB), v3] 62)) (hE : w.heap[EB]? = some (.map #[] 0)) :
    Calls Tryz.prog 41 #[.pointer (some ⟨mb, 0, none⟩), .string s, l] w fun e w' => e = .returned (.slice none 0 0) ∧ w' = w := by
  have mc := (cells_of hm).1
  have hl := look_no (P := Tryz.prog) (s := s) Tryz.underlying59 Tryz.underlying9 hE rfl (Tryz.zeroValue107 _) false
  go_enter Tryz.func41, Tryz.ntmps41
  go_wp2_with fail
  refine wp_loop_rounds 1 ?_
  rw [rounds_succ]
  go_wp2_with fail
  go_ret
  exact ⟨rfl, rfl⟩

set_option maxRecDepth 100000 in
set_option maxHeartbeats 4000000 in
theorem index_none (s : ByteArray) (w : World) :
    Calls Tryz.prog 68 #[.slice none 0 0, .string s] w fun e w' => e = .returned (.int .i64 (-1)) ∧ w' = w := by
  go_enter Tryz.func68, Tryz.ntmps68
  go_wp2_with fail
  refine wp_loop_rounds 1 ?_
  rw [rounds_succ]
  go_wp2_with fail
  go_ret
  exact ⟨rfl, rfl⟩

set_option maxRecDepth 100000 in
set_option maxHeartbeats 4000000 in
theorem contains_none (s : ByteArray) (w : World) :
    Calls Tryz.prog 40 #[.slice none 0 0, .string s] w fun e w' => e = .returned (.bool false) ∧ w' = w := by
  go_enter Tryz.func40, Tryz.ntmps40
  go_wp2_with fail
  refine Calls.mono (index_none _ _) ?_
  rintro _ _ ⟨rfl, rfl⟩
  go_wp2_with fail
  go_ret
  exact ⟨rfl, rfl⟩

set_option maxRecDepth 100000 in
set_option maxHeartbeats 4000000 in
theorem cycle_A (M mb EB MB : Nat) (es : Array MapEntry) (clk : Nat) (w : World) (hM : w.heap[M]? = some (.map es clk)) (hm : w.heap[mb]? = some (.cells #[.map (some M), .int .i64 1, .map (some EB), .map (some MB)] 62)) (KX : Nat) (hE : w.heap[EB]? = some (.map #[] 0)) :
    Calls Tryz.prog 22 #[.pointer (some ⟨mb, 0, none⟩), .agg #[.int .i64 3, .string ⟨#[65]⟩, .int .i64 0, .int .i64 0, .slice (some ⟨KX, 0, none⟩) 1 1]] w fun e w' => e = .returned .nilIface ∧ Below w.heap.size w w' := by
  have hMl := heap_lt hM
  have hml := heap_lt hm
  have hEl := heap_lt hE
  go_enter Tryz.func22, Tryz.ntmps22
  go_wp2_with fail
  obtain ⟨U0, hU0⟩ : ∃ W, W = w.alloc (.cells #[.int .i64 3, .string ⟨#[65]⟩, .int .i64 0, .int .i64 0, .slice (some ⟨KX, 0, none⟩) 1 1] 30) := ⟨_, rfl⟩
  rw [← hU0]
  have u0 : Below w.heap.size w U0 := by rw [hU0]; exact below1 w _
  have y0 : w.heap.size < U0.heap.size := by rw [hU0]; simp
  have hM0 : U0.heap[M]? = some (.map es clk) := (u0.block _ hMl).trans hM
  have hm0 : U0.heap[mb]? = _ := (u0.block _ hml).trans hm
  have hb0 : U0.heap[w.heap.size]? = some (.cells #[.int .i64 3, .string ⟨#[65]⟩, .int .i64 0, .int .i64 0, .slice (some ⟨KX, 0, none⟩) 1 1] 30) := by rw [hU0]; exact heap_new _ _ _ rfl
  clear hU0
  have hE0 : U0.heap[EB]? = some (.map #[] 0) := (u0.block _ hEl).trans hE
  refine wp_region_noPanic ?_
  refine wp_region_held (S := fun W => (∀ j, W.cell? ⟨w.heap.size, j, none⟩ = (#[.int .i64 3, .string ⟨#[65]⟩, .int .i64 0, .int .i64 0, .slice (some ⟨KX, 0, none⟩) 1 1] : Array Value)[j]?) ∧ (∀ j, W.cell? ⟨mb, j, none⟩ = (#[.map (some M), .int .i64 1, .map (some EB), .map (some MB)] : Array Value)[j]?) ∧ W.heap[M]? = some (.map es clk) ∧ W.heap[EB]? = some (.map #[] 0)) (by kernel_rfl) ?_
  obtain ⟨U1, hU1⟩ : ∃ W4, W4 = (U0).drew := ⟨_, rfl⟩
  have e4 : ({ U0 with drawn := (U0).drawn + 1 } : World) = U1 := hU1.symm
  rw [e4]
  have hB4 : Below (U0).heap.size (U0) U1 := by rw [hU1]; exact (Below.refl _ _).drew
  have hS : (∀ j, U1.cell? ⟨w.heap.size, j, none⟩ = (#[.int .i64 3, .string ⟨#[65]⟩, .int .i64 0, .int .i64 0, .slice (some ⟨KX, 0, none⟩) 1 1] : Array Value)[j]?) ∧ (∀ j, U1.cell? ⟨mb, j, none⟩ = (#[.map (some M), .int .i64 1, .map (some EB), .map (some MB)] : Array Value)[j]?) ∧ U1.heap[M]? = some (.map es clk) ∧ U1.heap[EB]? = some (.map #[] 0) := ⟨(cells_of ((hB4.block _ (by omega)).trans hb0)).1, (cells_of ((hB4.block _ (by omega)).trans hm0)).1, (hB4.block _ (by omega)).trans hM0, (hB4.block _ (by omega)).trans hE0⟩
  have HU1 : Hid (U1 = (U0).drew) := hU1
  clear e4 hU1
  refine wpAnyH_take (i := 0) (v := .pointer (some ⟨mb, 0, none⟩)) rfl (by kernel_rfl) (by kernel_rfl) (by kernel_rfl) (fun _ _ _ h => h) (Or.inl ⟨by rfl, ?r⟩) hS ?_
  case r => intro W hW; simp [go_sem, execOp, Act.eval]
  simp only [List.getElem_toArray, List.getElem_cons_zero, Act.put, List.setIfInBounds_toArray, List.set_cons_succ, List.set_cons_zero]
  refine wpAnyH_take (i := 1) (v := .pointer (some ⟨w.heap.size, 1, none⟩)) rfl (by kernel_rfl) (by kernel_rfl) (by kernel_rfl) (fun _ _ _ h => h) (Or.inl ⟨by rfl, ?r⟩) hS ?_
  case r => intro W hW; simp [go_sem, execOp, Act.eval]
  simp only [List.getElem_toArray, List.getElem_cons_zero, List.getElem_cons_succ, Act.put, List.setIfInBounds_toArray, List.set_cons_succ, List.set_cons_zero]
  refine wpAnyH_take (i := 2) (v := .string ⟨#[65]⟩) rfl (by kernel_rfl) (by kernel_rfl) (by kernel_rfl) (fun _ _ _ h => h) (Or.inl ⟨by rfl, ?r⟩) hS ?_
  case r => intro W hW; simp [go_sem, execOp, Act.eval, hW.1]
  simp only [List.getElem_toArray, List.getElem_cons_zero, List.getElem_cons_succ, Act.put, List.setIfInBounds_toArray, List.set_cons_succ, List.set_cons_zero]
  refine wpAnyH_take (i := 3) (v := .pointer (some ⟨mb, 0, none⟩)) rfl (by kernel_rfl) (by kernel_rfl) (by kernel_rfl) (fun _ _ _ h => h) (Or.inl ⟨by rfl, ?r⟩) hS ?_
  case r => intro W hW; simp [go_sem, execOp, Act.eval]
  simp only [List.getElem_toArray, List.getElem_cons_zero, List.getElem_cons_succ, Act.put, List.setIfInBounds_toArray, List.set_cons_succ, List.set_cons_zero]
  refine wpAnyH_take (i := 4) (v := .pointer (some ⟨mb, 0, none⟩)) rfl (by kernel_rfl) (by kernel_rfl) (by kernel_rfl) (fun _ _ _ h => h) (Or.inl ⟨by rfl, ?r⟩) hS ?_
  case r => intro W hW; simp [go_sem, execOp, Act.eval]
  simp only [List.getElem_toArray, List.getElem_cons_zero, List.getElem_cons_succ, Act.put, List.setIfInBounds_toArray, List.set_cons_succ, List.set_cons_zero]
  refine wpAnyH_take (i := 5) (v := .pointer (some ⟨mb, 0, none⟩)) rfl (by kernel_rfl) (by kernel_rfl) (by kernel_rfl) (fun _ _ _ h => h) (Or.inl ⟨by rfl, ?r⟩) hS ?_
  case r => intro W hW; simp [go_sem, execOp, Act.eval]
  simp only [List.getElem_toArray, List.getElem_cons_zero, List.getElem_cons_succ, Act.put, List.setIfInBounds_toArray, List.set_cons_succ, List.set_cons_zero]
  refine wpAnyH_take (i := 6) (v := .map (some M)) rfl (by kernel_rfl) (by kernel_rfl) (by kernel_rfl) (fun _ _ _ h => h) (Or.inl ⟨by rfl, ?r⟩) hS ?_
  case r => intro W hW; simp [go_sem, execOp, Act.eval, hW.2.1]
  simp only [List.getElem_toArray, List.getElem_cons_zero, List.getElem_cons_succ, Act.put, List.setIfInBounds_toArray, List.set_cons_succ, List.set_cons_zero]
  refine wpAnyH_take (i := 9) (v := .pointer (some ⟨w.heap.size, 1, none⟩)) rfl (by kernel_rfl) (by kernel_rfl) (by kernel_rfl) (fun _ _ _ h => h) (Or.inl ⟨by rfl, ?r⟩) hS ?_
  case r => intro W hW; simp [go_sem, execOp, Act.eval]
  simp only [List.getElem_toArray, List.getElem_cons_zero, List.getElem_cons_succ, Act.put, List.setIfInBounds_toArray, List.set_cons_succ, List.set_cons_zero]
  refine wpAnyH_take (i := 10) (v := .string ⟨#[65]⟩) rfl (by kernel_rfl) (by kernel_rfl) (by kernel_rfl) (fun _ _ _ h => h) (Or.inl ⟨by rfl, ?r⟩) hS ?_
  case r => intro W hW; simp [go_sem, execOp, Act.eval, hW.1]
  simp only [List.getElem_toArray, List.getElem_cons_zero, List.getElem_cons_succ, Act.put, List.setIfInBounds_toArray, List.set_cons_succ, List.set_cons_zero]
  have u1 : Below w.heap.size w U1 := u0.trans (hB4.mono (by omega))
  have y1 : w.heap.size < U1.heap.size := Nat.lt_of_lt_of_le y0 hB4.size
  have hM1 : U1.heap[M]? = some (.map es clk) := (hB4.block _ (by omega)).trans hM0
  have hm1 : U1.heap[mb]? = _ := (hB4.block _ (by omega)).trans hm0
  have hb1 : U1.heap[w.heap.size]? = _ := (hB4.block _ (by omega)).trans hb0
  have hE1 : U1.heap[EB]? = some (.map #[] 0) := (hB4.block _ (by omega)).trans hE0
  clear HU1 hB4
  refine wpAnyH_all (rs := [7]) (by kernel_rfl) (by simp) (fun i2 hi2 => ?_)
  obtain rfl : i2 = 7 := by simpa using hi2
  clear hi2
  refine wpOp_step rfl (fun K hK => ite_yes rfl ?_)
  simp only [List.getElem_toArray, List.getElem_cons_zero, List.getElem_cons_succ]
  go_simp
  refine (mapsClone_any M es clk _ hM1).mono ?_
  rintro r U2 ⟨rfl, hU2⟩
  have v2 : Below U1.heap.size U1 U2 := by rw [hU2]; exact below1 _ _
  have y2 : U1.heap.size < U2.heap.size := by rw [hU2]; simp
  clear hU2
  have hM2 : U2.heap[M]? = some (.map es clk) := (v2.block _ (by omega)).trans hM1
  have hm2 : U2.heap[mb]? = _ := (v2.block _ (by omega)).trans hm1
  have hb2 : U2.heap[w.heap.size]? = _ := (v2.block _ (by omega)).trans hb1
  have hE2 : U2.heap[EB]? = some (.map #[] 0) := (v2.block _ (by omega)).trans hE1
  go_simp
  have hSU2 : (∀ j, U2.cell? ⟨w.heap.size, j, none⟩ = (#[.int .i64 3, .string ⟨#[65]⟩, .int .i64 0, .int .i64 0, .slice (some ⟨KX, 0, none⟩) 1 1] : Array Value)[j]?) ∧ (∀ j, U2.cell? ⟨mb, j, none⟩ = (#[.map (some M), .int .i64 1, .map (some EB), .map (some MB)] : Array Value)[j]?) ∧ U2.heap[M]? = some (.map es clk) ∧ U2.heap[EB]? = some (.map #[] 0) := ⟨(cells_of hb2).1, (cells_of hm2).1, hM2, hE2⟩
  refine hK _ _ ⟨hSU2, ?_⟩
  clear hK K hS
  have hS := hSU2
  clear hSU2
  try simp only [Act.put, List.setIfInBounds_toArray, List.set_cons_succ, List.set_cons_zero]
  refine wpAnyH_all (rs := [8]) (by kernel_rfl) (by simp) (fun i2 hi2 => ?_)
  obtain rfl : i2 = 8 := by simpa using hi2
  clear hi2
  refine wpOp_step rfl (fun K hK => ite_yes rfl ?_)
  simp only [List.getElem_toArray, List.getElem_cons_zero, List.getElem_cons_succ]
  go_simp
  refine (within_none mb EB _ _ _ _ _ _ hm2 hE2).mono ?_
  rintro r _ ⟨rfl, rfl⟩
  go_simp
  refine hK _ _ ⟨hS, ?_⟩
  clear hK K
  try simp only [Act.put, List.setIfInBounds_toArray, List.set_cons_succ, List.set_cons_zero]
  refine wpAnyH_all (rs := [11]) (by kernel_rfl) (by simp) (fun i2 hi2 => ?_)
  obtain rfl : i2 = 11 := by simpa using hi2
  clear hi2
  refine wpOp_step rfl (fun K hK => ite_yes rfl ?_)
  simp only [List.getElem_toArray, List.getElem_cons_zero, List.getElem_cons_succ]
  go_simp
  refine (contains_none _ _).mono ?_
  rintro r _ ⟨rfl, rfl⟩
  go_simp
  refine hK _ _ ⟨hS, ?_⟩
  clear hK K
  try simp only [Act.put, List.setIfInBounds_toArray, List.set_cons_succ, List.set_cons_zero]
  refine wpAnyH_done (by kernel_rfl) ?_ _
  refine NoPanic.normal ?_
  try simp only [Act.put]
  go_wp2_with fail
  go_ret
  exact ⟨rfl, u1.trans (v2.mono (by omega))⟩

set_option maxRecDepth 100000 in
set_option maxHeartbeats 4000000 in
theorem room_A (M mb EB MB : Nat) (es : Array MapEntry) (clk : Nat) (w : World) (hM : w.heap[M]? = some (.map es clk)) (hm : w.heap[mb]? = some (.cells #[.map (some M), .int .i64 1, .map (some EB), .map (some MB)] 62)) (g cap pb ix lo : Nat) (hA : Instr.findNow .string (.string ⟨#[65]⟩) es.toList 0 = some (some (ix, shA g cap pb))) (hsh : ShA lo w g cap pb) :
    Calls Tryz.prog 43 #[.pointer (some ⟨mb, 0, none⟩), .string ⟨#[65]⟩, .int .i64 100] w fun e w' => e = .returned (.int .i64 98) ∧ Below w.heap.size w w' := by
  have hMl := heap_lt hM
  have hml := heap_lt hm
  have mc := (cells_of hm).1
  have hl := look_yes (P := Tryz.prog) Tryz.underlying57 Tryz.underlying9 hM hA false
  dsimp only [shA] at hl
  have hf := fld2 g cap pb
  have hg0 := hsh.name
  have hg1 := hsh.embed
  have hgl := hsh.ghi
  go_enter Tryz.func43, Tryz.ntmps43
  go_wp2_with fail
  refine wp_loop_rounds 2 ?_
  rw [rounds_succ]
  go_wp2_with fail
  rw [rounds_succ]
  go_wp2_with fail
  go_ret
  exact ⟨rfl, below1 w _⟩

set_option maxRecDepth 100000 in
set_option maxHeartbeats 4000000 in
theorem sum_A (M mb EB MB : Nat) (es : Array MapEntry) (clk : Nat) (w : World) (hM : w.heap[M]? = some (.map es clk)) (hm : w.heap[mb]? = some (.cells #[.map (some M), .int .i64 1, .map (some EB), .map (some MB)] 62)) (g cap pb ix lo : Nat) (hA : Instr.findNow .string (.string ⟨#[65]⟩) es.toList 0 = some (some (ix, shA g cap pb))) (hsh : ShA lo w g cap pb) (KX : Nat) :
    Calls Tryz.prog 23 #[.pointer (some ⟨mb, 0, none⟩), .agg #[.int .i64 3, .string ⟨#[65]⟩, .int .i64 0, .int .i64 0, .slice (some ⟨KX, 0, none⟩) 1 1]] w fun e w' => e = .returned .nilIface ∧ Below w.heap.size w w' := by
  have hMl := heap_lt hM
  have hml := heap_lt hm
  go_enter Tryz.func23, Tryz.ntmps23
  go_wp2_with fail
  refine Calls.mono (room_A M mb EB MB es clk _ ((heap_old _ _ _ hMl).trans hM) ((heap_old _ _ _ hml).trans hm) g cap pb ix lo hA (hsh.below (below1 w _))) ?_
  rintro _ w1 ⟨rfl, hb1⟩
  go_wp2_with fail
  go_ret
  exact ⟨rfl, (below1 w _).trans (hb1.mono (by simp))⟩

end Go.Proofs.YtaboeocgoocgfaaGreatDoor
