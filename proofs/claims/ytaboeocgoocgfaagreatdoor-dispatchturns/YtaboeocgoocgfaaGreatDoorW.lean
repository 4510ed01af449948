/-
  What a protocol wants; sorting one method.
-/
import Derived.Test.YtaboeocgoocgfaaGreatDoorV
import Derived.Maps.RangeRun
namespace Go.Proofs.YtaboeocgoocgfaaGreatDoor
open Go.RowKit Go.ChangeMaps

theorem range_run (b : Nat) (es : Array MapEntry) (clk : Nat) (w : World) (hb : w.heap[b]? = some (.map es clk)) : (Instr.range 104 (.map (some b))).run Tryz.prog w = .ok (.pointer (some ⟨w.heap.size, 0, none⟩)) (w.alloc (.mapIter (some b) clk #[] clk)) := by
  simp [Instr.range, run_underlying Tryz.underlying104, MapKept.run_getObj_map hb, Result.andThen]
theorem next_one (b r ty : Nat) (w : World) (hb : w.heap[b]? = some (.map #[⟨.string ⟨#[69, 114, 114, 111, 114]⟩, .agg #[.bool false, .int .i64 0, .bool false, .int .i64 0], 0⟩] 1)) (hr : w.heap[r]? = some (.mapIter (some b) 1 #[] 1)) :
    ∃ w', (Instr.next (.pointer (some ⟨r, 0, none⟩)) false ty).run Tryz.prog w = .ok (.tuple #[.bool true, .string ⟨#[69, 114, 114, 111, 114]⟩, .agg #[.bool false, .int .i64 0, .bool false, .int .i64 0]]) w' ∧ w'.heap[r]? = some (.mapIter (some b) 1 #[0] 1) ∧ Kp (· = r) w w' := by
  have hlt := heap_lt hr
  rcases run_next_at (P := Tryz.prog) w ty r b 1 1 #[] #[⟨.string ⟨#[69, 114, 114, 111, 114]⟩, .agg #[.bool false, .int .i64 0, .bool false, .int .i64 0], 0⟩] 1 hr hb (by simp) (Nat.le_refl _) with ⟨h0, _⟩ | ⟨e, he, w1, hw1, hrun⟩
  · simp [leftOf] at h0
  · have he' : e = ⟨.string ⟨#[69, 114, 114, 111, 114]⟩, .agg #[.bool false, .int .i64 0, .bool false, .int .i64 0], 0⟩ := by simpa [leftOf] using he
    subst he'
    refine ⟨_, hrun, ?_, ?_⟩
    · rcases hw1 with rfl | rfl
      · exact setBlock_same _ _ _ hlt
      · exact setBlock_same _ _ _ hlt
    · rcases hw1 with rfl | rfl
      · exact Kp.setB _ _ _ rfl
      · exact (Kp.of ((Below.refl _ w).drew)).trans (Kp.setB (S := (· = r)) _ _ _ rfl) fun _ _ h => h
theorem next_none (b r ty : Nat) (w : World) (hb : w.heap[b]? = some (.map #[⟨.string ⟨#[69, 114, 114, 111, 114]⟩, .agg #[.bool false, .int .i64 0, .bool false, .int .i64 0], 0⟩] 1)) (hr : w.heap[r]? = some (.mapIter (some b) 1 #[0] 1)) :
    (Instr.next (.pointer (some ⟨r, 0, none⟩)) false ty).run Tryz.prog w = .ok (.tuple #[.bool false]) w := by
  rcases run_next_at (P := Tryz.prog) w ty r b 1 1 #[0] #[⟨.string ⟨#[69, 114, 114, 111, 114]⟩, .agg #[.bool false, .int .i64 0, .bool false, .int .i64 0], 0⟩] 1 hr hb (by simp) (Nat.le_refl _) with ⟨_, h⟩ | ⟨e, he, _⟩
  · exact h
  · simp [leftOf] at he
theorem entry_one (b r : Nat) (w : World) (hb : w.heap[b]? = some (.map #[⟨.string ⟨#[69, 114, 114, 111, 114]⟩, .agg #[.bool false, .int .i64 0, .bool false, .int .i64 0], 0⟩] 1)) (hr : w.heap[r]? = some (.mapIter (some b) 1 #[0] 1)) :
    (Instr.entry (.pointer (some ⟨r, 0, none⟩))).run Tryz.prog w = .ok (.tuple #[.string ⟨#[69, 114, 114, 111, 114]⟩, .agg #[.bool false, .int .i64 0, .bool false, .int .i64 0]]) w :=
  run_entry_at (P := Tryz.prog) w r b 1 #[] #[⟨.string ⟨#[69, 114, 114, 111, 114]⟩, .agg #[.bool false, .int .i64 0, .bool false, .int .i64 0], 0⟩] 1 ⟨.string ⟨#[69, 114, 114, 111, 114]⟩, .agg #[.bool false, .int .i64 0, .bool false, .int .i64 0], 0⟩ hr hb (by simp) (by simp)
theorem info123 : (Tryz.prog.info? 123).map (fun i => (i.zero, i.size, i.bytes)) = some (some (.agg #[.string ⟨#[]⟩, .int .i64 0]), 2, 24) := by kernel_rfl
set_option maxRecDepth 100000 in
set_option maxHeartbeats 4000000 in
theorem len64_1 (w : World) :
    Calls Tryz.prog 115 #[.int .u64 1] w fun e w' => (∃ n : Int, e = .returned (.int .i64 n)) ∧ w' = w := by
  go_enter Tryz.func115, Tryz.ntmps115
  go_wp2
  go_ret
  exact ⟨⟨_, rfl⟩, rfl⟩

set_option maxRecDepth 100000 in
set_option maxHeartbeats 4000000 in
theorem len_1 (w : World) :
    Calls Tryz.prog 102 #[.int .u64 1] w fun e w' => (∃ n : Int, e = .returned (.int .i64 n)) ∧ w' = w := by
  go_enter Tryz.func102, Tryz.ntmps102
  go_wp2_with fail
  refine Calls.mono (len64_1 _) ?_
  rintro _ V ⟨⟨n, rfl⟩, hV⟩
  obtain rfl := hV.symm
  go_wp2_with fail
  go_ret
  exact ⟨⟨_, rfl⟩, rfl⟩

set_option maxRecDepth 100000 in
set_option maxHeartbeats 4000000 in
theorem insertion_1 (b c : Nat) (f : Value) (w : World) :
    Calls Tryz.prog 106 #[.slice (some ⟨b, 0, none⟩) 1 c, .int .i64 0, .int .i64 1, f] w fun e w' => e = .returned (.tuple #[]) ∧ w' = w := by
  go_enter Tryz.func106, Tryz.ntmps106
  go_wp2_with fail
  refine wp_loop_rounds 1 ?_
  rw [rounds_succ]
  go_wp2_with fail
  exact bodyPost_end (v := .tuple #[]) (results_none rfl _ _ _) rfl ⟨rfl, rfl⟩

set_option maxRecDepth 100000 in
set_option maxHeartbeats 4000000 in
theorem pdq_1 (b c : Nat) (n : Int) (f : Value) (w : World) :
    Calls Tryz.prog 101 #[.slice (some ⟨b, 0, none⟩) 1 c, .int .i64 0, .int .i64 1, .int .i64 n, f] w fun e w' => e = .returned (.tuple #[]) ∧ w' = w := by
  go_enter Tryz.func101, Tryz.ntmps101
  go_wp2_with fail
  refine wp_loop_rounds 1 ?_
  rw [rounds_succ]
  go_wp2_with fail
  refine Calls.mono (insertion_1 _ _ _ _) ?_
  rintro _ V ⟨rfl, hV⟩
  obtain rfl := hV.symm
  go_wp2_with fail
  exact bodyPost_ret (v := .tuple #[]) (results_none rfl _ _ _) rfl ⟨rfl, rfl⟩

set_option maxRecDepth 100000 in
set_option maxHeartbeats 4000000 in
theorem sortFunc_1 (b c : Nat) (f : Value) (w : World) :
    Calls Tryz.prog 86 #[.slice (some ⟨b, 0, none⟩) 1 c, f] w fun e w' => e = .returned (.tuple #[]) ∧ w' = w := by
  go_enter Tryz.func86, Tryz.ntmps86
  go_wp2_with fail
  refine Calls.mono (len_1 _) ?_
  rintro _ V ⟨⟨n, rfl⟩, hV⟩
  obtain rfl := hV.symm
  go_wp2_with fail
  refine Calls.mono (pdq_1 _ _ _ _ _) ?_
  rintro _ V ⟨rfl, hV⟩
  obtain rfl := hV.symm
  go_wp2_with fail
  exact bodyPost_end (v := .tuple #[]) (results_none rfl _ _ _) rfl ⟨rfl, rfl⟩

set_option maxRecDepth 100000 in
set_option maxHeartbeats 4000000 in
theorem sortMethods_1 (b c : Nat) (w : World) :
    Calls Tryz.prog 75 #[.slice (some ⟨b, 0, none⟩) 1 c] w fun e w' => e = .returned (.tuple #[]) ∧ w' = w := by
  go_enter Tryz.func75, Tryz.ntmps75
  go_wp2_with fail
  refine Calls.mono (sortFunc_1 _ _ _ _) ?_
  rintro _ V ⟨rfl, hV⟩
  obtain rfl := hV.symm
  go_wp2_with fail
  exact bodyPost_end (v := .tuple #[]) (results_none rfl _ _ _) rfl ⟨rfl, rfl⟩

def WantsP (w : World) (e : Ending) (w' : World) : Prop :=
  ∃ mg mc, e = .returned (.tuple #[.slice (some ⟨mg, 0, none⟩) 1 mc, .bool true]) ∧ w.heap.size ≤ mg ∧ mg < w'.heap.size ∧ 1 ≤ mc ∧ w'.cell? ⟨mg, 0, none⟩ = some (.string ⟨#[69, 114, 114, 111, 114]⟩) ∧ w'.cell? ⟨mg, 1, none⟩ = some (.int .i64 0) ∧ Below w.heap.size w w'
set_option maxRecDepth 100000 in
set_option maxHeartbeats 4000000 in
theorem wants_error (tb M g cap pb pe : Nat) (es : Array MapEntry) (clk : Nat) (w : World) (ht : TabAt w tb M g cap pb pe es clk) :
    Calls Tryz.prog 48 #[.pointer (some ⟨tb, 0, none⟩), .string ⟨#[101, 114, 114, 111, 114]⟩] w (WantsP w) := by
  have hl := ht.lts
  have tc := (cells_of ht.tab).1
  have hlk := look_yes (P := Tryz.prog) Tryz.underlying57 Tryz.underlying9 ht.map ht.fE true
  have hrg := range_run pe _ _ (w.alloc (.cells #[.int .i64 0, .bool true, .slice none 0 0, .map (some pe)] 106)) ((heap_old _ _ _ hl.2.2.2.2).trans ht.pe)
  go_enter Tryz.func48, Tryz.ntmps48
  go_wp2_with fail
  obtain ⟨Z1, hZ1⟩ : ∃ W, W = (w.alloc (.cells #[.int .i64 0, .bool true, .slice none 0 0, .map (some pe)] 106)).alloc (.mapIter (some pe) 1 #[] 1) := ⟨_, rfl⟩
  rw [← hZ1]
  have u1 : Below w.heap.size w Z1 := by rw [hZ1]; exact below2 w _ _
  have y1 : w.heap.size + 1 < Z1.heap.size := by rw [hZ1]; simp
  have r1 : Z1.heap[w.heap.size + 1]? = some (.mapIter (some pe) 1 #[] 1) := by rw [hZ1]; exact heap_new _ _ _ (by simp)
  clear hZ1 hrg hlk
  have m1 : Z1.heap[pe]? = _ := (u1.block _ hl.2.2.2.2).trans ht.pe
  obtain ⟨Z2, hn2, r2, k2⟩ := next_one pe (w.heap.size + 1) 0 Z1 m1 r1
  have hn2 : ∀ ty, (Instr.next (.pointer (some ⟨w.heap.size + 1, 0, none⟩)) false ty).run Tryz.prog Z1 = .ok (.tuple #[.bool true, .string ⟨#[69, 114, 114, 111, 114]⟩, .agg #[.bool false, .int .i64 0, .bool false, .int .i64 0]]) Z2 := fun ty => hn2
  have y2 := k2.size
  have m2 : Z2.heap[pe]? = _ := (k2.block _ (by omega) (by omega)).trans m1
  have he2 := entry_one pe (w.heap.size + 1) Z2 m2 r2
  refine wp_loop_rounds 2 ?_
  rw [rounds_succ]
  go_wp2_with fail
  obtain ⟨Z3, hZ3⟩ : ∃ W, W = Z2.alloc (.cells #[.bool false, .int .i64 0, .bool false, .int .i64 0] 103) := ⟨_, rfl⟩
  rw [← hZ3]
  have u3 : Below Z2.heap.size Z2 Z3 := by rw [hZ3]; exact below1 _ _
  have y3 : Z2.heap.size < Z3.heap.size := by rw [hZ3]; simp
  have p3 : Z3.heap[Z2.heap.size]? = some (.cells #[.bool false, .int .i64 0, .bool false, .int .i64 0] 103) := by rw [hZ3]; exact heap_new _ _ _ rfl
  clear hZ3 hn2 he2
  have r3 : Z3.heap[w.heap.size + 1]? = _ := (u3.block _ (by omega)).trans r2
  have m3 : Z3.heap[pe]? = _ := (u3.block _ (by omega)).trans m2
  refine wp_region_noPanic ?_
  refine wp_region_held (S := fun W => (∀ j, W.cell? ⟨Z2.heap.size, j, none⟩ = (#[.bool false, .int .i64 0, .bool false, .int .i64 0] : Array Value)[j]?)) (by kernel_rfl) ?_
  obtain ⟨Z4, hZ4⟩ : ∃ W4, W4 = (Z3).drew := ⟨_, rfl⟩
  have e4 : ({ Z3 with drawn := (Z3).drawn + 1 } : World) = Z4 := hZ4.symm
  rw [e4]
  have hB4 : Below (Z3).heap.size (Z3) Z4 := by rw [hZ4]; exact (Below.refl _ _).drew
  have hS : (∀ j, Z4.cell? ⟨Z2.heap.size, j, none⟩ = (#[.bool false, .int .i64 0, .bool false, .int .i64 0] : Array Value)[j]?) := (cells_of ((hB4.block _ (by omega)).trans p3)).1
  have HZ4 : Hid (Z4 = (Z3).drew) := hZ4
  clear e4 hZ4
  refine wpAnyH_take (i := 0) (v := .slice none 0 0) rfl (by kernel_rfl) (by kernel_rfl) (by kernel_rfl) (fun _ _ _ h => h) (Or.inl ⟨by rfl, ?r⟩) hS ?_
  case r => intro W hW; simp [go_sem, execOp, Act.eval]
  simp only [List.getElem_toArray, List.getElem_cons_zero, Act.put, List.setIfInBounds_toArray, List.set_cons_succ, List.set_cons_zero]
  refine wpAnyH_take (i := 1) (v := .string ⟨#[69, 114, 114, 111, 114]⟩) rfl (by kernel_rfl) (by kernel_rfl) (by kernel_rfl) (fun _ _ _ h => h) (Or.inl ⟨by rfl, ?r⟩) hS ?_
  case r => intro W hW; simp [go_sem, execOp, Act.eval]
  simp only [List.getElem_toArray, List.getElem_cons_zero, List.getElem_cons_succ, Act.put, List.setIfInBounds_toArray, List.set_cons_succ, List.set_cons_zero]
  refine wpAnyH_take (i := 3) (v := .pointer (some ⟨Z2.heap.size, 3, none⟩)) rfl (by kernel_rfl) (by kernel_rfl) (by kernel_rfl) (fun _ _ _ h => h) (Or.inl ⟨by rfl, ?r⟩) hS ?_
  case r => intro W hW; simp [go_sem, execOp, Act.eval]
  simp only [List.getElem_toArray, List.getElem_cons_zero, List.getElem_cons_succ, Act.put, List.setIfInBounds_toArray, List.set_cons_succ, List.set_cons_zero]
  refine wpAnyH_take (i := 4) (v := .int .i64 0) rfl (by kernel_rfl) (by kernel_rfl) (by kernel_rfl) (fun _ _ _ h => h) (Or.inl ⟨by rfl, ?r⟩) hS ?_
  case r => intro W hW; simp [go_sem, execOp, Act.eval, hW]
  simp only [List.getElem_toArray, List.getElem_cons_zero, List.getElem_cons_succ, Act.put, List.setIfInBounds_toArray, List.set_cons_succ, List.set_cons_zero]
  have y4 := hB4.size
  have pZ4 : Z4.heap[Z2.heap.size]? = _ := (hB4.block _ (by omega)).trans p3
  have r4 : Z4.heap[w.heap.size + 1]? = _ := (hB4.block _ (by omega)).trans r3
  have m4 : Z4.heap[pe]? = _ := (hB4.block _ (by omega)).trans m3
  have u4 := hB4
  clear HZ4 hB4
  refine wpAnyH_all (rs := [2]) (by kernel_rfl) (by simp) (fun i2 hi2 => ?_)
  obtain rfl : i2 = 2 := by simpa using hi2
  clear hi2
  refine wpOp_step rfl (fun K hK => ite_yes rfl ?_)
  simp only [List.getElem_toArray, List.getElem_cons_zero, List.getElem_cons_succ]
  go_simp
  refine (clone_any _ _ (by decide)).mono ?_
  rintro r Z5 ⟨rfl, u5⟩
  have y5 := u5.size
  have pZ5 : Z5.heap[Z2.heap.size]? = _ := (u5.block _ (by omega)).trans pZ4
  go_simp
  have hSZ5 : (∀ j, Z5.cell? ⟨Z2.heap.size, j, none⟩ = (#[.bool false, .int .i64 0, .bool false, .int .i64 0] : Array Value)[j]?) := (cells_of pZ5).1
  refine hK _ _ ⟨hSZ5, ?_⟩
  clear hK K hS
  have hS := hSZ5
  clear hSZ5
  try simp only [Act.put, List.setIfInBounds_toArray, List.set_cons_succ, List.set_cons_zero]
  refine wpAnyH_take (i := 5) (v := .agg #[.string ⟨#[69, 114, 114, 111, 114]⟩, .int .i64 0]) rfl (by kernel_rfl) (by kernel_rfl) (by kernel_rfl) (fun _ _ _ h => h) (Or.inl ⟨by rfl, ?r⟩) hS ?_
  case r => intro W hW; simp [go_sem, execOp, Act.eval]
  simp only [List.getElem_toArray, List.getElem_cons_zero, List.getElem_cons_succ, Act.put, List.setIfInBounds_toArray, List.set_cons_succ, List.set_cons_zero]
  refine wpAnyH_all (rs := [6]) (by kernel_rfl) (by simp) (fun i2 hi2 => ?_)
  obtain rfl : i2 = 6 := by simpa using hi2
  clear hi2
  refine wpOp_step rfl (fun K hK => ite_yes rfl ?_)
  simp only [List.getElem_toArray, List.getElem_cons_zero, List.getElem_cons_succ]
  go_simp
  obtain ⟨Z6, hZ6⟩ : ∃ W, W = Z5.alloc (.cells #[.string ⟨#[69, 114, 114, 111, 114]⟩, .int .i64 0] 123) := ⟨_, rfl⟩
  rw [← hZ6]
  have u6 : Below Z5.heap.size Z5 Z6 := by rw [hZ6]; exact below1 _ _
  have y6 : Z5.heap.size < Z6.heap.size := by rw [hZ6]; simp
  have n6 : Z6.heap[Z5.heap.size]? = some (.cells #[.string ⟨#[69, 114, 114, 111, 114]⟩, .int .i64 0] 123) := by rw [hZ6]; exact heap_new _ _ _ rfl
  clear hZ6
  have pZ6 : Z6.heap[Z2.heap.size]? = _ := (u6.block _ (by omega)).trans pZ5
  have hSZ6 : (∀ j, Z6.cell? ⟨Z2.heap.size, j, none⟩ = (#[.bool false, .int .i64 0, .bool false, .int .i64 0] : Array Value)[j]?) := (cells_of pZ6).1
  refine hK _ _ ⟨hSZ6, ?_⟩
  clear hK K hS
  have hS := hSZ6
  clear hSZ6
  try simp only [Act.put, List.setIfInBounds_toArray, List.set_cons_succ, List.set_cons_zero]
  refine wpAnyH_all (rs := [7]) (by kernel_rfl) (by simp) (fun i2 hi2 => ?_)
  obtain rfl : i2 = 7 := by simpa using hi2
  clear hi2
  refine wpOp_step rfl (fun K hK => ite_yes rfl ?_)
  simp only [List.getElem_toArray, List.getElem_cons_zero, List.getElem_cons_succ]
  obtain ⟨i0, hi, hz0, hz1, hz2⟩ := info_parts info123
  refine wp_append_own Z6 _ _ 119 rfl Z6.heap.size 123 i0 (.agg #[.string ⟨#[]⟩, .int .i64 0]) 2 24 Tryz.underlying119 hi hz0 hz1 hz2 rfl (by decide) _ 0 [] rfl (World.ownsRow_nil _ _ _ _) ⟨Z5.heap.size, 0, none⟩ 1 1 [.string ⟨#[69, 114, 114, 111, 114]⟩, .int .i64 0] rfl rfl (fun j u hj => by rw [add_at, (cells_of n6).1 j, ← hj]; simp) (by intro u hu; simp at hu; rcases hu with rfl | rfl <;> rfl) (by decide) (by decide) (Nat.le_refl _) ?_
  intro v' Z7 hown hgr hnil
  obtain ⟨mg, mc, rfl, hglo, hghi, u7, hrow⟩ := new_row hown hgr (fun e => by simpa using hnil.1 e)
  have hmc : 1 ≤ mc := by
    rcases hown.2 with ⟨h0, _⟩ | ⟨g', cap', cur, h1, h2, h3, h4, h5, h6, h7⟩
    · cases h0
    · cases h1; exact h4
  clear hown hgr hnil i0 hi hz0 hz1 hz2
  have g0 := (hrow 0 _ rfl).1
  have g1 := (hrow 1 _ rfl).1
  have y7 := u7.size
  have pZ7 : Z7.heap[Z2.heap.size]? = _ := (u7.block _ (by omega)).trans pZ6
  have hSZ7 : (∀ j, Z7.cell? ⟨Z2.heap.size, j, none⟩ = (#[.bool false, .int .i64 0, .bool false, .int .i64 0] : Array Value)[j]?) := (cells_of pZ7).1
  refine hK _ _ ⟨hSZ7, ?_⟩
  clear hK K hS
  have hS := hSZ7
  clear hSZ7
  try simp only [Act.put, List.setIfInBounds_toArray, List.set_cons_succ, List.set_cons_zero]
  refine wpAnyH_take (i := 8) (v := .slice (some ⟨mg, 0, none⟩) 1 mc) rfl (by kernel_rfl) (by kernel_rfl) (by kernel_rfl) (fun _ _ _ h => h) (Or.inl ⟨by rfl, ?r⟩) hS ?_
  case r => intro W hW; simp [go_sem, execOp, Act.eval]
  simp only [List.getElem_toArray, List.getElem_cons_zero, List.getElem_cons_succ, Act.put, List.setIfInBounds_toArray, List.set_cons_succ, List.set_cons_zero]
  refine wpAnyH_done (by kernel_rfl) ?_ _
  refine NoPanic.normal ?_
  try simp only [Act.put]
  have r7 : Z7.heap[w.heap.size + 1]? = _ := (u7.block _ (by omega)).trans ((u6.block _ (by omega)).trans ((u5.block _ (by omega)).trans r4))
  have m7 : Z7.heap[pe]? = _ := (u7.block _ (by omega)).trans ((u6.block _ (by omega)).trans ((u5.block _ (by omega)).trans m4))
  have hn7 : ∀ ty, _ := fun ty => next_none pe (w.heap.size + 1) ty Z7 m7 r7
  go_wp2_with fail
  rw [rounds_succ]
  go_wp2_with fail
  refine Calls.mono (sortMethods_1 _ _ _) ?_
  rintro _ V ⟨rfl, hV⟩
  obtain rfl := hV.symm
  go_wp2_with fail
  go_ret2
  refine ⟨mg, mc, rfl, by omega, by omega, hmc, g0, g1, ?_⟩
  exact u1.trans ((k2.below (by omega) fun i hi h => by omega).trans ((u3.mono (by omega)).trans ((u4.mono (by omega)).trans ((u5.mono (by omega)).trans ((u6.mono (by omega)).trans (u7.mono (by omega)))))))

end Go.Proofs.YtaboeocgoocgfaaGreatDoor
