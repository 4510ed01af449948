/-
  types.Find and types.Lacks at the type A.
-/
import Derived.Test.YtaboeocgoocgfaaGreatDoorW
namespace Go.Proofs.YtaboeocgoocgfaaGreatDoor
open Go.RowKit Go.ChangeMaps

theorem kp_five {w : World} {b t : Nat} {v0 v1 v2 v3 v4 x0 x1 x2 x3 x4 : Value} (h : w.heap[b]? = some (.cells #[v0, v1, v2, v3, v4] t)) :
    (((((w.setCell ⟨b, 0, none⟩ x0).setCell ⟨b, 1, none⟩ x1).setCell ⟨b, 2, none⟩ x2).setCell ⟨b, 3, none⟩ x3).setCell ⟨b, 4, none⟩ x4).heap[b]? = some (.cells #[x0, x1, x2, x3, x4] t) :=
  heap_set (heap_set (heap_set (heap_set (heap_set h 0 _) 1 _) 2 _) 3 _) 4 _
set_option maxRecDepth 100000 in
set_option maxHeartbeats 4000000 in
theorem isType_A (tb M g cap pb pe : Nat) (es : Array MapEntry) (clk : Nat) (p : Bool) (w : World) (ht : TabAt w tb M g cap pb pe es clk) :
    Calls Tryz.prog 45 #[.pointer (some ⟨tb, 0, none⟩), .string ⟨#[65]⟩, .bool p] w fun e w' => e = .returned (.bool true) ∧ w' = w := by
  have tc := (cells_of ht.tab).1
  have hlk := look_yes (P := Tryz.prog) Tryz.underlying57 Tryz.underlying9 ht.map ht.fA false
  dsimp only [shA] at hlk
  have hf := fld0 g cap pb
  go_enter Tryz.func45, Tryz.ntmps45
  go_wp2_with fail
  go_ret
  exact ⟨rfl, rfl⟩

set_option maxRecDepth 100000 in
set_option maxHeartbeats 4000000 in
theorem levels_A (tb : Nat) (w : World) :
    Calls Tryz.prog 47 #[.pointer (some ⟨tb, 0, none⟩), .string ⟨#[65]⟩] w fun e w' => e = .returned (.func (.func 73) #[] #[.pointer (some ⟨w.heap.size + 1, 0, none⟩), .pointer (some ⟨w.heap.size, 0, none⟩)]) ∧ w' = (w.alloc (.cells #[.pointer (some ⟨tb, 0, none⟩)] 23)).alloc (.cells #[.string ⟨#[65]⟩] 9) := by
  go_enter Tryz.func47, Tryz.ntmps47
  go_wp2_with fail
  go_ret
  exact ⟨rfl, rfl⟩

set_option maxRecDepth 100000 in
set_option maxHeartbeats 4000000 in
theorem Find_X (tb M g cap pb pe : Nat) (es : Array MapEntry) (clk : Nat) (p : Bool) (w : World) (ht : TabAt w tb M g cap pb pe es clk) :
    Calls Tryz.prog 24 #[.pointer (some ⟨tb, 0, none⟩), .string ⟨#[65]⟩, .bool p, .string ⟨#[120]⟩] w fun e w' => FndX w.heap.size e w' ∧ Below w.heap.size w w' := by
  go_enter Tryz.func24, Tryz.ntmps24
  go_wp2_with fail
  refine Calls.mono (isType_A tb M g cap pb pe es clk p _ (ht.below (below1 w _))) ?_
  rintro _ V ⟨rfl, hV⟩
  subst hV
  go_wp2_with fail
  refine Calls.mono (levels_A _ _) ?_
  rintro _ V ⟨rfl, hV⟩
  simp only [World.size_alloc] at hV ⊢
  have u3 : Below w.heap.size w V := by rw [hV]; exact below3 w _ _ _
  have r3 : V.heap[w.heap.size]? = some (.cells #[.int .i64 0, .slice none 0 0, .string ⟨#[]⟩, .bool false, .int .i64 0] 50) := by rw [hV, heap_old _ _ _ (by simp <;> omega), heap_old _ _ _ (by simp)]; exact heap_new _ _ _ rfl
  have c3 : V.heap[w.heap.size + 1]? = some (.cells #[.pointer (some ⟨tb, 0, none⟩)] 23) := by rw [hV, heap_old _ _ _ (by simp)]; exact heap_new _ _ _ (by simp)
  have n3 : V.heap[w.heap.size + 1 + 1]? = some (.cells #[.string ⟨#[65]⟩] 9) := by rw [hV]; exact heap_new _ _ _ (by simp)
  have y3 : w.heap.size + 2 < V.heap.size := by rw [hV]; simp
  clear hV
  have t3 := ht.below u3
  go_wp2_with fail
  refine Calls.mono (find_X tb M g cap pb pe es clk (w.heap.size + 1 + 1) (w.heap.size + 1) p _ t3 n3 c3) ?_
  rintro _ V4 ⟨⟨pg, pc, rfl, hp1, hp2, hp3, hp4⟩, u4⟩
  have y4 := u4.size
  have r4 : V4.heap[w.heap.size]? = some (.cells #[.int .i64 0, .slice none 0 0, .string ⟨#[]⟩, .bool false, .int .i64 0] 50) := (u4.block _ (by omega)).trans r3
  obtain ⟨rc4, rf4⟩ := cells_of r4
  go_wp2_with fail
  obtain ⟨V5, hV5⟩ : ∃ W, W = ((((V4.setCell ⟨w.heap.size, 0, none⟩ (.int .i64 1)).setCell ⟨w.heap.size, 1, none⟩ (.slice (some ⟨pg, 0, none⟩) 1 pc)).setCell ⟨w.heap.size, 2, none⟩ (.string ⟨#[]⟩)).setCell ⟨w.heap.size, 3, none⟩ (.bool false)).setCell ⟨w.heap.size, 4, none⟩ (.int .i64 0) := ⟨_, rfl⟩
  rw [← hV5]
  have k5 : Kp (· = w.heap.size) V4 V5 := by rw [hV5]; exact kp_set5 _ _ _ _ _ _ _
  have r5 : V5.heap[w.heap.size]? = some (.cells #[.int .i64 1, .slice (some ⟨pg, 0, none⟩) 1 pc, .string ⟨#[]⟩, .bool false, .int .i64 0] 50) := by rw [hV5]; exact kp_five r4
  clear hV5
  have y5 := k5.size
  have rc5 := (cells_of r5).1
  have u5 : Below w.heap.size w V5 := u3.trans ((u4.mono (by omega)).trans (k5.below (by omega) fun i hi h => by omega))
  exact bodyPost_ret (v := fndX pg pc) (by simp [results, Tryz.results24, go_sem, rc5]) rfl ⟨⟨pg, pc, rfl, by omega, by omega, hp3, (k5.cell hp2 (by omega)).trans hp4⟩, u5⟩

set_option maxRecDepth 100000 in
set_option maxHeartbeats 4000000 in
theorem Find_no (tb M g cap pb pe : Nat) (es : Array MapEntry) (clk : Nat) (p : Bool) (s : ByteArray) (w : World) (ht : TabAt w tb M g cap pb pe es clk) (hno : Instr.findNow .string (.string s) (#[⟨.string ⟨#[120]⟩, .agg #[.bool true, .int .i64 0, .bool false, .int .i64 0], 0⟩] : Array MapEntry).toList 0 = some none) :
    Calls Tryz.prog 24 #[.pointer (some ⟨tb, 0, none⟩), .string ⟨#[65]⟩, .bool p, .string s] w fun e w' => e = .returned (.agg #[.int .i64 0, .slice none 0 0, .string ⟨#[]⟩, .bool false, .int .i64 0]) ∧ Below w.heap.size w w' := by
  go_enter Tryz.func24, Tryz.ntmps24
  go_wp2_with fail
  refine Calls.mono (isType_A tb M g cap pb pe es clk p _ (ht.below (below1 w _))) ?_
  rintro _ V ⟨rfl, hV⟩
  subst hV
  go_wp2_with fail
  refine Calls.mono (levels_A _ _) ?_
  rintro _ V ⟨rfl, hV⟩
  simp only [World.size_alloc] at hV ⊢
  have u3 : Below w.heap.size w V := by rw [hV]; exact below3 w _ _ _
  have r3 : V.heap[w.heap.size]? = some (.cells #[.int .i64 0, .slice none 0 0, .string ⟨#[]⟩, .bool false, .int .i64 0] 50) := by rw [hV, heap_old _ _ _ (by simp <;> omega), heap_old _ _ _ (by simp)]; exact heap_new _ _ _ rfl
  have c3 : V.heap[w.heap.size + 1]? = some (.cells #[.pointer (some ⟨tb, 0, none⟩)] 23) := by rw [hV, heap_old _ _ _ (by simp)]; exact heap_new _ _ _ (by simp)
  have n3 : V.heap[w.heap.size + 1 + 1]? = some (.cells #[.string ⟨#[65]⟩] 9) := by rw [hV]; exact heap_new _ _ _ (by simp)
  have y3 : w.heap.size + 2 < V.heap.size := by rw [hV]; simp
  clear hV
  have t3 := ht.below u3
  go_wp2_with fail
  refine Calls.mono (find_no tb M g cap pb pe es clk (w.heap.size + 1 + 1) (w.heap.size + 1) p s _ t3 n3 c3 hno) ?_
  rintro _ V4 ⟨rfl, u4⟩
  have y4 := u4.size
  have r4 : V4.heap[w.heap.size]? = some (.cells #[.int .i64 0, .slice none 0 0, .string ⟨#[]⟩, .bool false, .int .i64 0] 50) := (u4.block _ (by omega)).trans r3
  obtain ⟨rc4, rf4⟩ := cells_of r4
  go_wp2_with fail
  obtain ⟨V5, hV5⟩ : ∃ W, W = ((((V4.setCell ⟨w.heap.size, 0, none⟩ (.int .i64 0)).setCell ⟨w.heap.size, 1, none⟩ (.slice none 0 0)).setCell ⟨w.heap.size, 2, none⟩ (.string ⟨#[]⟩)).setCell ⟨w.heap.size, 3, none⟩ (.bool false)).setCell ⟨w.heap.size, 4, none⟩ (.int .i64 0) := ⟨_, rfl⟩
  rw [← hV5]
  have k5 : Kp (· = w.heap.size) V4 V5 := by rw [hV5]; exact kp_set5 _ _ _ _ _ _ _
  have r5 : V5.heap[w.heap.size]? = some (.cells #[.int .i64 0, .slice none 0 0, .string ⟨#[]⟩, .bool false, .int .i64 0] 50) := by rw [hV5]; exact kp_five r4
  clear hV5
  have y5 := k5.size
  have rc5 := (cells_of r5).1
  have u5 : Below w.heap.size w V5 := u3.trans ((u4.mono (by omega)).trans (k5.below (by omega) fun i hi h => by omega))
  exact bodyPost_ret (v := .agg #[.int .i64 0, .slice none 0 0, .string ⟨#[]⟩, .bool false, .int .i64 0]) (by simp [results, Tryz.results24, go_sem, rc5]) rfl ⟨rfl, u5⟩

set_option maxRecDepth 100000 in
set_option maxHeartbeats 4000000 in
theorem isMethod_0 (w : World) :
    Calls Tryz.prog 49 #[.agg #[.int .i64 0, .slice none 0 0, .string ⟨#[]⟩, .bool false, .int .i64 0]] w fun e w' => e = .returned (.bool false) ∧ Below w.heap.size w w' := by
  go_enter Tryz.func49, Tryz.ntmps49
  go_wp2_with fail
  go_ret
  exact ⟨rfl, below1 w _⟩

set_option maxRecDepth 100000 in
set_option maxHeartbeats 4000000 in
theorem Lacks_error (tb M g cap pb pe : Nat) (es : Array MapEntry) (clk : Nat) (p : Bool) (w : World) (ht : TabAt w tb M g cap pb pe es clk) :
    Calls Tryz.prog 25 #[.pointer (some ⟨tb, 0, none⟩), .string ⟨#[65]⟩, .bool p, .string ⟨#[101, 114, 114, 111, 114]⟩] w fun e w' => e = .returned (.tuple #[.string ⟨#[69, 114, 114, 111, 114]⟩, .bool true]) ∧ Below w.heap.size w w' := by
  go_enter Tryz.func25, Tryz.ntmps25
  go_wp2_with fail
  refine Calls.mono (wants_error tb M g cap pb pe es clk _ ht) ?_
  rintro _ V1 ⟨mg, mc, rfl, h1, h2, h3, g0, g1, u1⟩
  go_wp2_with fail
  refine wp_loop_rounds 1 ?_
  rw [rounds_succ]
  go_wp2_with fail
  obtain ⟨V2, hV2⟩ : ∃ W, W = V1.alloc (.cells #[.string ⟨#[69, 114, 114, 111, 114]⟩, .int .i64 0] 123) := ⟨_, rfl⟩
  rw [← hV2]
  have u2 : Below V1.heap.size V1 V2 := by rw [hV2]; exact below1 _ _
  have y2 : V1.heap.size < V2.heap.size := by rw [hV2]; simp
  have m2 : V2.heap[V1.heap.size]? = some (.cells #[.string ⟨#[69, 114, 114, 111, 114]⟩, .int .i64 0] 123) := by rw [hV2]; exact heap_new _ _ _ rfl
  clear hV2
  have t2 := (ht.below u1).below u2
  refine Calls.mono (Find_no tb M g cap pb pe es clk p _ _ t2 rfl) ?_
  rintro _ V3 ⟨rfl, u3⟩
  have y3 := u3.size
  have m3 : V3.heap[V1.heap.size]? = _ := (u3.block _ y2).trans m2
  have mc3 := (cells_of m3).1
  have hm3 : V1.heap.size < V3.heap.size := by omega
  go_wp2_with fail
  refine Calls.mono (isMethod_0 _) ?_
  rintro _ V4 ⟨rfl, u4⟩
  have y4 := u4.size
  simp only [World.size_alloc] at y4
  have m4 : V4.heap[V1.heap.size]? = _ := (u4.block _ (by simp; omega)).trans ((heap_old _ _ _ hm3).trans m3)
  have mc4 := (cells_of m4).1
  go_wp2_with fail
  go_ret2
  exact ⟨rfl, u1.trans ((u2.mono (u1.size)).trans ((u3.mono (by have := u1.size; omega)).trans (((below1 V3 _).mono (by have := u1.size; omega)).trans (u4.mono (by simp; have := u1.size; omega)))))⟩

end Go.Proofs.YtaboeocgoocgfaaGreatDoor
