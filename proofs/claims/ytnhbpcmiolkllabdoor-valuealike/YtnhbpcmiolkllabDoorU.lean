/-
  The hash of the int 5.
-/
import Derived.Test.YtnhbpcmiolkllabDoorL
import Derived.Test.YtnhbpcmiolkllabDoorQ
namespace Go.Proofs.YtnhbpcmiolkllabDoor
open Go.RowKit
attribute [local go_sem] refold2 cell3_0 cell3_1 b28_0 b28_01

/-- The int 5, stirred in. -/
def hash5 (h : Int) : Int := stir (stirT (stir (stirT (stir (stir (stirT (stir h 2) ⟨#[105, 110, 116]⟩) 5) 0) ⟨#[]⟩) 0) ⟨#[]⟩) 0

theorem cv2 (W : World) : (convert 3 27 (.int .i64 2)).run Tryd.prog W = .ok (.int .u64 2) W := by kernel_rfl
theorem cv5 (W : World) : (convert 3 27 (.int .i64 5)).run Tryd.prog W = .ok (.int .u64 5) W := by kernel_rfl
theorem cv0 (W : World) : (convert 3 27 (.int .i64 0)).run Tryd.prog W = .ok (.int .u64 0) W := by kernel_rfl
theorem cvS (g : Nat) (W : World) : (convert 85 9 (.slice (some ⟨g, 7, none⟩) 0 100)).run Tryd.prog W = .ok (.string ⟨#[]⟩) W := by kernel_rfl
attribute [local go_sem] cv2 cv5 cv0 cvS

set_option maxRecDepth 100000 in
set_option maxHeartbeats 4000000 in
theorem stirredIn_5 (h : Int) (w : World) : Calls Tryd.prog 46 #[.int .u64 h, dat 2 ⟨#[105, 110, 116]⟩ 5 0 ⟨#[]⟩] w fun r w' => r = .returned (.int .u64 (hash5 h)) ∧ Below w.heap.size w w' := by
  obtain ⟨cs, hcs⟩ : ∃ cs, cs = coreA Tryd.zeroCells116 2 ⟨#[105, 110, 116]⟩ 5 0 ⟨#[]⟩ 0 0 := ⟨_, rfl⟩
  have HC : Hid (∀ (W : World), Calls Tryd.prog 44 #[dat 2 ⟨#[105, 110, 116]⟩ 5 0 ⟨#[]⟩] W fun r w' => r = .returned (.agg cs) ∧ Below W.heap.size W w') := fun W => by rw [hcs]; exact coreOf_flat 2 ⟨#[105, 110, 116]⟩ 5 0 ⟨#[]⟩ 0 0 0 0 W rfl
  have hsz : cs.size = 107 := by rw [hcs]; exact coreA_size _ _ _ _ _ _ _
  have hone : cs.all (·.oneCell') = true := by rw [hcs]; exact coreA_one _ _ _ _ _ _ _
  have f0 : cs[0]? = some (.int .i64 2) := by rw [hcs]; kernel_rfl
  have f1 : cs[1]? = some (.string ⟨#[105, 110, 116]⟩) := by rw [hcs]; kernel_rfl
  have f2 : cs[2]? = some (.int .i64 5) := by rw [hcs]; kernel_rfl
  have f3 : cs[3]? = some (.int .u64 0) := by rw [hcs]; kernel_rfl
  have f4 : cs[4]? = some (.string ⟨#[]⟩) := by rw [hcs]; kernel_rfl
  have f5 : cs[5]? = some (.int .i64 0) := by rw [hcs]; kernel_rfl
  have f6 : cs[6]? = some (.int .i64 0) := by rw [hcs]; kernel_rfl
  have hst : ∀ W : World, (storeCells ⟨W.heap.size, 0, none⟩ cs.toList).run Tryd.prog (W.alloc (.cells Tryd.zeroCells116 116)) = .ok () (W.alloc (.cells cs 116)) := fun W => run_storeCells_new W 116 Tryd.zeroCells116 cs (by rw [hsz]; exact info116) (by rw [hsz]; exact zero_size) hone
  clear hcs hone
  simp only [dat, D] at HC ⊢
  go_enter Tryd.func46, Tryd.ntmps46
  go_wp2_with fail
  refine (HC.out _).mono ?_
  rintro r w1 ⟨rfl, b1⟩
  have e1 : ∀ j, w1.cell? ⟨w.heap.size, j, none⟩ = (#[.int .i64 2, .string ⟨#[105, 110, 116]⟩, .int .i64 5, .int .u64 0, .string ⟨#[]⟩, .int .i64 0, .int .i64 0, .int .i64 0, .int .i64 0, .slice none 0 0, .slice none 0 0] : Array Value)[j]? := fun j => row_at ((b1.block w.heap.size (by simp)).trans (heap_alloc_new _ _)) j
  have z1 : w.heap.size < w1.heap.size := by have := b1.size; simp at this; omega
  have q1 : Below w.heap.size w w1 := (below1 _ _).trans (b1.mono (by simp))
  go_wp2_with (first | (go_at_call 50; refine (stirred_any _ _ _).mono ?_; rintro r w' ⟨rfl, rfl⟩) | (go_at_call 49; refine (stirredText_any _ _ _ (by decide)).mono ?_; rintro r w' ⟨rfl, rfl⟩))
  refine wp_region_noPanic ?_
  refine wp_region_held (S := fun W => ∀ j, W.cell? ⟨w1.heap.size, j, none⟩ = cs[j]?) (by kernel_rfl) ?_
  obtain ⟨W4, hW4⟩ : ∃ W4, W4 = (w1.alloc (.cells cs 116)).drew := ⟨_, rfl⟩
  have e4 : ({ (w1.alloc (.cells cs 116)) with drawn := (w1.alloc (.cells cs 116)).drawn + 1 } : World) = W4 := hW4.symm
  rw [e4]
  have hS : ∀ j, W4.cell? ⟨w1.heap.size, j, none⟩ = cs[j]? := fun j => by rw [hW4]; exact row_at (heap_alloc_new w1 _) j
  have hB4 : Below w.heap.size w W4 := by rw [hW4]; exact (q1.alloc q1.size _).drew
  have hI4 : ∀ j, W4.cell? ⟨w.heap.size, j, none⟩ = (#[.int .i64 2, .string ⟨#[105, 110, 116]⟩, .int .i64 5, .int .u64 0, .string ⟨#[]⟩, .int .i64 0, .int .i64 0, .int .i64 0, .int .i64 0, .slice none 0 0, .slice none 0 0] : Array Value)[j]? := fun j => by rw [hW4]; exact (World.cell?_alloc_lt _ _ _ z1).trans (e1 j)
  have hz4 : w1.heap.size < W4.heap.size := by rw [hW4]; show _ < (w1.alloc _).heap.size; simp
  clear e4 hW4 e1 hst
  refine wpAnyH_take (i := 0) (v := .int .u64 h) rfl (by kernel_rfl) (by kernel_rfl) (by kernel_rfl) (fun _ _ _ h => h) (Or.inl ⟨by rfl, ?r⟩) hS ?_
  case r => intro W hW; simp [go_sem, execOp, Act.eval]
  simp only [List.getElem_toArray, List.getElem_cons_zero, Act.put, List.setIfInBounds_toArray, List.set_cons_succ, List.set_cons_zero]
  refine wpAnyH_take (i := 1) (v := .pointer (some ⟨w1.heap.size, 0, none⟩)) rfl (by kernel_rfl) (by kernel_rfl) (by kernel_rfl) (fun _ _ _ h => h) (Or.inl ⟨by rfl, ?r⟩) hS ?_
  case r => intro W hW; simp [go_sem, execOp, Act.eval]
  simp only [List.getElem_toArray, List.getElem_cons_zero, List.getElem_cons_succ, Act.put, List.setIfInBounds_toArray, List.set_cons_succ, List.set_cons_zero]
  refine wpAnyH_take (i := 2) (v := .pointer (some ⟨w1.heap.size, 0, none⟩)) rfl (by kernel_rfl) (by kernel_rfl) (by kernel_rfl) (fun _ _ _ h => h) (Or.inl ⟨by rfl, ?r⟩) hS ?_
  case r => intro W hW; simp [go_sem, execOp, Act.eval]
  simp only [List.getElem_toArray, List.getElem_cons_zero, List.getElem_cons_succ, Act.put, List.setIfInBounds_toArray, List.set_cons_succ, List.set_cons_zero]
  refine wpAnyH_take (i := 3) (v := .int .i64 2) rfl (by kernel_rfl) (by kernel_rfl) (by kernel_rfl) (fun _ _ _ h => h) (Or.inl ⟨by rfl, ?r⟩) hS ?_
  case r => intro W hW; simp [go_sem, execOp, Act.eval, hW, f0]
  simp only [List.getElem_toArray, List.getElem_cons_zero, List.getElem_cons_succ, Act.put, List.setIfInBounds_toArray, List.set_cons_succ, List.set_cons_zero]
  refine wpAnyH_take (i := 4) (v := .int .u64 2) rfl (by kernel_rfl) (by kernel_rfl) (by kernel_rfl) (fun _ _ _ h => h) (Or.inl ⟨by rfl, ?r⟩) hS ?_
  case r => intro W hW; simp [go_sem, execOp, Act.eval]; rfl
  simp only [List.getElem_toArray, List.getElem_cons_zero, List.getElem_cons_succ, Act.put, List.setIfInBounds_toArray, List.set_cons_succ, List.set_cons_zero]
  refine wpAnyH_take (i := 6) (v := .pointer (some ⟨w1.heap.size, 0, none⟩)) rfl (by kernel_rfl) (by kernel_rfl) (by kernel_rfl) (fun _ _ _ h => h) (Or.inl ⟨by rfl, ?r⟩) hS ?_
  case r => intro W hW; simp [go_sem, execOp, Act.eval]
  simp only [List.getElem_toArray, List.getElem_cons_zero, List.getElem_cons_succ, Act.put, List.setIfInBounds_toArray, List.set_cons_succ, List.set_cons_zero]
  refine wpAnyH_take (i := 7) (v := .pointer (some ⟨w1.heap.size, 1, none⟩)) rfl (by kernel_rfl) (by kernel_rfl) (by kernel_rfl) (fun _ _ _ h => h) (Or.inl ⟨by rfl, ?r⟩) hS ?_
  case r => intro W hW; simp [go_sem, execOp, Act.eval]
  simp only [List.getElem_toArray, List.getElem_cons_zero, List.getElem_cons_succ, Act.put, List.setIfInBounds_toArray, List.set_cons_succ, List.set_cons_zero]
  refine wpAnyH_take (i := 8) (v := .string ⟨#[105, 110, 116]⟩) rfl (by kernel_rfl) (by kernel_rfl) (by kernel_rfl) (fun _ _ _ h => h) (Or.inl ⟨by rfl, ?r⟩) hS ?_
  case r => intro W hW; simp [go_sem, execOp, Act.eval, hW, f1]
  simp only [List.getElem_toArray, List.getElem_cons_zero, List.getElem_cons_succ, Act.put, List.setIfInBounds_toArray, List.set_cons_succ, List.set_cons_zero]
  refine wpAnyH_all (rs := [5]) (by kernel_rfl) (by simp) (fun i2 hi2 => ?_)
  obtain rfl : i2 = 5 := by simpa using hi2
  clear hi2
  refine wpOp_step rfl (fun K hK => ite_yes rfl ?_)
  simp only [List.getElem_toArray, List.getElem_cons_zero, List.getElem_cons_succ]
  go_simp
  refine (stirred_any _ _ _).mono ?_
  rintro e w5 ⟨rfl, rfl⟩
  go_simp
  refine hK _ _ ⟨hS, ?_⟩
  clear hK K
  refine wpAnyH_all (rs := [9]) (by kernel_rfl) (by simp) (fun i2 hi2 => ?_)
  obtain rfl : i2 = 9 := by simpa using hi2
  clear hi2
  refine wpOp_step rfl (fun K hK => ite_yes rfl ?_)
  simp only [List.getElem_toArray, List.getElem_cons_zero, List.getElem_cons_succ]
  go_simp
  refine (stirredText_any _ _ _ (by decide)).mono ?_
  rintro e w6 ⟨rfl, rfl⟩
  go_simp
  refine hK _ _ ⟨hS, ?_⟩
  clear hK K
  refine wpAnyH_take (i := 10) (v := .int .u64 (stirT (stir h 2) ⟨#[105, 110, 116]⟩)) rfl (by kernel_rfl) (by kernel_rfl) (by kernel_rfl) (fun _ _ _ h => h) (Or.inl ⟨by rfl, ?r⟩) hS ?_
  case r => intro W hW; simp [go_sem, execOp, Act.eval]
  simp only [List.getElem_toArray, List.getElem_cons_zero, List.getElem_cons_succ, Act.put, List.setIfInBounds_toArray, List.set_cons_zero]
  refine wpAnyH_done (by kernel_rfl) ?_ _
  refine NoPanic.normal ?_
  try simp only [Act.put]
  have g2 := (hS 2).trans f2
  have g3 := (hS 3).trans f3
  have g4 := (hS 4).trans f4
  have g5 := (hS 5).trans f5
  have g6 := (hS 6).trans f6
  clear hS hsz f0 f1 f2 f3 f4 f5 f6 HC
  go_wp2_with (first | (go_at_call 50; refine (stirred_any _ _ _).mono ?_; rintro r w' ⟨rfl, rfl⟩) | (go_at_call 49; refine (stirredText_any _ _ _ (by decide)).mono ?_; rintro r w' ⟨rfl, rfl⟩))
  go_rounds 1
  go_ret
  exact ⟨rfl, hB4⟩

set_option maxRecDepth 100000 in
set_option maxHeartbeats 2000000 in
theorem hashed_5 (w : World) : Calls Tryd.prog 29 #[dat 2 ⟨#[105, 110, 116]⟩ 5 0 ⟨#[]⟩] w fun r w' => r = .returned (.int .u64 (hash5 14695981039346656037)) ∧ Below w.heap.size w w' := by
  have HI : Hid (∀ (h : Int) (W : World), Calls Tryd.prog 46 #[.int .u64 h, dat 2 ⟨#[105, 110, 116]⟩ 5 0 ⟨#[]⟩] W fun r w' => r = .returned (.int .u64 (hash5 h)) ∧ Below W.heap.size W w') := stirredIn_5
  simp only [dat, D] at HI ⊢
  go_enter Tryd.func29, Tryd.ntmps29
  go_wp2_with (go_at_call 46; refine (HI.out _ _).mono ?_; rintro r w' ⟨rfl, hb⟩)
  go_ret
  exact ⟨rfl, (below1 _ _).trans (hb.mono (by simp))⟩
end Go.Proofs.YtnhbpcmiolkllabDoor
