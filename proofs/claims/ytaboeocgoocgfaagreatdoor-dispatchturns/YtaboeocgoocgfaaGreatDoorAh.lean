/-
  DispatchRoom: the law.
-/
import Derived.Test.YtaboeocgoocgfaaGreatDoorAg
namespace Go.Proofs.YtaboeocgoocgfaaGreatDoor
open Go.RowKit Go.ChangeMaps

theorem wrong_eql (W : World) : Sem.run Tryz.prog (binOp .eql 38 (.agg #[.int .i64 1, .int .i64 0, .string ⟨#[]⟩]) (.agg #[.int .i64 1, .int .i64 0, .string ⟨#[]⟩])) W = .ok (.bool true) W := by kernel_rfl
set_option maxRecDepth 100000 in
set_option maxHeartbeats 4000000 in
theorem roomLaw_any {gw ow gs os : Nat} (rm : Int) (w0 : World) (ht : TabsAt gw ow gs os w0) (hg : w0.cell? ⟨0, 0, none⟩ = some (.iface 126 (.agg #[hnd 25]))) :
    Calls Tryz.prog 3 #[.int .i64 rm] w0 fun e w' => e = .returned (.bool true) ∧ Below w0.heap.size w0 w' := by
  have ht0 := ht
  go_enter Tryz.func3, Tryz.ntmps3
  go_wp2_with fail
  refine Calls.mono (examples_any _ ht hg) ?_
  rintro _ w ⟨rfl, hw⟩
  have hz0 := hw.size
  have ht := ht.below (Nat.le_refl _) hw
  have h00 : 0 < w0.heap.size := by have := ht0.two; omega
  have hg := (hw.cell (p := ⟨0, 0, none⟩) h00).trans hg
  go_wp2_with fail
  refine Calls.mono (small_any _) ?_
  rintro _ V0 ⟨rfl, hV0⟩
  have u0 : Below w.heap.size w V0 := by rw [hV0]; exact below3 w _ _ _
  have x0 : V0.heap[w.heap.size + 1]? = some (.cells #[.int .i64 8, .string ⟨#[120]⟩, .int .i64 0, .int .i64 0, .slice none 0 0] 30) := by rw [hV0, heap_old _ _ _ (by simp)]; exact heap_new _ _ _ (by simp)
  have a0 : V0.heap[w.heap.size + 1 + 1]? = some (.cells #[.int .i64 3, .string ⟨#[65]⟩, .int .i64 0, .int .i64 0, .slice (some ⟨w.heap.size + 1, 0, none⟩) 1 1] 30) := by rw [hV0]; exact heap_new _ _ _ (by simp)
  clear hV0
  go_wp2_with fail
  refine Calls.mono (make_small (w.heap.size + 1 + 1) (w.heap.size + 1) _ (ht.below (Nat.le_refl _) u0) (heap_lt a0) (heap_lt x0) ((cells_of a0).1 0) ((cells_of a0).1 1) ((cells_of a0).1 2) ((cells_of a0).1 3) ((cells_of a0).1 4) ((cells_of x0).1 0) ((cells_of x0).1 1) ((cells_of x0).1 2) ((cells_of x0).1 3) ((cells_of x0).1 4)) ?_
  rintro _ V1 ⟨tb, M, g, cap, pb, pe, es, clk, rfl, t1, u1⟩
  have z0 := u0.size
  have z1 := u1.size
  have w1 : Below w.heap.size w V1 := u0.trans (u1.mono z0)
  clear u0 x0 a0 u1
  go_wp2_with fail
  by_cases hbad : (decide (rm < 0)) = true ∨ (decide (rm < 0) = false ∧ decide (1024 < rm) = true)
  · refine Calls.mono (new_bad tb rm _ hbad) ?_
    rintro _ V2 ⟨rfl, hV2⟩
    subst hV2
    go_wp2_with fail
    refine Calls.mono (refNew_bad rm _ hbad) ?_
    rintro _ V3 ⟨rfl, hV3⟩
    subst hV3
    go_wp2_with fail
    obtain ⟨V4, hV4⟩ : ∃ W, W = (((V1.alloc (.cells #[.int .i64 1, .int .i64 0, .string ⟨#[]⟩] 38)).alloc (.cells #[.int .i64 1, .int .i64 0, .string ⟨#[]⟩] 38)).alloc (.cells #[.int .i64 1, .int .i64 0, .string ⟨#[]⟩] 38)).alloc (.cells #[.pointer none] 42) := ⟨_, rfl⟩
    rw [← hV4]
    have u4 : Below V1.heap.size V1 V4 := by rw [hV4]; repeat (first | exact Below.refl _ _ | refine Below.alloc ?_ (by simp <;> omega) _)
    have y4 : V1.heap.size + 1 + 1 + 1 < V4.heap.size := by rw [hV4]; simp
    have e4 : V4.heap[V1.heap.size]? = some (.cells #[.int .i64 1, .int .i64 0, .string ⟨#[]⟩] 38) := by rw [hV4, heap_old _ _ _ (by simp <;> omega), heap_old _ _ _ (by simp <;> omega), heap_old _ _ _ (by simp <;> omega)]; exact heap_new _ _ _ rfl
    have x4 : V4.heap[V1.heap.size + 1 + 1]? = some (.cells #[.int .i64 1, .int .i64 0, .string ⟨#[]⟩] 38) := by rw [hV4, heap_old _ _ _ (by simp <;> omega)]; exact heap_new _ _ _ (by simp)
    have p4 : V4.heap[V1.heap.size + 1 + 1 + 1]? = some (.cells #[.pointer none] 42) := by rw [hV4]; exact heap_new _ _ _ (by simp)
    clear hV4
    have h0 : 0 < w.heap.size := by have := ht.two; omega
    have hz1 := w1.size
    refine Calls.mono (as_any ⟨V1.heap.size, 0, none⟩ ⟨V1.heap.size + 1 + 1 + 1, 0, none⟩ (.pointer none) _ ((u4.cell (p := ⟨0, 0, none⟩) (by show 0 < V1.heap.size; omega)).trans ((w1.cell (p := ⟨0, 0, none⟩) h0).trans hg)) (by omega) y4 ((cells_of p4).1 0) ((cells_of p4).2 0)) ?_
    rintro _ V5 ⟨rfl, hV5⟩
    obtain ⟨p5, k5⟩ := asW_facts (e := ⟨V1.heap.size, 0, none⟩) (t := ⟨V1.heap.size + 1 + 1 + 1, 0, none⟩) (w := V4) rfl y4 p4
    rw [← hV5] at p5 k5
    clear hV5 p4
    have p5 : V5.heap[V1.heap.size + 1 + 1 + 1]? = some (.cells #[.pointer (some ⟨V1.heap.size, 0, none⟩)] 42) := p5
    have k5 : Kp (· = V1.heap.size + 1 + 1 + 1) V4 V5 := k5
    have y5 := k5.size
    have e5 : V5.heap[V1.heap.size]? = _ := (k5.block _ (by omega) (by omega)).trans e4
    have x5 : V5.heap[V1.heap.size + 1 + 1]? = _ := (k5.block _ (by omega) (by omega)).trans x4
    go_wp2_with fail
    refine wp_region_noPanic ?_
    refine wp_region_held (S := fun W => (∀ j, W.cell? ⟨V1.heap.size + 1 + 1 + 1, j, none⟩ = (#[.pointer (some ⟨V1.heap.size, 0, none⟩)] : Array Value)[j]?) ∧ (∀ j, W.cell? ⟨V1.heap.size, j, none⟩ = (#[.int .i64 1, .int .i64 0, .string ⟨#[]⟩] : Array Value)[j]?) ∧ (∀ j, W.cell? ⟨V1.heap.size + 1 + 1, j, none⟩ = (#[.int .i64 1, .int .i64 0, .string ⟨#[]⟩] : Array Value)[j]?)) (by kernel_rfl) ?_
    obtain ⟨V6, hV6⟩ : ∃ W4, W4 = (V5).drew := ⟨_, rfl⟩
    have e4 : ({ V5 with drawn := (V5).drawn + 1 } : World) = V6 := hV6.symm
    rw [e4]
    have hB4 : Below (V5).heap.size (V5) V6 := by rw [hV6]; exact (Below.refl _ _).drew
    have hS : (∀ j, V6.cell? ⟨V1.heap.size + 1 + 1 + 1, j, none⟩ = (#[.pointer (some ⟨V1.heap.size, 0, none⟩)] : Array Value)[j]?) ∧ (∀ j, V6.cell? ⟨V1.heap.size, j, none⟩ = (#[.int .i64 1, .int .i64 0, .string ⟨#[]⟩] : Array Value)[j]?) ∧ (∀ j, V6.cell? ⟨V1.heap.size + 1 + 1, j, none⟩ = (#[.int .i64 1, .int .i64 0, .string ⟨#[]⟩] : Array Value)[j]?) := ⟨(cells_of ((hB4.block _ (heap_lt p5)).trans p5)).1, (cells_of ((hB4.block _ (heap_lt e5)).trans e5)).1, (cells_of ((hB4.block _ (heap_lt x5)).trans x5)).1⟩
    have HV6 : Hid (V6 = (V5).drew) := hV6
    clear e4 hV6
    refine wpAnyH_take (i := 0) (v := .pointer none) rfl (by kernel_rfl) (by kernel_rfl) (by kernel_rfl) (fun _ _ _ h => h) (Or.inl ⟨by rfl, ?r⟩) hS ?_
    case r => intro W hW; simp [go_sem, execOp, Act.eval]
    simp only [List.getElem_toArray, List.getElem_cons_zero, Act.put, List.setIfInBounds_toArray, List.set_cons_succ, List.set_cons_zero]
    refine wpAnyH_take (i := 1) (v := .bool true) rfl (by kernel_rfl) (by kernel_rfl) (by kernel_rfl) (fun _ _ _ h => h) (Or.inl ⟨by rfl, ?r⟩) hS ?_
    case r => intro W hW; simp [go_sem, execOp, Act.eval]
    simp only [List.getElem_toArray, List.getElem_cons_zero, List.getElem_cons_succ, Act.put, List.setIfInBounds_toArray, List.set_cons_succ, List.set_cons_zero]
    refine wpAnyH_take (i := 2) (v := .bool true) rfl (by kernel_rfl) (by kernel_rfl) (by kernel_rfl) (fun _ _ _ h => h) (Or.inl ⟨by rfl, ?r⟩) hS ?_
    case r => intro W hW; simp [go_sem, execOp, Act.eval]
    simp only [List.getElem_toArray, List.getElem_cons_zero, List.getElem_cons_succ, Act.put, List.setIfInBounds_toArray, List.set_cons_succ, List.set_cons_zero]
    refine wpAnyH_take (i := 3) (v := .bool true) rfl (by kernel_rfl) (by kernel_rfl) (by kernel_rfl) (fun _ _ _ h => h) (Or.inl ⟨by rfl, ?r⟩) hS ?_
    case r => intro W hW; simp [go_sem, execOp, Act.eval]
    simp only [List.getElem_toArray, List.getElem_cons_zero, List.getElem_cons_succ, Act.put, List.setIfInBounds_toArray, List.set_cons_succ, List.set_cons_zero]
    refine wpAnyH_take (i := 4) (v := .bool true) rfl (by kernel_rfl) (by kernel_rfl) (by kernel_rfl) (fun _ _ _ h => h) (Or.inl ⟨by rfl, ?r⟩) hS ?_
    case r => intro W hW; simp [go_sem, execOp, Act.eval]
    simp only [List.getElem_toArray, List.getElem_cons_zero, List.getElem_cons_succ, Act.put, List.setIfInBounds_toArray, List.set_cons_succ, List.set_cons_zero]
    refine wpAnyH_take (i := 5) (v := .bool true) rfl (by kernel_rfl) (by kernel_rfl) (by kernel_rfl) (fun _ _ _ h => h) (Or.inl ⟨by rfl, ?r⟩) hS ?_
    case r => intro W hW; simp [go_sem, execOp, Act.eval]
    simp only [List.getElem_toArray, List.getElem_cons_zero, List.getElem_cons_succ, Act.put, List.setIfInBounds_toArray, List.set_cons_succ, List.set_cons_zero]
    refine wpAnyH_take (i := 6) (v := .pointer (some ⟨V1.heap.size, 0, none⟩)) rfl (by kernel_rfl) (by kernel_rfl) (by kernel_rfl) (fun _ _ _ h => h) (Or.inl ⟨by rfl, ?r⟩) hS ?_
    case r => intro W hW; simp [go_sem, execOp, Act.eval, hW.1]
    simp only [List.getElem_toArray, List.getElem_cons_zero, List.getElem_cons_succ, Act.put, List.setIfInBounds_toArray, List.set_cons_succ, List.set_cons_zero]
    refine wpAnyH_take (i := 7) (v := .bool true) rfl (by kernel_rfl) (by kernel_rfl) (by kernel_rfl) (fun _ _ _ h => h) (Or.inl ⟨by rfl, ?r⟩) hS ?_
    case r => intro W hW; simp [go_sem, execOp, Act.eval]
    simp only [List.getElem_toArray, List.getElem_cons_zero, List.getElem_cons_succ, Act.put, List.setIfInBounds_toArray, List.set_cons_succ, List.set_cons_zero]
    refine wpAnyH_take (i := 8) (v := .bool true) rfl (by kernel_rfl) (by kernel_rfl) (by kernel_rfl) (fun _ _ _ h => h) (Or.inl ⟨by rfl, ?r⟩) hS ?_
    case r => intro W hW; simp [go_sem, execOp, Act.eval]
    simp only [List.getElem_toArray, List.getElem_cons_zero, List.getElem_cons_succ, Act.put, List.setIfInBounds_toArray, List.set_cons_succ, List.set_cons_zero]
    refine wpAnyH_take (i := 9) (v := .bool true) rfl (by kernel_rfl) (by kernel_rfl) (by kernel_rfl) (fun _ _ _ h => h) (Or.inl ⟨by rfl, ?r⟩) hS ?_
    case r => intro W hW; simp [go_sem, execOp, Act.eval]
    simp only [List.getElem_toArray, List.getElem_cons_zero, List.getElem_cons_succ, Act.put, List.setIfInBounds_toArray, List.set_cons_succ, List.set_cons_zero]
    refine wpAnyH_take (i := 10) (v := .pointer (some ⟨V1.heap.size, 0, none⟩)) rfl (by kernel_rfl) (by kernel_rfl) (by kernel_rfl) (fun _ _ _ h => h) (Or.inl ⟨by rfl, ?r⟩) hS ?_
    case r => intro W hW; simp [go_sem, execOp, Act.eval, hW.1]
    simp only [List.getElem_toArray, List.getElem_cons_zero, List.getElem_cons_succ, Act.put, List.setIfInBounds_toArray, List.set_cons_succ, List.set_cons_zero]
    refine wpAnyH_take (i := 11) (v := .pointer (some ⟨V1.heap.size, 0, none⟩)) rfl (by kernel_rfl) (by kernel_rfl) (by kernel_rfl) (fun _ _ _ h => h) (Or.inl ⟨by rfl, ?r⟩) hS ?_
    case r => intro W hW; simp [go_sem, execOp, Act.eval]
    simp only [List.getElem_toArray, List.getElem_cons_zero, List.getElem_cons_succ, Act.put, List.setIfInBounds_toArray, List.set_cons_succ, List.set_cons_zero]
    refine wpAnyH_take (i := 12) (v := .agg #[.int .i64 1, .int .i64 0, .string ⟨#[]⟩]) rfl (by kernel_rfl) (by kernel_rfl) (by kernel_rfl) (fun _ _ _ h => h) (Or.inl ⟨by rfl, ?r⟩) hS ?_
    case r => intro W hW; simp [go_sem, execOp, Act.eval, hW.2.1]
    simp only [List.getElem_toArray, List.getElem_cons_zero, List.getElem_cons_succ, Act.put, List.setIfInBounds_toArray, List.set_cons_succ, List.set_cons_zero]
    refine wpAnyH_take (i := 13) (v := .agg #[.int .i64 1, .int .i64 0, .string ⟨#[]⟩]) rfl (by kernel_rfl) (by kernel_rfl) (by kernel_rfl) (fun _ _ _ h => h) (Or.inl ⟨by rfl, ?r⟩) hS ?_
    case r => intro W hW; simp [go_sem, execOp, Act.eval, hW.2.2]
    simp only [List.getElem_toArray, List.getElem_cons_zero, List.getElem_cons_succ, Act.put, List.setIfInBounds_toArray, List.set_cons_succ, List.set_cons_zero]
    refine wpAnyH_take (i := 14) (v := .bool true) rfl (by kernel_rfl) (by kernel_rfl) (by kernel_rfl) (fun _ _ _ h => h) (Or.inl ⟨by rfl, ?r⟩) hS ?_
    case r => intro W hW; simp [go_sem, execOp, Act.eval, wrong_eql]
    simp only [List.getElem_toArray, List.getElem_cons_zero, List.getElem_cons_succ, Act.put, List.setIfInBounds_toArray, List.set_cons_succ, List.set_cons_zero]
    refine wpAnyH_take (i := 15) (v := .bool true) rfl (by kernel_rfl) (by kernel_rfl) (by kernel_rfl) (fun _ _ _ h => h) (Or.inl ⟨by rfl, ?r⟩) hS ?_
    case r => intro W hW; simp [go_sem, execOp, Act.eval]
    simp only [List.getElem_toArray, List.getElem_cons_zero, List.getElem_cons_succ, Act.put, List.setIfInBounds_toArray, List.set_cons_succ, List.set_cons_zero]
    refine wpAnyH_take (i := 16) (v := .bool true) rfl (by kernel_rfl) (by kernel_rfl) (by kernel_rfl) (fun _ _ _ h => h) (Or.inl ⟨by rfl, ?r⟩) hS ?_
    case r => intro W hW; simp [go_sem, execOp, Act.eval]
    simp only [List.getElem_toArray, List.getElem_cons_zero, List.getElem_cons_succ, Act.put, List.setIfInBounds_toArray, List.set_cons_succ, List.set_cons_zero]
    refine wpAnyH_done (by kernel_rfl) ?_ _
    refine NoPanic.normal ?_
    try simp only [Act.put]
    go_wp2_with fail
    go_ret
    exact ⟨rfl, hw.trans ((w1.mono hz0).trans ((u4.mono (by omega)).trans ((k5.below (by omega) fun i hi h => by omega).trans (hB4.mono (by omega)))))⟩
  · have ha : decide (rm < 0) = false := by
      cases h : decide (rm < 0)
      · rfl
      · exact absurd (.inl h) hbad
    have hb : decide (1024 < rm) = false := by
      cases h : decide (1024 < rm)
      · rfl
      · exact absurd (.inr ⟨ha, h⟩) hbad
    refine Calls.mono (new_ok tb rm _ ha hb) ?_
    rintro _ V2 ⟨rfl, m2, c2, u2⟩
    go_wp2_with fail
    refine Calls.mono (refNew_ok rm _ ha hb) ?_
    rintro _ V3 ⟨v, rfl, u3⟩
    have c3 := (u3.block _ (heap_lt c2)).trans c2
    have m3 := (u3.block _ (heap_lt m2)).trans m2
    go_wp2_with fail
    obtain ⟨V4, hV4⟩ : ∃ W, W = V3.alloc (.cells #[.int .i64 0, .int .i64 0, .string ⟨#[]⟩] 38) := ⟨_, rfl⟩
    rw [← hV4]
    have u4 : Below V3.heap.size V3 V4 := by rw [hV4]; exact below1 _ _
    clear hV4
    have c4 := (u4.block _ (heap_lt c3)).trans c3
    have m4 := (u4.block _ (heap_lt m3)).trans m3
    refine Calls.mono (hits_any _ _ _ c4) ?_
    rintro _ V ⟨rfl, hV⟩
    obtain rfl := hV.symm
    go_wp2_with fail
    refine Calls.mono (misses_any _ _ _ c4) ?_
    rintro _ V ⟨rfl, hV⟩
    obtain rfl := hV.symm
    go_wp2_with fail
    refine Calls.mono (kept_any _ _ _ _ _ c4 m4 (by simp)) ?_
    rintro _ V ⟨rfl, hV⟩
    obtain rfl := hV.symm
    go_wp2_with fail
    go_ret
    have z2 := u2.size
    have z3 := u3.size
    exact ⟨rfl, hw.trans ((w1.mono hz0).trans ((u2.mono (by have := w1.size; omega)).trans ((u3.mono (by have := w1.size; omega)).trans (u4.mono (by have := w1.size; omega)))))⟩

end Go.Proofs.YtaboeocgoocgfaaGreatDoor
