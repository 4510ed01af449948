/-
  The walks of ofInts, and of Binary at ints.
-/
import Derived.Test.YtoplmbboaobahaaDoorB
import Derived.Deep.RegionHeld3
namespace Go.Proofs.YtoplmbboaobahaaDoor
open Go.RowKit

theorem refold2 (w : World) (o1 o : Obj) : ({ heap := (w.alloc o1).heap.push o, tape := w.tape, drawn := w.drawn, os := (w.alloc o1).os, output := (w.alloc o1).output } : World) = (w.alloc o1).alloc o := rfl

theorem ite_yes {c A B : Prop} [Decidable c] (h : c) (a : A) : if c then A else B := by rw [if_pos h]; exact a

theorem cell3_0 (w : World) (cs : Array Value) (t : TypeId) (o2 o3 : Obj) (i : Nat) : (((w.alloc (.cells cs t)).alloc o2).alloc o3).cell? ⟨w.heap.size, i, none⟩ = cs[i]? := by
  rw [World.cell?_alloc_lt _ _ _ (by simp; omega), World.cell?_alloc_lt _ _ _ (by simp), World.cell?_alloc_new]
theorem cell3_1 (w : World) (cs : Array Value) (t : TypeId) (o1 o3 : Obj) (i : Nat) : (((w.alloc o1).alloc (.cells cs t)).alloc o3).cell? ⟨w.heap.size + 1, i, none⟩ = cs[i]? := by
  rw [World.cell?_alloc_lt _ _ _ (by simp), show w.heap.size + 1 = (w.alloc o1).heap.size by simp, World.cell?_alloc_new]
theorem heap3_2 (w : World) (o1 o2 o3 : Obj) : (((w.alloc o1).alloc o2).alloc o3).heap[w.heap.size + 1 + 1]? = some o3 := by
  rw [show w.heap.size + 1 + 1 = ((w.alloc o1).alloc o2).heap.size by simp]; exact heap_alloc_new _ _
theorem row_at {W : World} {b : Nat} {cs : Array Value} (h : W.heap[b]? = some (.cells cs 28 (0, 0))) (j : Nat) : W.cell? ⟨b, j, none⟩ = cs[j]? := by
  unfold World.cell?; rw [h]; rfl

/-- The box of an answer is there, and can be written. -/
theorem box_kept {W : World} {b : Nat} (h : W.heap[b]? = some (.cells zeros 28 (0, 0))) :
    (W.cell? ⟨b, 0, none⟩ = some (.int .i64 0) ∧ W.cell? ⟨b, 1, none⟩ = some (.string ⟨#[]⟩) ∧ W.cell? ⟨b, 2, none⟩ = some (.int .i64 0) ∧ W.cell? ⟨b, 3, none⟩ = some (.int .u64 0) ∧ W.cell? ⟨b, 4, none⟩ = some (.string ⟨#[]⟩) ∧ W.cell? ⟨b, 5, none⟩ = some (.int .i64 0) ∧ W.cell? ⟨b, 6, none⟩ = some (.int .i64 0) ∧ W.cell? ⟨b, 7, none⟩ = some (.int .i64 0) ∧ W.cell? ⟨b, 8, none⟩ = some (.int .i64 0) ∧ W.cell? ⟨b, 9, none⟩ = some (.slice none 0 0) ∧ W.cell? ⟨b, 10, none⟩ = some (.slice none 0 0)) ∧ (∀ j, W.frozen? ⟨b, j, none⟩ = false) :=
  ⟨⟨row_at h 0, row_at h 1, row_at h 2, row_at h 3, row_at h 4, row_at h 5, row_at h 6, row_at h 7, row_at h 8, row_at h 9, row_at h 10⟩, fun j => by unfold World.frozen?; rw [h]; simp⟩

attribute [local go_sem] refold2 b28_0 b28_01 b28_012 b28_013 b28_014 b35_01 b35_0 b35 mkI69

set_option maxRecDepth 100000 in
set_option maxHeartbeats 4000000 in
theorem ofInts_any (o : IOp) (t : ByteArray) (a b f f' : Int) (s s' : ByteArray) (r0 r1 r2 r3 : Int) (p i : Value) (q0 q1 q2 q3 : Int) (p' i' : Value) (w : World) (ht : t.size ≤ 140737488351232) (hok : o.ok b) :
    Calls Tryd.prog 44 #[.string o.txt, D 2 t a f s r0 r1 r2 r3 p i, D 2 t b f' s' q0 q1 q2 q3 p' i'] w fun r w' => r = .returned (.tuple #[dat 2 t (o.val a b) 0 ⟨#[]⟩, .nilIface]) ∧ Below w.heap.size w w' := by
  simp only [D]
  have HC : Hid (∀ W, Calls Tryd.prog 72 #[.string o.txt, .int .i64 a, .int .i64 b] W fun r w' => r = .returned (.int .i64 (o.val a b)) ∧ w' = W) := fun W => calculated_any o a b W hok
  obtain ⟨c, hc⟩ : ∃ c, c = o.val a b := ⟨_, rfl⟩
  rw [← hc] at HC ⊢
  have HI : Hid (∀ W, Calls Tryd.prog 35 #[.string t, .int .i64 c] W fun r w' => r = .returned (dat 2 t c 0 ⟨#[]⟩) ∧ Below W.heap.size W w') := fun W => intOf_any t c W ht
  clear hc
  obtain ⟨W3, hW3⟩ : ∃ W3, W3 = ((w.alloc (.cells #[.int .i64 2, .string t, .int .i64 a, .int .u64 f, .string s, .int .i64 r0, .int .i64 r1, .int .i64 r2, .int .i64 r3, p, i] 28)).alloc (.cells #[.int .i64 2, .string t, .int .i64 b, .int .u64 f', .string s', .int .i64 q0, .int .i64 q1, .int .i64 q2, .int .i64 q3, p', i'] 28)).alloc (.cells #[.int .i64 0, .string ⟨#[]⟩, .int .i64 0, .int .u64 0, .string ⟨#[]⟩, .int .i64 0, .int .i64 0, .int .i64 0, .int .i64 0, .slice none 0 0, .slice none 0 0] 28) := ⟨_, rfl⟩
  have HK : Hid (∀ W, Below (w.heap.size + 1 + 1) W3 W → (W.cell? ⟨w.heap.size, 1, none⟩ = some (.string t) ∧ W.cell? ⟨w.heap.size, 2, none⟩ = some (.int .i64 a) ∧ W.cell? ⟨w.heap.size + 1, 2, none⟩ = some (.int .i64 b))) := fun W hW => by
    rw [hW.cell (p := ⟨w.heap.size, 1, none⟩) (by simp; omega), hW.cell (p := ⟨w.heap.size, 2, none⟩) (by simp; omega), hW.cell (p := ⟨w.heap.size + 1, 2, none⟩) (by simp), hW3]
    exact ⟨cell3_0 _ _ _ _ _ 1, cell3_0 _ _ _ _ _ 2, cell3_1 _ _ _ _ _ 2⟩
  have hrow : Hid (W3.heap[w.heap.size + 1 + 1]? = some (.cells zeros 28 (0, 0))) := by rw [hW3]; exact heap3_2 _ _ _ _
  have hB3 : Below w.heap.size w W3 := by rw [hW3]; exact below3 _ _ _ _
  have hz3 : W3.heap.size = w.heap.size + 3 := by rw [hW3]; simp
  simp only [dat, D] at HI ⊢
  have hb0 : o = .quo ∨ o = .rem → (b == 0) = false := fun h => by rcases h with rfl | rfl <;> (have h2 : b ≠ 0 := hok; simpa using h2)
  have hb1 : o = .shl ∨ o = .shr → decide (b < 0) = false := fun h => by rcases h with rfl | rfl <;> (have h2 := hok.1; simp; omega)
  clear hok
  cases o <;> simp only [IOp.txt, reduceCtorEq, or_true, or_false, false_implies, true_implies] at HC hb0 hb1 ⊢
  all_goals
    go_enter Tryd.func44, Tryd.ntmps44
    go_wp2_with fail
    rw [← hW3]
    clear hW3
    refine wp_region_noPanic ?_
    refine wp_region_held (S := fun W => W.cell? ⟨w.heap.size, 1, none⟩ = some (.string t) ∧ W.cell? ⟨w.heap.size, 2, none⟩ = some (.int .i64 a) ∧ W.cell? ⟨w.heap.size + 1, 2, none⟩ = some (.int .i64 b)) (by kernel_rfl) ?_
    obtain ⟨W4, hW4⟩ : ∃ W4, W4 = W3.drew := ⟨_, rfl⟩
    have e4 : ({ W3 with drawn := W3.drawn + 1 } : World) = W4 := hW4.symm
    rw [e4]
    have hB4 : Below (w.heap.size + 1 + 1 + 1) W3 W4 := by rw [hW4]; exact (Below.refl _ _).drew
    have hz4 : W4.heap.size = w.heap.size + 1 + 1 + 1 := by rw [hW4]; exact hz3
    have hS := HK.out W4 (hB4.mono (by omega))
    clear e4 hW4
    refine wpAnyH_take (i := 0) (v := .pointer (some ⟨w.heap.size, 1, none⟩)) rfl (by kernel_rfl) (by kernel_rfl) (by kernel_rfl) (fun _ _ _ h => h) (Or.inl ⟨by rfl, ?r⟩) hS ?_
    case r => intro W hW; simp [go_sem, execOp, Act.eval]
    simp only [List.getElem_toArray, List.getElem_cons_zero, Act.put, List.setIfInBounds_toArray, List.set_cons_succ, List.set_cons_zero]
    refine wpAnyH_take (i := 1) (v := .string t) rfl (by kernel_rfl) (by kernel_rfl) (by kernel_rfl) (fun _ _ _ h => h) (Or.inl ⟨by rfl, ?r⟩) hS ?_
    case r => intro W hW; obtain ⟨h1, _, _⟩ := hW; simp [go_sem, execOp, Act.eval, h1]
    simp only [List.getElem_toArray, List.getElem_cons_zero, List.getElem_cons_succ, Act.put, List.setIfInBounds_toArray, List.set_cons_succ, List.set_cons_zero]
    refine wpAnyH_take (i := 3) (v := .pointer (some ⟨w.heap.size, 2, none⟩)) rfl (by kernel_rfl) (by kernel_rfl) (by kernel_rfl) (fun _ _ _ h => h) (Or.inl ⟨by rfl, ?r⟩) hS ?_
    case r => intro W hW; simp [go_sem, execOp, Act.eval]
    simp only [List.getElem_toArray, List.getElem_cons_zero, List.getElem_cons_succ, Act.put, List.setIfInBounds_toArray, List.set_cons_succ, List.set_cons_zero]
    refine wpAnyH_take (i := 4) (v := .int .i64 a) rfl (by kernel_rfl) (by kernel_rfl) (by kernel_rfl) (fun _ _ _ h => h) (Or.inl ⟨by rfl, ?r⟩) hS ?_
    case r => intro W hW; obtain ⟨_, h2, _⟩ := hW; simp [go_sem, execOp, Act.eval, h2]
    simp only [List.getElem_toArray, List.getElem_cons_zero, List.getElem_cons_succ, Act.put, List.setIfInBounds_toArray, List.set_cons_succ, List.set_cons_zero]
    refine wpAnyH_take (i := 5) (v := .pointer (some ⟨w.heap.size + 1, 2, none⟩)) rfl (by kernel_rfl) (by kernel_rfl) (by kernel_rfl) (fun _ _ _ h => h) (Or.inl ⟨by rfl, ?r⟩) hS ?_
    case r => intro W hW; simp [go_sem, execOp, Act.eval]
    simp only [List.getElem_toArray, List.getElem_cons_zero, List.getElem_cons_succ, Act.put, List.setIfInBounds_toArray, List.set_cons_succ, List.set_cons_zero]
    refine wpAnyH_take (i := 6) (v := .int .i64 b) rfl (by kernel_rfl) (by kernel_rfl) (by kernel_rfl) (fun _ _ _ h => h) (Or.inl ⟨by rfl, ?r⟩) hS ?_
    case r => intro W hW; obtain ⟨_, _, h3⟩ := hW; simp [go_sem, execOp, Act.eval, h3]
    simp only [List.getElem_toArray, List.getElem_cons_zero, List.getElem_cons_succ, Act.put, List.setIfInBounds_toArray, List.set_cons_succ, List.set_cons_zero]
    refine wpAnyH_all (rs := [2]) (by kernel_rfl) (by simp) (fun i0 hi0 => ?_)
    obtain rfl : i0 = 2 := by simpa using hi0
    clear hi0
    refine wpOp_step rfl (fun K hK => ite_yes rfl ?_)
    simp only [List.getElem_toArray, List.getElem_cons_zero, List.getElem_cons_succ]
    go_simp
    refine hK _ _ ⟨hS, ?_⟩
    clear hK K
    refine wpAnyH_all (rs := [7]) (by kernel_rfl) (by simp) (fun i0 hi0 => ?_)
    obtain rfl : i0 = 7 := by simpa using hi0
    clear hi0
    refine wpOp_step rfl (fun K hK => ite_yes rfl ?_)
    simp only [List.getElem_toArray, List.getElem_cons_zero, List.getElem_cons_succ]
    go_simp
    refine (HC.out _).mono ?_
    rintro e w1 ⟨rfl, rfl⟩
    go_simp
    refine hK _ _ ⟨hS, ?_⟩
    clear hK K
    refine wpAnyH_all (rs := [8]) (by kernel_rfl) (by simp) (fun i0 hi0 => ?_)
    obtain rfl : i0 = 8 := by simpa using hi0
    clear hi0
    refine wpOp_step rfl (fun K hK => ite_yes rfl ?_)
    simp only [List.getElem_toArray, List.getElem_cons_zero, List.getElem_cons_succ]
    go_simp
    refine (HI.out _).mono ?_
    rintro e w2 ⟨rfl, hb⟩
    go_simp
    refine hK _ _ ⟨HK.out _ (hB4.trans (hb.mono (by omega)) |>.mono (by omega)), ?_⟩
    clear hK K
    refine wpAnyH_all (rs := [9]) (by kernel_rfl) (by simp) (fun i0 hi0 => ?_)
    obtain rfl : i0 = 9 := by simpa using hi0
    clear hi0
    refine wpOp_step rfl (fun K hK => ite_yes rfl ?_)
    simp only [List.getElem_toArray, List.getElem_cons_zero, List.getElem_cons_succ]
    refine wp_store_row 28 _ _ rfl (w.heap.size + 1 + 1) _ rfl rfl 28 zeros ((hb.block _ (by omega)).trans ((hB4.block _ (by omega)).trans hrow.out)) info28 rfl (by simp [Value.oneCell']) ?_
    refine hK _ _ ⟨HK.out _ (brow ((hB4.trans (hb.mono (by omega))).mono (by omega)) (Nat.le_refl _) _), ?_⟩
    clear hK K
    simp only [Act.put]
    refine wpAnyH_take (i := 10) (v := .nilIface) rfl (by kernel_rfl) (by kernel_rfl) (by kernel_rfl) (fun _ _ _ h => h) (Or.inl ⟨by rfl, ?r⟩) (HK.out _ (brow ((hB4.trans (hb.mono (by omega))).mono (by omega)) (Nat.le_refl _) _)) ?_
    case r => intro W hW; simp [go_sem, execOp, Act.eval]
    refine wpAnyH_done (by kernel_rfl) ?_ _
    refine NoPanic.normal ?_
    simp only [List.getElem_toArray, List.getElem_cons_zero, List.getElem_cons_succ, Act.put, List.setIfInBounds_toArray, List.set_cons_succ, List.set_cons_zero]
    go_wp2_with fail
    have hr3 := (hb.block (w.heap.size + 1 + 1) (by omega)).trans ((hB4.block (w.heap.size + 1 + 1) (by omega)).trans hrow.out)
    refine bodyPost_ret (v := .tuple #[.agg #[.int .i64 2, .string t, .int .i64 c, .int .u64 0, .string ⟨#[]⟩, .int .i64 0, .int .i64 0, .int .i64 0, .int .i64 0, .slice none 0 0, .slice none 0 0], .nilIface]) (by simp [results, Tryd.results44, go_sem, row_cell hr3]) rfl ⟨rfl, ?_⟩
    exact brow ((hB3.trans (hB4.mono (by omega))).trans (hb.mono (by omega))) (by omega) _

end Go.Proofs.YtoplmbboaobahaaDoor
