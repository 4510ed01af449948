/-
  The walks of tree.nodes and tree.Count, at every tree.
-/
import Derived.Test.YthbnegggohegkaaGreatDoorNo
namespace Go.Proofs.YthbnegggohegkaaGreatDoor
open Go.RowKit Go.Shelf

attribute [local go_sem] Oper.semAt_some

set_option maxHeartbeats 1000000 in
theorem nodes_any (t : MT) (m : Int) (w : World) :
    Calls Tryz.prog 36 #[nodeV t, .int .i64 m] w fun e w' => e = .returned (.func (.func 59) #[] #[.pointer (some ⟨w.heap.size, 0, none⟩), .pointer (some ⟨w.heap.size + 1, 0, none⟩)]) ∧ w' = (w.alloc (nodeO t)).alloc (.cells #[.int .i64 m] 3) := by
  go_enter Tryz.func36, Tryz.ntmps36
  go_wp2
  go_ret
  exact ⟨rfl, rfl⟩

set_option maxRecDepth 100000 in
set_option maxHeartbeats 2000000 in
theorem count_any (t : MT) (w : World) (ht : t.In w.heap.size w) :
    Calls Tryz.prog 18 #[nodeV t] w fun e w' => ∃ r : Int, e = .returned (.int .i64 r) ∧ 0 ≤ r ∧ r ≤ 1000001 ∧ Hid (r = min (t.size : Int) 1000001) ∧ Below w.heap.size w w' := by
  refine (callsIn_wide (n := 5)).1 ?_
  refine callsIn_of_wp_marks Tryz.func18 rfl trivial ?_ rfl
  simp only [Tryz.ntmps18, List.size_toArray, List.length_cons, List.length_nil, Nat.reduceAdd, Nat.reduceSub, Array.replicate_succ, Array.replicate_zero, List.push_toArray, List.append_toArray, List.nil_append, List.cons_append]
  gi_wp2_with fail
  refine ⟨trivial, ?_⟩
  refine (callsIn_wide.2 (nodes_any t _ _)).mono ?_
  rintro e w' ⟨rfl, rfl⟩
  gi_wp2_with fail
  have hB4 : Below w.heap.size w ((((w.alloc (nodeO t)).alloc (.cells #[.int .i64 0] 3)).alloc (nodeO t)).alloc (.cells #[.int .i64 1000001] 3)) := ((((Below.refl _ _).alloc (Nat.le_refl _) _).alloc (by simp) _).alloc (by simp; omega) _).alloc (by simp; omega) _
  have hn1 : BoxAt ((((w.alloc (nodeO t)).alloc (.cells #[.int .i64 0] 3)).alloc (nodeO t)).alloc (.cells #[.int .i64 1000001] 3)) (w.heap.size + 1 + 1) t := by
    have := (BoxAt.new ((w.alloc (nodeO t)).alloc (.cells #[.int .i64 0] 3)) t).below (B := w.heap.size + 3) (by simp) ((Below.refl _ _).alloc (by simp) (.cells #[.int .i64 1000001] 3))
    simpa using this
  have hm1 : ((((w.alloc (nodeO t)).alloc (.cells #[.int .i64 0] 3)).alloc (nodeO t)).alloc (.cells #[.int .i64 1000001] 3)).cell? ⟨w.heap.size + 1 + 1 + 1, 0, none⟩ = some (.int .i64 ((1000001 : Nat) : Int)) := by
    have := World.cell?_alloc_new (((w.alloc (nodeO t)).alloc (.cells #[.int .i64 0] 3)).alloc (nodeO t)) #[.int .i64 1000001] 3 0
    simp only [World.size_alloc] at this
    rw [this]; rfl
  have hc1 : ((((w.alloc (nodeO t)).alloc (.cells #[.int .i64 0] 3)).alloc (nodeO t)).alloc (.cells #[.int .i64 1000001] 3)).cell? ⟨w.heap.size + 1, 0, none⟩ = some (.int .i64 0) ∧ ((((w.alloc (nodeO t)).alloc (.cells #[.int .i64 0] 3)).alloc (nodeO t)).alloc (.cells #[.int .i64 1000001] 3)).frozen? ⟨w.heap.size + 1, 0, none⟩ = false := by
    have bx := ((Boxed.new (w.alloc (nodeO t)) 3 (.int .i64 0)).alloc (nodeO t)).alloc (.cells #[.int .i64 1000001] 3)
    rw [World.size_alloc] at bx
    exact ⟨bx.cell, bx.frozen⟩
  have hz4 : ((((w.alloc (nodeO t)).alloc (.cells #[.int .i64 0] 3)).alloc (nodeO t)).alloc (.cells #[.int .i64 1000001] 3)).heap.size = w.heap.size + 4 := by simp
  have ht4 := MT.In.below hB4 t ht
  have HW : ∃ W4, W4 = ((((w.alloc (nodeO t)).alloc (.cells #[.int .i64 0] 3)).alloc (nodeO t)).alloc (.cells #[.int .i64 1000001] 3)) := ⟨_, rfl⟩
  obtain ⟨W4, hW4⟩ := HW
  rw [← hW4] at hB4 hn1 hm1 hc1 hz4 ht4 ⊢
  clear hW4
  refine wpIn_rangeFunc_all rfl (by omega) (gf := 59) (lb := #[.pointer (some ⟨w.heap.size + 1 + 1, 0, none⟩), .pointer (some ⟨w.heap.size + 1 + 1 + 1, 0, none⟩)]) rfl trivial (enters_of Tryz.func59 (by kernel_rfl) rfl)
    (nodes1_in 4 (by omega) t 1000001 (by omega) (w.heap.size + 1 + 1) (w.heap.size + 1 + 1 + 1) w.heap.size W4 hn1 hm1 ht4 (by omega) (by omega) (by omega)) (fun _ => rfl)
    (by rintro k (h | h | h) <;> omega) (fun k => k = w.heap.size + 1) (by rintro k rfl; exact ⟨by omega, by omega⟩)
    (fun pre W => W.cell? ⟨w.heap.size + 1, 0, none⟩ = some (.int .i64 (pre.length : Int)) ∧ W.frozen? ⟨w.heap.size + 1, 0, none⟩ = false ∧ Below w.heap.size w W)
    ?ab ⟨hc1.1, hc1.2, hB4⟩ (fun x => { tmps := #[nodeV t, .pointer (some ⟨w.heap.size, 0, none⟩), .int .i64 0, .pointer (some ⟨w.heap.size + 1, 0, none⟩), nodeV t, .func (.func 59) #[] #[.pointer (some ⟨w.heap.size + 1 + 1, 0, none⟩), .pointer (some ⟨w.heap.size + 1 + 1 + 1, 0, none⟩)], .int .i64 x.1, nodeV x.2, undef, undef, undef], defers := [] }) ?assign ?body ?done
  case ab =>
    rintro s A A' row ⟨h1, h2, h3⟩ hg hr
    have hlt := World.block_lt_of_cell? A ⟨w.heap.size + 1, 0, none⟩ h1
    have hb := hg.block (w.heap.size + 1) hlt (fun e => by have := hr _ e.symm; omega)
    exact ⟨(World.cell?_of_block (a := ⟨w.heap.size + 1, 0, none⟩) hb).trans h1, (World.frozen?_of_block (a := ⟨w.heap.size + 1, 0, none⟩) hb).trans h2, Below.grown h3 hg h3.size (fun j e => by have := hr j e; omega)⟩
  case assign =>
    intro l x W K hK
    gi_wp2
    refine cast (congrArg (fun z => K ⟨z, []⟩ W) ?_) hK
    simp
  case body =>
    rintro l pre x W hpre ⟨h1, h2, h3⟩
    have hlen : pre.length < 1000001 := by
      have := hpre.length_le
      simp at this; omega
    gi_wp2
    refine ⟨KeepsX.setCell W _ _ _ rfl, ?_, ?_, h3.setCell (p := ⟨w.heap.size + 1, 0, none⟩) (by simp) _⟩
    · rw [World.cell?_setCell_same' _ _ _ (by rw [h1]; rfl)]; simp
    · rw [World.frozen?_setCell]; exact h2
  case done =>
    rintro D W hD ⟨h1, h2, h3⟩ hK
    gi_wp2
    refine ⟨by simp, .inl ⟨_, _, rfl, run_takeDeferred hK, ?_⟩⟩
    refine ⟨_, results_tmp rfl _ _ _, _, rfl, ?_, ?_, ?_, h3.trans (belowK_b (w := w) (Nat.le_refl _) W D _ _ (by omega) hK rfl rfl)⟩
    · omega
    · omega
    · show _ = _
      rw [MT.ord_length]; omega
end Go.Proofs.YthbnegggohegkaaGreatDoor
