/-
  The examples ahead of each statement.
-/
import Derived.Test.YtaboeocgoocgfaaGreatDoorAf
namespace Go.Proofs.YtaboeocgoocgfaaGreatDoor
open Go.RowKit Go.ChangeMaps

theorem wrong_eq (W : World) : Sem.run Tryz.prog (binOp .neq 38 (.agg #[.int .i64 1, .int .i64 0, .string ⟨#[]⟩]) (.agg #[.int .i64 1, .int .i64 0, .string ⟨#[]⟩])) W = .ok (.bool false) W := by kernel_rfl
theorem asW_facts {e t : Addr} {w : World} (ht : t.spot = none) (htl : t.block < w.heap.size) {cs : Array Value} {ty : TypeId} (hc : w.heap[t.block]? = some (.cells cs ty)) :
    (asW e t w).heap[t.block]? = some (.cells (cs.setIfInBounds t.off (.pointer (some e))) ty) ∧ Kp (· = t.block) w (asW e t w) := by
  obtain ⟨b, o, s⟩ := t
  obtain rfl : s = none := ht
  unfold asW
  have h4 : Below w.heap.size w ((((w.alloc (.cells #[.pointer (some ⟨b, o, none⟩)] 44)).alloc (.cells #[hnd 44, .pointer (some ⟨w.heap.size, 0, none⟩), .int .u64 150] 82)).alloc (.cells #[hnd 44, .pointer (some ⟨w.heap.size, 0, none⟩), .int .u64 150] 82)).alloc (.cells #[.pointer (some e)] 42)) := (below3 w _ _ _).alloc (by simp; omega) _
  exact ⟨heap_set ((h4.block _ htl).trans hc) o _, (Kp.of h4).trans (Kp.set (S := (· = b)) _ _ _ _ rfl) fun _ _ h => h⟩
set_option maxRecDepth 100000 in
set_option maxHeartbeats 4000000 in
theorem examples_any {gw ow gs os : Nat} (w : World) (ht : TabsAt gw ow gs os w) (hg : w.cell? ⟨0, 0, none⟩ = some (.iface 126 (.agg #[hnd 25]))) :
    Calls Tryz.prog 5 #[] w fun e w' => e = .returned (.bool true) ∧ Below w.heap.size w w' := by
  go_enter Tryz.func5, Tryz.ntmps5
  go_wp2_with fail
  refine Calls.mono (small_any _) ?_
  rintro _ V0 ⟨rfl, hV0⟩
  have u0 : Below w.heap.size w V0 := by rw [hV0]; exact below3 w _ _ _
  have x0 : V0.heap[w.heap.size + 1]? = some (.cells #[.int .i64 8, .string ⟨#[120]⟩, .int .i64 0, .int .i64 0, .slice none 0 0] 30) := by rw [hV0, heap_old _ _ _ (by simp)]; exact heap_new _ _ _ (by simp)
  have a0 : V0.heap[w.heap.size + 1 + 1]? = some (.cells #[.int .i64 3, .string ⟨#[65]⟩, .int .i64 0, .int .i64 0, .slice (some ⟨w.heap.size + 1, 0, none⟩) 1 1] 30) := by rw [hV0]; exact heap_new _ _ _ (by simp)
  clear hV0
  go_wp2_with fail
  refine Calls.mono (make_small (w.heap.size + 1 + 1) (w.heap.size + 1) _ (ht.below (Nat.le_refl _) u0) (heap_lt a0) (heap_lt x0) ((cells_of a0).1 0) ((cells_of a0).1 1) ((cells_of a0).1 2) ((cells_of a0).1 3) ((cells_of a0).1 4) ((cells_of x0).1 0) ((cells_of x0).1 1) ((cells_of x0).1 2) ((cells_of x0).1 3) ((cells_of x0).1 4)) ?_
  rintro _ V1 ⟨tb, M, g, cap, pb, pe, es, clk, rfl, t1, u1⟩
  have z0 := u0.size
  have z1 := u1.size
  have w1 : Below w.heap.size w V1 := u0.trans (u1.mono z0)
  clear u0 x0 a0 u1
  go_wp2_with fail
  refine Calls.mono (new_ok tb 2 _ (by decide) (by decide)) ?_
  rintro _ V2 ⟨rfl, m2, c2, u2⟩
  have z2 : V1.heap.size + 1 < V2.heap.size := heap_lt c2
  go_wp2_with fail
  refine Calls.mono (new_bad tb 1025 _ (.inr ⟨by decide, by decide⟩)) ?_
  rintro _ V3 ⟨rfl, hV3⟩
  subst hV3
  go_wp2_with fail
  obtain ⟨V4, hV4⟩ : ∃ W, W = (V2.alloc (.cells #[.int .i64 1, .int .i64 0, .string ⟨#[]⟩] 38)).alloc (.cells #[.pointer none] 42) := ⟨_, rfl⟩
  rw [← hV4]
  have y4 : V2.heap.size + 1 < V4.heap.size := by rw [hV4]; simp
  have u4 : Below V2.heap.size V2 V4 := by rw [hV4]; exact below2 _ _ _
  have e4 : V4.heap[V2.heap.size]? = some (.cells #[.int .i64 1, .int .i64 0, .string ⟨#[]⟩] 38) := by rw [hV4, heap_old _ _ _ (by simp)]; exact heap_new _ _ _ rfl
  have p4 : V4.heap[V2.heap.size + 1]? = some (.cells #[.pointer none] 42) := by rw [hV4]; exact heap_new _ _ _ (by simp)
  clear hV4
  have w2 : Below w.heap.size w V2 := w1.trans (u2.mono w1.size)
  have w4 : Below w.heap.size w V4 := w2.trans (u4.mono w2.size)
  have t4 := (t1.below u2).below u4
  have c4 : V4.heap[V1.heap.size + 1]? = _ := (u4.block _ z2).trans c2
  have m4 : V4.heap[V1.heap.size]? = _ := (u4.block _ (heap_lt m2)).trans m2
  have h0 : 0 < w.heap.size := by have := ht.two; omega
  have hz1 := w1.size
  have lts := t1.lts
  clear w2 u4 c2 m2 u2
  refine Calls.mono (as_any ⟨V2.heap.size, 0, none⟩ ⟨V2.heap.size + 1, 0, none⟩ (.pointer none) _ ((w4.cell (p := ⟨0, 0, none⟩) h0).trans hg) (by omega) y4 ((cells_of p4).1 0) ((cells_of p4).2 0)) ?_
  rintro _ V5 ⟨rfl, hV5⟩
  obtain ⟨p5, k5⟩ := asW_facts (e := ⟨V2.heap.size, 0, none⟩) (t := ⟨V2.heap.size + 1, 0, none⟩) (w := V4) rfl y4 p4
  rw [← hV5] at p5 k5
  clear hV5 p4
  have p5 : V5.heap[V2.heap.size + 1]? = some (.cells #[.pointer (some ⟨V2.heap.size, 0, none⟩)] 42) := p5
  have k5 : Kp (· = V2.heap.size + 1) V4 V5 := k5
  have y5 := k5.size
  have e5 : V5.heap[V2.heap.size]? = _ := (k5.block _ (by omega) (by omega)).trans e4
  have c5 : V5.heap[V1.heap.size + 1]? = _ := (k5.block _ (by omega) (by omega)).trans c4
  have m5 : V5.heap[V1.heap.size]? = _ := (k5.block _ (by omega) (by omega)).trans m4
  have t5 := t4.kp k5 (B := V1.heap.size) lts (fun i hi h => by omega)
  have w5 : Below w.heap.size w V5 := w4.trans (k5.below (by omega) fun i hi h => by omega)
  have pc5 := (cells_of p5).1
  have ec5 := (cells_of e5).1
  have heq := wrong_eq
  clear e4 c4 m4 t4 w4 k5
  go_wp2_with fail
  clear pc5 ec5 heq p5 e5
  refine Calls.mono (CFind_first tb M g cap pb pe es clk (V1.heap.size + 1) V1.heap.size V1.heap.size 0 0 (by decide) (by decide) _ t5 lts (by omega) c5 m5 (by omega)) ?_
  rintro _ V6 ⟨eb, pg, pc, n1, n2, rfl, he6, e6, c6, m6, hp1, hp2, hpx, hp4, k6⟩
  have y6 := k6.size
  have t6 := t5.kp k6 (B := V1.heap.size) lts (fun i hi h => by omega)
  have w6 : Below w.heap.size w V6 := w5.trans (k6.below (by omega) fun i hi h => by omega)
  clear c5 m5 t5 w5 k6
  go_wp2_with fail
  obtain ⟨V7, hV7⟩ : ∃ W, W = V6.alloc (.cells #[.int .i64 1, .slice (some ⟨n1, 0, none⟩) 1 n2, .string ⟨#[]⟩, .bool false, .int .i64 0] 50) := ⟨_, rfl⟩
  rw [← hV7]
  have u7 : Below V6.heap.size V6 V7 := by rw [hV7]; exact below1 _ _
  have y7 : V6.heap.size < V7.heap.size := by rw [hV7]; simp
  have a7 : V7.heap[V6.heap.size]? = some (.cells #[.int .i64 1, .slice (some ⟨n1, 0, none⟩) 1 n2, .string ⟨#[]⟩, .bool false, .int .i64 0] 50) := by rw [hV7]; exact heap_new _ _ _ rfl
  clear hV7
  have hel := heap_lt e6
  have hpe : pg ≠ V1.heap.size + 1 ∧ pg ≠ eb := ⟨by omega, hpx⟩
  refine Calls.mono (CFind_hit tb M g cap pb pe es clk (V1.heap.size + 1) V1.heap.size eb pg pc 0 (0 + 1) (by decide) (by decide) _ ((u7.block _ (heap_lt c6)).trans c6) ((u7.block _ (heap_lt m6)).trans m6) ((u7.block _ hel).trans e6) (by omega) ((u7.cell (p := ⟨pg, 0, none⟩) hp2).trans hp4) (by omega) (by omega) (by omega) hpe) ?_
  rintro _ V8 ⟨n3, n4, rfl, e8, c8, m8, k8⟩
  have y8 := k8.size
  have t8 := ((t6.below u7).kp k8 (B := V1.heap.size) lts (fun i hi h => by omega))
  have a8 : V8.heap[V6.heap.size]? = _ := (k8.block _ y7 (by omega)).trans a7
  have w8 : Below w.heap.size w V8 := w6.trans ((u7.mono (by omega)).trans (k8.below (by omega) fun i hi h => by omega))
  clear e6 c6 m6 t6 w6 u7 a7 k8
  go_wp2_with fail
  obtain ⟨V9, hV9⟩ : ∃ W, W = V8.alloc (.cells #[.int .i64 1, .slice (some ⟨n3, 0, none⟩) 1 n4, .string ⟨#[]⟩, .bool false, .int .i64 0] 50) := ⟨_, rfl⟩
  rw [← hV9]
  have u9 : Below V8.heap.size V8 V9 := by rw [hV9]; exact below1 _ _
  have y9 : V8.heap.size < V9.heap.size := by rw [hV9]; simp
  have b9 : V9.heap[V8.heap.size]? = some (.cells #[.int .i64 1, .slice (some ⟨n3, 0, none⟩) 1 n4, .string ⟨#[]⟩, .bool false, .int .i64 0] 50) := by rw [hV9]; exact heap_new _ _ _ rfl
  clear hV9
  refine Calls.mono (CMeets tb M g cap pb pe es clk (V1.heap.size + 1) V1.heap.size V1.heap.size eb pg pc (0 + 1) (0 + 1) (by decide) (by decide) _ (t8.below u9) lts (by omega) ((u9.block _ (heap_lt c8)).trans c8) ((u9.block _ (heap_lt m8)).trans m8) ((u9.block _ (heap_lt e8)).trans e8) (by omega) (by omega) (by omega)) ?_
  rintro _ Va ⟨nb, rfl, ca, ma, ka⟩
  have ya := ka.size
  have aa : Va.heap[V6.heap.size]? = _ := (ka.block _ (by omega) (by omega)).trans ((u9.block _ (by omega)).trans a8)
  have ba : Va.heap[V8.heap.size]? = _ := (ka.block _ (by omega) (by omega)).trans b9
  have wa : Below w.heap.size w Va := w8.trans ((u9.mono (by omega)).trans (ka.below (by omega) fun i hi h => by omega))
  have ac := (cells_of aa).1
  have bc := (cells_of ba).1
  clear e8 c8 m8 t8 w8 u9 b9 a8 ka
  go_wp2_with fail
  refine Calls.mono (hits_any _ _ _ ca) ?_
  rintro _ V ⟨rfl, hV⟩
  obtain rfl := hV.symm
  go_wp2_with fail
  refine Calls.mono (misses_any _ _ _ ca) ?_
  rintro _ V ⟨rfl, hV⟩
  obtain rfl := hV.symm
  go_wp2_with fail
  refine Calls.mono (kept_any _ _ _ _ _ ca ma (by simp)) ?_
  rintro _ V ⟨rfl, hV⟩
  obtain rfl := hV.symm
  go_wp2_with fail
  go_ret
  exact ⟨rfl, wa⟩

end Go.Proofs.YtaboeocgoocgfaaGreatDoor
