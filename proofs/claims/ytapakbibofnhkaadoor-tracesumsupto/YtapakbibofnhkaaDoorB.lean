/-
  Two events held against each other: likenesses, alike.
-/
import Derived.Test.YtapakbibofnhkaaDoorA
import Derived.Laws.EntriesVeiled
namespace Go.Proofs.YtapakbibofnhkaaDoor
open Go.RowKit Go.ChangeMaps

set_option maxRecDepth 100000 in
set_option maxHeartbeats 4000000 in
theorem kind_is (e f : Ev) (v : Bool) (w : World) (h : (e.k == f.k) = v) : Calls Tryd.prog 29 #[.agg #[.int .i64 e.k, .int .i64 e.a, .string e.t], .agg #[.int .i64 f.k, .int .i64 f.a, .string f.t]] w fun r w' => r = .returned (.bool v) ∧ Below w.heap.size w w' := by
  have HV : Hid (v = (e.k == f.k)) := h.symm
  clear h
  go_enter Tryd.func29, Tryd.ntmps29
  go_wp2_with fail
  go_ret
  exact ⟨by rw [HV.out]; rfl, below2 w _ _⟩

set_option maxRecDepth 100000 in
set_option maxHeartbeats 4000000 in
theorem at_is (e f : Ev) (v : Bool) (w : World) (h : (e.a == f.a) = v) : Calls Tryd.prog 30 #[.agg #[.int .i64 e.k, .int .i64 e.a, .string e.t], .agg #[.int .i64 f.k, .int .i64 f.a, .string f.t]] w fun r w' => r = .returned (.bool v) ∧ Below w.heap.size w w' := by
  have HV : Hid (v = (e.a == f.a)) := h.symm
  clear h
  go_enter Tryd.func30, Tryd.ntmps30
  go_wp2_with fail
  go_ret
  exact ⟨by rw [HV.out]; rfl, below2 w _ _⟩

set_option maxRecDepth 100000 in
set_option maxHeartbeats 4000000 in
theorem text_is (e f : Ev) (v : Bool) (w : World) (h : (e.t == f.t) = v) : Calls Tryd.prog 31 #[.agg #[.int .i64 e.k, .int .i64 e.a, .string e.t], .agg #[.int .i64 f.k, .int .i64 f.a, .string f.t]] w fun r w' => r = .returned (.bool v) ∧ Below w.heap.size w w' := by
  have h' : (e.t.toList == f.t.toList) = v := by rw [← beq_toListBytes]; exact h
  have HV : Hid (v = (e.t.toList == f.t.toList)) := h'.symm
  clear h h'
  go_enter Tryd.func31, Tryd.ntmps31
  go_wp2_with fail
  go_ret
  exact ⟨by rw [HV.out]; rfl, below2 w _ _⟩

set_option maxRecDepth 100000 in
set_option maxHeartbeats 4000000 in
theorem likenesses_any (w : World) : Calls Tryd.prog 16 #[] w fun r w' => r = .returned (.slice (some ⟨w.heap.size, 0, none⟩) 3 3) ∧ w' = w.alloc (.cells #[.func (.func 29) #[] #[], .func (.func 30) #[] #[], .func (.func 31) #[] #[]] 62) := by
  go_enter Tryd.func16, Tryd.ntmps16
  go_wp2_with fail
  go_ret
  exact ⟨rfl, rfl⟩

set_option maxRecDepth 100000 in
set_option maxHeartbeats 4000000 in
theorem alike_any (e f : Ev) (g : Nat) (w : World) (hg : w.heap[g]? = some (.cells #[.func (.func 29) #[] #[], .func (.func 30) #[] #[], .func (.func 31) #[] #[]] 62)) (v : Bool) (hv : e.same f = v) : Calls Tryd.prog 17 #[.slice (some ⟨g, 0, none⟩) 3 3, .agg #[.int .i64 e.k, .int .i64 e.a, .string e.t], .agg #[.int .i64 f.k, .int .i64 f.a, .string f.t]] w fun r w' => r = .returned (.bool v) ∧ Below w.heap.size w w' := by
  have hlt := heap_lt hg
  obtain ⟨v1, h1⟩ : ∃ v, (e.k == f.k) = v := ⟨_, rfl⟩
  obtain ⟨v2, h2⟩ : ∃ v, (e.a == f.a) = v := ⟨_, rfl⟩
  obtain ⟨v3, h3⟩ : ∃ v, (e.t == f.t) = v := ⟨_, rfl⟩
  have HV : Hid (v = (v1 && v2 && v3)) := by show v = _; rw [← hv, Ev.same, h1, h2, h3]
  have H1 : Hid (∀ W, Calls Tryd.prog 29 #[.agg #[.int .i64 e.k, .int .i64 e.a, .string e.t], .agg #[.int .i64 f.k, .int .i64 f.a, .string f.t]] W fun r w' => r = .returned (.bool v1) ∧ Below W.heap.size W w') := fun W => kind_is e f v1 W h1
  have H2 : Hid (∀ W, Calls Tryd.prog 30 #[.agg #[.int .i64 e.k, .int .i64 e.a, .string e.t], .agg #[.int .i64 f.k, .int .i64 f.a, .string f.t]] W fun r w' => r = .returned (.bool v2) ∧ Below W.heap.size W w') := fun W => at_is e f v2 W h2
  have H3 : Hid (∀ W, Calls Tryd.prog 31 #[.agg #[.int .i64 e.k, .int .i64 e.a, .string e.t], .agg #[.int .i64 f.k, .int .i64 f.a, .string f.t]] W fun r w' => r = .returned (.bool v3) ∧ Below W.heap.size W w') := fun W => text_is e f v3 W h3
  clear hv h1 h2 h3
  have hc := (cells_of hg).1
  go_enter Tryd.func17, Tryd.ntmps17
  go_wp2_with fail
  obtain ⟨U0, hU0⟩ : ∃ W, W = (w.alloc (.cells #[.int .i64 e.k, .int .i64 e.a, .string e.t] 33)).alloc (.cells #[.int .i64 f.k, .int .i64 f.a, .string f.t] 33) := ⟨_, rfl⟩
  rw [← hU0]
  have u0 : Below w.heap.size w U0 := by rw [hU0]; exact below2 w _ _
  have y0 : w.heap.size + 1 < U0.heap.size := by rw [hU0]; simp
  have p0 : U0.heap[w.heap.size]? = some (.cells #[.int .i64 e.k, .int .i64 e.a, .string e.t] 33) := by rw [hU0, Below.heap_alloc _ _ _ (by simp)]; exact heap_alloc_new _ _
  have q0 : U0.heap[w.heap.size + 1]? = some (.cells #[.int .i64 f.k, .int .i64 f.a, .string f.t] 33) := by rw [hU0, show w.heap.size + 1 = (w.alloc (.cells #[.int .i64 e.k, .int .i64 e.a, .string e.t] 33)).heap.size by simp]; exact heap_alloc_new _ _
  have g0 : U0.heap[g]? = some (.cells #[.func (.func 29) #[] #[], .func (.func 30) #[] #[], .func (.func 31) #[] #[]] 62) := (u0.block _ hlt).trans hg
  clear hU0 hc hg
  refine wp_loop_rounds 4 ?_
  rw [rounds_succ]
  have z0 : w.heap.size < U0.heap.size := by omega
  have x0 : g < U0.heap.size := by omega
  have c0 := (cells_of g0).1
  have d0 := (cells_of p0).1
  have e0 := (cells_of q0).1
  go_wp2_with fail
  refine (H1.out _).mono ?_
  rintro _ U1 ⟨rfl, k1⟩
  have u1 : Below w.heap.size w U1 := (u0.alloc (by omega) _).trans (k1.mono (by simp; omega))
  have j1 := k1.size
  simp only [World.size_alloc] at j1
  have y1 : w.heap.size + 1 < U1.heap.size := by omega
  have p1 : U1.heap[w.heap.size]? = _ := (k1.block _ (by simp; omega)).trans ((heap_old _ _ _ (by omega)).trans p0)
  have q1 : U1.heap[w.heap.size + 1]? = _ := (k1.block _ (by simp; omega)).trans ((heap_old _ _ _ (by omega)).trans q0)
  have g1 : U1.heap[g]? = _ := (k1.block _ (by simp; omega)).trans ((heap_old _ _ _ (by omega)).trans g0)
  clear z0 x0 c0 d0 e0 k1 p0 q0 g0 u0 j1 y0
  cases v1
  · go_wp2_with fail
    go_ret
    exact ⟨by rw [HV.out]; simp, u1⟩
  go_wp2_with fail
  rw [rounds_succ]
  have z1 : w.heap.size < U1.heap.size := by omega
  have x1 : g < U1.heap.size := by omega
  have c1 := (cells_of g1).1
  have d1 := (cells_of p1).1
  have e1 := (cells_of q1).1
  go_wp2_with fail
  refine (H2.out _).mono ?_
  rintro _ U2 ⟨rfl, k2⟩
  have u2 : Below w.heap.size w U2 := (u1.alloc (by omega) _).trans (k2.mono (by simp; omega))
  have j2 := k2.size
  simp only [World.size_alloc] at j2
  have y2 : w.heap.size + 1 < U2.heap.size := by omega
  have p2 : U2.heap[w.heap.size]? = _ := (k2.block _ (by simp; omega)).trans ((heap_old _ _ _ (by omega)).trans p1)
  have q2 : U2.heap[w.heap.size + 1]? = _ := (k2.block _ (by simp; omega)).trans ((heap_old _ _ _ (by omega)).trans q1)
  have g2 : U2.heap[g]? = _ := (k2.block _ (by simp; omega)).trans ((heap_old _ _ _ (by omega)).trans g1)
  clear z1 x1 c1 d1 e1 k2 p1 q1 g1 u1 j2 y1
  cases v2
  · go_wp2_with fail
    go_ret
    exact ⟨by rw [HV.out]; simp, u2⟩
  go_wp2_with fail
  rw [rounds_succ]
  have z2 : w.heap.size < U2.heap.size := by omega
  have x2 : g < U2.heap.size := by omega
  have c2 := (cells_of g2).1
  have d2 := (cells_of p2).1
  have e2 := (cells_of q2).1
  go_wp2_with fail
  refine (H3.out _).mono ?_
  rintro _ U3 ⟨rfl, k3⟩
  have u3 : Below w.heap.size w U3 := (u2.alloc (by omega) _).trans (k3.mono (by simp; omega))
  have j3 := k3.size
  simp only [World.size_alloc] at j3
  have y3 : w.heap.size + 1 < U3.heap.size := by omega
  have p3 : U3.heap[w.heap.size]? = _ := (k3.block _ (by simp; omega)).trans ((heap_old _ _ _ (by omega)).trans p2)
  have q3 : U3.heap[w.heap.size + 1]? = _ := (k3.block _ (by simp; omega)).trans ((heap_old _ _ _ (by omega)).trans q2)
  have g3 : U3.heap[g]? = _ := (k3.block _ (by simp; omega)).trans ((heap_old _ _ _ (by omega)).trans g2)
  clear z2 x2 c2 d2 e2 k3 p2 q2 g2 u2 j3 y2
  cases v3
  · go_wp2_with fail
    go_ret
    exact ⟨by rw [HV.out]; simp, u3⟩
  go_wp2_with fail
  rw [rounds_succ]
  go_wp2_with fail
  go_ret
  exact ⟨by rw [HV.out]; rfl, u3⟩
end Go.Proofs.YtapakbibofnhkaaDoor
