/-
  The calls of a cache.
-/
import Derived.Test.YtaboeocgoocgfaaGreatDoorAd
namespace Go.Proofs.YtaboeocgoocgfaaGreatDoor
open Go.RowKit Go.ChangeMaps

set_option maxRecDepth 100000 in
set_option maxHeartbeats 4000000 in
theorem CFind_first {rm : Int} (tb M g cap pb pe : Nat) (es : Array MapEntry) (clk : Nat) (cb mb : Nat) (tB : Nat) (h m : Int) (hh : 0 ≤ m ∧ m < 1000) (hrm : 1 ≤ rm) (w : World) (ht : TabAt w tb M g cap pb pe es clk) (hB : tb < tB ∧ M < tB ∧ g < tB ∧ pb < tB ∧ pe < tB) (hBc : tB ≤ cb) (hc : w.heap[cb]? = some (.cells #[.func (.func 24) #[.pointer (some ⟨tb, 0, none⟩)] #[], .func (.func 25) #[.pointer (some ⟨tb, 0, none⟩)] #[], .int .i64 rm, .int .i64 h, .int .i64 m, .map (some mb), .int .i64 0, .string ⟨#[]⟩, .bool false, .string ⟨#[]⟩, .int .i64 0, .slice none 0 0, .string ⟨#[]⟩, .bool false, .int .i64 0, .bool false, .pointer (some ⟨cb, 6, none⟩), .pointer (some ⟨cb, 6, none⟩)] 74)) (hm : w.heap[mb]? = some (.map #[] 0)) (hmc : mb ≠ cb) :
    Calls Tryz.prog 15 #[.pointer (some ⟨cb, 0, none⟩), .string ⟨#[65]⟩, .bool false, .string ⟨#[120]⟩] w fun e w' => ∃ eb pg pc ng nc, e = .returned (fndX ng nc) ∧ w.heap.size ≤ eb ∧ w'.heap[eb]? = some (.cells #[.int .i64 0, .string ⟨#[65]⟩, .bool false, .string ⟨#[120]⟩, .int .i64 1, .slice (some ⟨pg, 0, none⟩) 1 pc, .string ⟨#[]⟩, .bool false, .int .i64 0, .bool false, .pointer (some ⟨cb, 6, none⟩), .pointer (some ⟨cb, 6, none⟩)] 72) ∧ w'.heap[cb]? = some (.cells #[.func (.func 24) #[.pointer (some ⟨tb, 0, none⟩)] #[], .func (.func 25) #[.pointer (some ⟨tb, 0, none⟩)] #[], .int .i64 rm, .int .i64 h, .int .i64 (m + 1), .map (some mb), .int .i64 0, .string ⟨#[]⟩, .bool false, .string ⟨#[]⟩, .int .i64 0, .slice none 0 0, .string ⟨#[]⟩, .bool false, .int .i64 0, .bool false, .pointer (some ⟨eb, 0, none⟩), .pointer (some ⟨eb, 0, none⟩)] 74) ∧ w'.heap[mb]? = some (.map #[⟨.agg #[.int .i64 0, .string ⟨#[65]⟩, .bool false, .string ⟨#[120]⟩], .pointer (some ⟨eb, 0, none⟩), 0⟩] 1) ∧ w.heap.size ≤ pg ∧ pg < w'.heap.size ∧ pg ≠ eb ∧ w'.cell? ⟨pg, 0, none⟩ = some (.int .i64 0) ∧ Kp (fun i => i = cb ∨ i = mb) w w' := by
  have hcl := heap_lt hc
  have hml := heap_lt hm
  go_enter Tryz.func15, Tryz.ntmps15
  go_wp2_with fail
  refine Calls.mono (ask_first tb M g cap pb pe es clk cb mb tB h m hh hrm _ (ht.below (below1 w _)) hB hBc ((heap_old _ _ _ hcl).trans hc) ((heap_old _ _ _ hml).trans hm) hmc) ?_
  rintro _ V1 ⟨eb, pg, pc, rfl, he1, e1, c1, m1, hp1, hp2, hpx, hp3, hp4, k1⟩
  have z1 := k1.size
  simp only [World.size_alloc] at z1
  have hp2' := hp2
  simp only [World.size_alloc] at he1 hp1
  have r1 : V1.heap[w.heap.size]? = some (.cells #[.int .i64 0, .slice none 0 0, .string ⟨#[]⟩, .bool false, .int .i64 0] 50) := (k1.block _ (by simp) (by omega)).trans (heap_new _ _ _ rfl)
  have ec1 := (cells_of e1).1
  go_wp2_with fail
  refine Calls.mono (copied_X pg pc _ hp2 hp4) ?_
  rintro _ V2 ⟨ng, nc, rfl, k2⟩
  have z2 := k2.size
  have r2 : V2.heap[w.heap.size]? = some (.cells #[.int .i64 0, .slice none 0 0, .string ⟨#[]⟩, .bool false, .int .i64 0] 50) := (k2.block _ (by omega)).trans r1
  obtain ⟨rc2, rf2⟩ := cells_of r2
  go_wp2_with fail
  obtain ⟨V3, hV3⟩ : ∃ W, W = ((((V2.setCell ⟨w.heap.size, 0, none⟩ (.int .i64 1)).setCell ⟨w.heap.size, 1, none⟩ (.slice (some ⟨ng, 0, none⟩) 1 nc)).setCell ⟨w.heap.size, 2, none⟩ (.string ⟨#[]⟩)).setCell ⟨w.heap.size, 3, none⟩ (.bool false)).setCell ⟨w.heap.size, 4, none⟩ (.int .i64 0) := ⟨_, rfl⟩
  rw [← hV3]
  have k3 : Kp (· = w.heap.size) V2 V3 := by rw [hV3]; exact kp_set5 _ _ _ _ _ _ _
  have r3 : V3.heap[w.heap.size]? = some (.cells #[.int .i64 1, .slice (some ⟨ng, 0, none⟩) 1 nc, .string ⟨#[]⟩, .bool false, .int .i64 0] 50) := by rw [hV3]; exact kp_five r2
  clear hV3
  have z3 := k3.size
  have rc3 := (cells_of r3).1
  have lb : ∀ i, i < V1.heap.size → i ≠ w.heap.size → V3.heap[i]? = V1.heap[i]? := fun i h1 h2 => (k3.block i (by omega) h2).trans (k2.block i h1)
  have kk : Kp (fun i => i = cb ∨ i = mb) w V3 := (((Kp.alloc (fun i => i = cb ∨ i = mb) w _).trans k1 fun _ _ h => h).trans (Kp.of (S := fun _ => False) k2) fun _ _ h => h.elim).trans k3 fun _ _ h => by omega
  exact bodyPost_ret (v := fndX ng nc) (by simp [results, Tryz.results15, go_sem, rc3]) rfl ⟨eb, pg, pc, ng, nc, rfl, by omega, (lb _ (heap_lt e1) (by omega)).trans e1, (lb _ (heap_lt c1) (by omega)).trans c1, (lb _ (heap_lt m1) (by omega)).trans m1, by omega, by omega, hpx, (World.cell?_of_block (a := ⟨pg, 0, none⟩) (lb pg hp2 (by omega))).trans hp4, kk⟩

set_option maxRecDepth 100000 in
set_option maxHeartbeats 4000000 in
theorem CFind_hit {rm : Int} (tb M g cap pb pe : Nat) (es : Array MapEntry) (clk : Nat) (cb mb : Nat) (eb pg pc : Nat) (h m : Int) (hh : 0 ≤ h ∧ h < 1000) (hrm : 1 ≤ rm) (w : World) (hc : w.heap[cb]? = some (.cells #[.func (.func 24) #[.pointer (some ⟨tb, 0, none⟩)] #[], .func (.func 25) #[.pointer (some ⟨tb, 0, none⟩)] #[], .int .i64 rm, .int .i64 h, .int .i64 m, .map (some mb), .int .i64 0, .string ⟨#[]⟩, .bool false, .string ⟨#[]⟩, .int .i64 0, .slice none 0 0, .string ⟨#[]⟩, .bool false, .int .i64 0, .bool false, .pointer (some ⟨eb, 0, none⟩), .pointer (some ⟨eb, 0, none⟩)] 74)) (hm : w.heap[mb]? = some (.map #[⟨.agg #[.int .i64 0, .string ⟨#[65]⟩, .bool false, .string ⟨#[120]⟩], .pointer (some ⟨eb, 0, none⟩), 0⟩] 1)) (he : w.heap[eb]? = some (.cells #[.int .i64 0, .string ⟨#[65]⟩, .bool false, .string ⟨#[120]⟩, .int .i64 1, .slice (some ⟨pg, 0, none⟩) 1 pc, .string ⟨#[]⟩, .bool false, .int .i64 0, .bool false, .pointer (some ⟨cb, 6, none⟩), .pointer (some ⟨cb, 6, none⟩)] 72)) (hpl : pg < w.heap.size) (hp : w.cell? ⟨pg, 0, none⟩ = some (.int .i64 0)) (hne : cb ≠ eb) (hmc : mb ≠ cb) (hme : mb ≠ eb) (hpn : pg ≠ cb ∧ pg ≠ eb) :
    Calls Tryz.prog 15 #[.pointer (some ⟨cb, 0, none⟩), .string ⟨#[65]⟩, .bool false, .string ⟨#[120]⟩] w fun e w' => ∃ ng nc, e = .returned (fndX ng nc) ∧ w'.heap[eb]? = some (.cells #[.int .i64 0, .string ⟨#[65]⟩, .bool false, .string ⟨#[120]⟩, .int .i64 1, .slice (some ⟨pg, 0, none⟩) 1 pc, .string ⟨#[]⟩, .bool false, .int .i64 0, .bool false, .pointer (some ⟨cb, 6, none⟩), .pointer (some ⟨cb, 6, none⟩)] 72) ∧ w'.heap[cb]? = some (.cells #[.func (.func 24) #[.pointer (some ⟨tb, 0, none⟩)] #[], .func (.func 25) #[.pointer (some ⟨tb, 0, none⟩)] #[], .int .i64 rm, .int .i64 (h + 1), .int .i64 m, .map (some mb), .int .i64 0, .string ⟨#[]⟩, .bool false, .string ⟨#[]⟩, .int .i64 0, .slice none 0 0, .string ⟨#[]⟩, .bool false, .int .i64 0, .bool false, .pointer (some ⟨eb, 0, none⟩), .pointer (some ⟨eb, 0, none⟩)] 74) ∧ w'.heap[mb]? = some (.map #[⟨.agg #[.int .i64 0, .string ⟨#[65]⟩, .bool false, .string ⟨#[120]⟩], .pointer (some ⟨eb, 0, none⟩), 0⟩] 1) ∧ Kp (fun i => i = cb ∨ i = eb) w w' := by
  have hcl := heap_lt hc
  have hml := heap_lt hm
  go_enter Tryz.func15, Tryz.ntmps15
  go_wp2_with fail
  refine Calls.mono (ask_hit tb M g cap pb pe es clk cb mb eb pg pc h m hh hrm _ ((heap_old _ _ _ hcl).trans hc) ((heap_old _ _ _ hml).trans hm) ((heap_old _ _ _ (heap_lt he)).trans he) hne hmc hme) ?_
  rintro _ V1 ⟨rfl, e1, c1, m1, k1⟩
  have z1 := k1.size
  simp only [World.size_alloc] at z1
  have hel := heap_lt he
  have hp2 : pg < V1.heap.size := by omega
  have hp4 : V1.cell? ⟨pg, 0, none⟩ = some (.int .i64 0) := (k1.cell (by simp; omega) (by omega)).trans ((World.cell?_of_block (a := ⟨pg, 0, none⟩) (heap_old w _ pg hpl)).trans hp)
  have r1 : V1.heap[w.heap.size]? = some (.cells #[.int .i64 0, .slice none 0 0, .string ⟨#[]⟩, .bool false, .int .i64 0] 50) := (k1.block _ (by simp) (by omega)).trans (heap_new _ _ _ rfl)
  have ec1 := (cells_of e1).1
  go_wp2_with fail
  refine Calls.mono (copied_X pg pc _ hp2 hp4) ?_
  rintro _ V2 ⟨ng, nc, rfl, k2⟩
  have z2 := k2.size
  have r2 : V2.heap[w.heap.size]? = some (.cells #[.int .i64 0, .slice none 0 0, .string ⟨#[]⟩, .bool false, .int .i64 0] 50) := (k2.block _ (by omega)).trans r1
  obtain ⟨rc2, rf2⟩ := cells_of r2
  go_wp2_with fail
  obtain ⟨V3, hV3⟩ : ∃ W, W = ((((V2.setCell ⟨w.heap.size, 0, none⟩ (.int .i64 1)).setCell ⟨w.heap.size, 1, none⟩ (.slice (some ⟨ng, 0, none⟩) 1 nc)).setCell ⟨w.heap.size, 2, none⟩ (.string ⟨#[]⟩)).setCell ⟨w.heap.size, 3, none⟩ (.bool false)).setCell ⟨w.heap.size, 4, none⟩ (.int .i64 0) := ⟨_, rfl⟩
  rw [← hV3]
  have k3 : Kp (· = w.heap.size) V2 V3 := by rw [hV3]; exact kp_set5 _ _ _ _ _ _ _
  have r3 : V3.heap[w.heap.size]? = some (.cells #[.int .i64 1, .slice (some ⟨ng, 0, none⟩) 1 nc, .string ⟨#[]⟩, .bool false, .int .i64 0] 50) := by rw [hV3]; exact kp_five r2
  clear hV3
  have z3 := k3.size
  have rc3 := (cells_of r3).1
  have lb : ∀ i, i < V1.heap.size → i ≠ w.heap.size → V3.heap[i]? = V1.heap[i]? := fun i h1 h2 => (k3.block i (by omega) h2).trans (k2.block i h1)
  have kk : Kp (fun i => i = cb ∨ i = eb) w V3 := (((Kp.alloc (fun i => i = cb ∨ i = eb) w _).trans k1 fun _ _ h => h).trans (Kp.of (S := fun _ => False) k2) fun _ _ h => h.elim).trans k3 fun _ _ h => by omega
  exact bodyPost_ret (v := fndX ng nc) (by simp [results, Tryz.results15, go_sem, rc3]) rfl ⟨ng, nc, rfl, (lb _ (heap_lt e1) (by omega)).trans e1, (lb _ (heap_lt c1) (by omega)).trans c1, (lb _ (heap_lt m1) (by omega)).trans m1, kk⟩

set_option maxRecDepth 100000 in
set_option maxHeartbeats 4000000 in
theorem CMeets {rm : Int} (tb M g cap pb pe : Nat) (es : Array MapEntry) (clk : Nat) (cb mb : Nat) (tB eb pg pc : Nat) (h m : Int) (hh : 0 ≤ m ∧ m < 1000) (hrm : 2 ≤ rm) (w : World) (ht : TabAt w tb M g cap pb pe es clk) (hB : tb < tB ∧ M < tB ∧ g < tB ∧ pb < tB ∧ pe < tB) (hBc : tB ≤ cb) (hc : w.heap[cb]? = some (.cells #[.func (.func 24) #[.pointer (some ⟨tb, 0, none⟩)] #[], .func (.func 25) #[.pointer (some ⟨tb, 0, none⟩)] #[], .int .i64 rm, .int .i64 h, .int .i64 m, .map (some mb), .int .i64 0, .string ⟨#[]⟩, .bool false, .string ⟨#[]⟩, .int .i64 0, .slice none 0 0, .string ⟨#[]⟩, .bool false, .int .i64 0, .bool false, .pointer (some ⟨eb, 0, none⟩), .pointer (some ⟨eb, 0, none⟩)] 74)) (hm : w.heap[mb]? = some (.map #[⟨.agg #[.int .i64 0, .string ⟨#[65]⟩, .bool false, .string ⟨#[120]⟩], .pointer (some ⟨eb, 0, none⟩), 0⟩] 1)) (he : w.heap[eb]? = some (.cells #[.int .i64 0, .string ⟨#[65]⟩, .bool false, .string ⟨#[120]⟩, .int .i64 1, .slice (some ⟨pg, 0, none⟩) 1 pc, .string ⟨#[]⟩, .bool false, .int .i64 0, .bool false, .pointer (some ⟨cb, 6, none⟩), .pointer (some ⟨cb, 6, none⟩)] 72)) (hne : cb ≠ eb) (hmc : mb ≠ cb) (hme : mb ≠ eb) :
    Calls Tryz.prog 16 #[.pointer (some ⟨cb, 0, none⟩), .string ⟨#[65]⟩, .bool false, .string ⟨#[101, 114, 114, 111, 114]⟩] w fun e w' => ∃ nb, e = .returned (.bool false) ∧ w'.heap[cb]? = some (.cells #[.func (.func 24) #[.pointer (some ⟨tb, 0, none⟩)] #[], .func (.func 25) #[.pointer (some ⟨tb, 0, none⟩)] #[], .int .i64 rm, .int .i64 h, .int .i64 (m + 1), .map (some mb), .int .i64 0, .string ⟨#[]⟩, .bool false, .string ⟨#[]⟩, .int .i64 0, .slice none 0 0, .string ⟨#[]⟩, .bool false, .int .i64 0, .bool false, .pointer (some ⟨nb, 0, none⟩), .pointer (some ⟨eb, 0, none⟩)] 74) ∧ w'.heap[mb]? = some (.map #[⟨.agg #[.int .i64 0, .string ⟨#[65]⟩, .bool false, .string ⟨#[120]⟩], .pointer (some ⟨eb, 0, none⟩), 0⟩, ⟨.agg #[.int .i64 1, .string ⟨#[65]⟩, .bool false, .string ⟨#[101, 114, 114, 111, 114]⟩], .pointer (some ⟨nb, 0, none⟩), 1⟩] 2) ∧ Kp (fun i => i = cb ∨ i = mb ∨ i = eb) w w' := by
  go_enter Tryz.func16, Tryz.ntmps16
  go_wp2_with fail
  refine Calls.mono (ask_second tb M g cap pb pe es clk cb mb tB eb pg pc h m hh hrm _ ht hB hBc hc hm he hne hmc hme) ?_
  rintro _ V1 ⟨nb, rfl, hn1, e1, c1, m1, r1, k1⟩
  have ec1 := (cells_of e1).1
  go_wp2_with fail
  go_ret
  exact ⟨nb, rfl, c1, m1, k1⟩

set_option maxRecDepth 100000 in
set_option maxHeartbeats 4000000 in
theorem hits_any {d0 d1 d2 d4 d5 d6 d7 d8 d9 d10 d11 d12 d13 d14 d15 d16 d17 : Value} (cb : Nat) (n : Int) (w : World) (hc : w.heap[cb]? = some (.cells #[d0, d1, d2, .int .i64 n, d4, d5, d6, d7, d8, d9, d10, d11, d12, d13, d14, d15, d16, d17] 74)) :
    Calls Tryz.prog 10 #[.pointer (some ⟨cb, 0, none⟩)] w fun e w' => e = .returned (.int .i64 n) ∧ w' = w := by
  have cc := (cells_of hc).1
  go_enter Tryz.func10, Tryz.ntmps10
  go_wp2_with fail
  go_ret
  exact ⟨rfl, rfl⟩

set_option maxRecDepth 100000 in
set_option maxHeartbeats 4000000 in
theorem misses_any {d0 d1 d2 d3 d5 d6 d7 d8 d9 d10 d11 d12 d13 d14 d15 d16 d17 : Value} (cb : Nat) (n : Int) (w : World) (hc : w.heap[cb]? = some (.cells #[d0, d1, d2, d3, .int .i64 n, d5, d6, d7, d8, d9, d10, d11, d12, d13, d14, d15, d16, d17] 74)) :
    Calls Tryz.prog 11 #[.pointer (some ⟨cb, 0, none⟩)] w fun e w' => e = .returned (.int .i64 n) ∧ w' = w := by
  have cc := (cells_of hc).1
  go_enter Tryz.func11, Tryz.ntmps11
  go_wp2_with fail
  go_ret
  exact ⟨rfl, rfl⟩

set_option maxRecDepth 100000 in
set_option maxHeartbeats 4000000 in
theorem kept_any {d0 d1 d2 d3 d4 d6 d7 d8 d9 d10 d11 d12 d13 d14 d15 d16 d17 : Value} (cb mb : Nat) (es : Array MapEntry) (clk : Nat) (w : World) (hc : w.heap[cb]? = some (.cells #[d0, d1, d2, d3, d4, .map (some mb), d6, d7, d8, d9, d10, d11, d12, d13, d14, d15, d16, d17] 74)) (hm : w.heap[mb]? = some (.map es clk)) (hl : es.size ≤ 100) :
    Calls Tryz.prog 12 #[.pointer (some ⟨cb, 0, none⟩)] w fun e w' => e = .returned (.int .i64 (es.size : Int)) ∧ w' = w := by
  have cc := (cells_of hc).1
  have hl2 : ∀ ty, _ := fun ty => lenQ w mb es clk ty hm hl
  go_enter Tryz.func12, Tryz.ntmps12
  go_wp2_with fail
  go_ret
  exact ⟨rfl, rfl⟩

end Go.Proofs.YtaboeocgoocgfaaGreatDoor
