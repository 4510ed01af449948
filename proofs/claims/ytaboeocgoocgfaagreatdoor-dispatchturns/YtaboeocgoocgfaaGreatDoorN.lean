/-
  The parts of a struct type with one field.
-/
import Derived.Test.YtaboeocgoocgfaaGreatDoorM
namespace Go.Proofs.YtaboeocgoocgfaaGreatDoor
open Go.RowKit Go.ChangeMaps

/-- The parts are told: only the row of the fields was written, with what stood there. -/
def PartsP (w : World) (g : Nat) (e : Ending) (w' : World) : Prop :=
  e = .returned .nilIface ∧ Kp (· = g) w w' ∧ w'.cell? ⟨g, 0, none⟩ = some (.string ⟨#[120]⟩) ∧ w'.cell? ⟨g, 1, none⟩ = some (.int .i64 0) ∧ w'.frozen? ⟨g, 1, none⟩ = false
set_option maxRecDepth 100000 in
set_option maxHeartbeats 4000000 in
theorem structParts_A (M mb EB MB : Nat) (es : Array MapEntry) (clk : Nat) (w : World) (hM : w.heap[M]? = some (.map es clk)) (hm : w.heap[mb]? = some (.cells #[.map (some M), .int .i64 1, .map (some EB), .map (some MB)] 62)) (hX : Instr.findNow .string (.string ⟨#[120]⟩) es.toList 0 = some none) (g cap pb ix lo KX : Nat) (hA : Instr.findNow .string (.string ⟨#[65]⟩) es.toList 0 = some (some (ix, shA g cap pb))) (hsh : ShA lo w g cap pb) (_hcap : 1 ≤ cap) (hKX : KX < w.heap.size) (x0 : w.cell? ⟨KX, 0, none⟩ = some (.int .i64 8)) (x1 : w.cell? ⟨KX, 1, none⟩ = some (.string ⟨#[120]⟩)) (x2 : w.cell? ⟨KX, 2, none⟩ = some (.int .i64 0)) (x3 : w.cell? ⟨KX, 3, none⟩ = some (.int .i64 0)) (x4 : w.cell? ⟨KX, 4, none⟩ = some (.slice none 0 0)) :
    Calls Tryz.prog 37 #[.pointer (some ⟨mb, 0, none⟩), .agg #[.int .i64 3, .string ⟨#[65]⟩, .int .i64 0, .int .i64 0, .slice (some ⟨KX, 0, none⟩) 1 1]] w (PartsP w g) := by
  have hMl := heap_lt hM
  have hml := heap_lt hm
  go_enter Tryz.func37, Tryz.ntmps37
  go_wp2_with fail
  obtain ⟨U0, hU0⟩ : ∃ W, W = w.alloc (.cells #[.int .i64 3, .string ⟨#[65]⟩, .int .i64 0, .int .i64 0, .slice (some ⟨KX, 0, none⟩) 1 1] 30) := ⟨_, rfl⟩
  rw [← hU0]
  have u0 : Below w.heap.size w U0 := by rw [hU0]; exact below1 w _
  have y0 : w.heap.size < U0.heap.size := by rw [hU0]; simp
  have hM0 : U0.heap[M]? = some (.map es clk) := (u0.block _ hMl).trans hM
  have hm0 : U0.heap[mb]? = _ := (u0.block _ hml).trans hm
  have hb0 : U0.heap[w.heap.size]? = some (.cells #[.int .i64 3, .string ⟨#[65]⟩, .int .i64 0, .int .i64 0, .slice (some ⟨KX, 0, none⟩) 1 1] 30) := by rw [hU0]; exact heap_new _ _ _ rfl
  clear hU0
  refine wp_region_noPanic ?_
  refine wp_region_held (S := fun W => (∀ j, W.cell? ⟨w.heap.size, j, none⟩ = (#[.int .i64 3, .string ⟨#[65]⟩, .int .i64 0, .int .i64 0, .slice (some ⟨KX, 0, none⟩) 1 1] : Array Value)[j]?) ∧ (∀ j, W.cell? ⟨mb, j, none⟩ = (#[.map (some M), .int .i64 1, .map (some EB), .map (some MB)] : Array Value)[j]?) ∧ W.heap[M]? = some (.map es clk)) (by kernel_rfl) ?_
  obtain ⟨U1, hU1⟩ : ∃ W4, W4 = (U0).drew := ⟨_, rfl⟩
  have e4 : ({ U0 with drawn := (U0).drawn + 1 } : World) = U1 := hU1.symm
  rw [e4]
  have hB4 : Below (U0).heap.size (U0) U1 := by rw [hU1]; exact (Below.refl _ _).drew
  have hS : (∀ j, U1.cell? ⟨w.heap.size, j, none⟩ = (#[.int .i64 3, .string ⟨#[65]⟩, .int .i64 0, .int .i64 0, .slice (some ⟨KX, 0, none⟩) 1 1] : Array Value)[j]?) ∧ (∀ j, U1.cell? ⟨mb, j, none⟩ = (#[.map (some M), .int .i64 1, .map (some EB), .map (some MB)] : Array Value)[j]?) ∧ U1.heap[M]? = some (.map es clk) := ⟨(cells_of ((hB4.block _ (by omega)).trans hb0)).1, (cells_of ((hB4.block _ (by omega)).trans hm0)).1, (hB4.block _ (by omega)).trans hM0⟩
  have HU1 : Hid (U1 = (U0).drew) := hU1
  clear e4 hU1
  refine wpAnyH_take (i := 0) (v := .pointer (some ⟨mb, 0, none⟩)) rfl (by kernel_rfl) (by kernel_rfl) (by kernel_rfl) (fun _ _ _ h => h) (Or.inl ⟨by rfl, ?r⟩) hS ?_
  case r => intro W hW; simp [go_sem, execOp, Act.eval]
  simp only [List.getElem_toArray, List.getElem_cons_zero, Act.put, List.setIfInBounds_toArray, List.set_cons_succ, List.set_cons_zero]
  refine wpAnyH_take (i := 1) (v := .pointer (some ⟨mb, 0, none⟩)) rfl (by kernel_rfl) (by kernel_rfl) (by kernel_rfl) (fun _ _ _ h => h) (Or.inl ⟨by rfl, ?r⟩) hS ?_
  case r => intro W hW; simp [go_sem, execOp, Act.eval]
  simp only [List.getElem_toArray, List.getElem_cons_zero, List.getElem_cons_succ, Act.put, List.setIfInBounds_toArray, List.set_cons_succ, List.set_cons_zero]
  refine wpAnyH_take (i := 2) (v := .pointer (some ⟨mb, 0, none⟩)) rfl (by kernel_rfl) (by kernel_rfl) (by kernel_rfl) (fun _ _ _ h => h) (Or.inl ⟨by rfl, ?r⟩) hS ?_
  case r => intro W hW; simp [go_sem, execOp, Act.eval]
  simp only [List.getElem_toArray, List.getElem_cons_zero, List.getElem_cons_succ, Act.put, List.setIfInBounds_toArray, List.set_cons_succ, List.set_cons_zero]
  refine wpAnyH_take (i := 3) (v := .map (some M)) rfl (by kernel_rfl) (by kernel_rfl) (by kernel_rfl) (fun _ _ _ h => h) (Or.inl ⟨by rfl, ?r⟩) hS ?_
  case r => intro W hW; simp [go_sem, execOp, Act.eval, hW.2.1]
  simp only [List.getElem_toArray, List.getElem_cons_zero, List.getElem_cons_succ, Act.put, List.setIfInBounds_toArray, List.set_cons_succ, List.set_cons_zero]
  refine wpAnyH_take (i := 4) (v := .pointer (some ⟨w.heap.size, 1, none⟩)) rfl (by kernel_rfl) (by kernel_rfl) (by kernel_rfl) (fun _ _ _ h => h) (Or.inl ⟨by rfl, ?r⟩) hS ?_
  case r => intro W hW; simp [go_sem, execOp, Act.eval]
  simp only [List.getElem_toArray, List.getElem_cons_zero, List.getElem_cons_succ, Act.put, List.setIfInBounds_toArray, List.set_cons_succ, List.set_cons_zero]
  refine wpAnyH_take (i := 5) (v := .string ⟨#[65]⟩) rfl (by kernel_rfl) (by kernel_rfl) (by kernel_rfl) (fun _ _ _ h => h) (Or.inl ⟨by rfl, ?r⟩) hS ?_
  case r => intro W hW; simp [go_sem, execOp, Act.eval, hW.1]
  simp only [List.getElem_toArray, List.getElem_cons_zero, List.getElem_cons_succ, Act.put, List.setIfInBounds_toArray, List.set_cons_succ, List.set_cons_zero]
  refine wpAnyH_take (i := 6) (v := .agg #[.int .i64 8, .bool false, .slice (some ⟨g, 0, none⟩) 1 cap, .map (some pb)]) rfl (by kernel_rfl) (by kernel_rfl) (by kernel_rfl) (fun _ _ _ h => h) (Or.inl ⟨by rfl, ?r⟩) hS ?_
  case r => intro W hW; simp [go_sem, execOp, Act.eval, look_yes (P := Tryz.prog) Tryz.underlying57 Tryz.underlying9 hW.2.2 hA false]
  simp only [List.getElem_toArray, List.getElem_cons_zero, List.getElem_cons_succ, Act.put, List.setIfInBounds_toArray, List.set_cons_succ, List.set_cons_zero]
  have u1 : Below w.heap.size w U1 := u0.trans (hB4.mono (by omega))
  have y1 : w.heap.size < U1.heap.size := Nat.lt_of_lt_of_le y0 hB4.size
  have hM1 : U1.heap[M]? = some (.map es clk) := (hB4.block _ (by omega)).trans hM0
  have hm1 : U1.heap[mb]? = _ := (hB4.block _ (by omega)).trans hm0
  have hb1 : U1.heap[w.heap.size]? = _ := (hB4.block _ (by omega)).trans hb0
  clear HU1 hB4
  refine wpAnyH_all (rs := [7]) (by kernel_rfl) (by simp) (fun i2 hi2 => ?_)
  obtain rfl : i2 = 7 := by simpa using hi2
  clear hi2
  refine wpOp_step rfl (fun K hK => ite_yes rfl ?_)
  simp only [List.getElem_toArray, List.getElem_cons_zero, List.getElem_cons_succ]
  go_simp
  obtain ⟨U2, hU2⟩ : ∃ W, W = U1.alloc (.cells #[.int .i64 0, .bool false, .slice none 0 0, .map none] 106) := ⟨_, rfl⟩
  rw [← hU2]
  have v2 : Below U1.heap.size U1 U2 := by rw [hU2]; exact below1 _ _
  have y2 : U1.heap.size < U2.heap.size := by rw [hU2]; simp
  have n2 : U2.heap[U1.heap.size]? = some (.cells #[.int .i64 0, .bool false, .slice none 0 0, .map none] 106) := by rw [hU2]; exact heap_new _ _ _ rfl
  clear hU2
  have hM2 : U2.heap[M]? = some (.map es clk) := (v2.block _ (by omega)).trans hM1
  have hm2 : U2.heap[mb]? = _ := (v2.block _ (by omega)).trans hm1
  have hb2 : U2.heap[w.heap.size]? = _ := (v2.block _ (by omega)).trans hb1
  have hSU2 : (∀ j, U2.cell? ⟨w.heap.size, j, none⟩ = (#[.int .i64 3, .string ⟨#[65]⟩, .int .i64 0, .int .i64 0, .slice (some ⟨KX, 0, none⟩) 1 1] : Array Value)[j]?) ∧ (∀ j, U2.cell? ⟨mb, j, none⟩ = (#[.map (some M), .int .i64 1, .map (some EB), .map (some MB)] : Array Value)[j]?) ∧ U2.heap[M]? = some (.map es clk) := ⟨(cells_of hb2).1, (cells_of hm2).1, hM2⟩
  refine hK _ _ ⟨hSU2, ?_⟩
  clear hK K hS
  have hS := hSU2
  clear hSU2
  try simp only [Act.put, List.setIfInBounds_toArray, List.set_cons_succ, List.set_cons_zero]
  obtain ⟨nc2, nf2⟩ := cells_of n2
  refine wpAnyH_all (rs := [8]) (by kernel_rfl) (by simp) (fun i2 hi2 => ?_)
  obtain rfl : i2 = 8 := by simpa using hi2
  clear hi2
  refine wpOp_step rfl (fun K hK => ite_yes rfl ?_)
  simp only [List.getElem_toArray, List.getElem_cons_zero, List.getElem_cons_succ]
  go_simp
  obtain ⟨W2, hW2⟩ : ∃ W, W = (((U2.setCell ⟨U1.heap.size, 0, none⟩ (.int .i64 8)).setCell ⟨U1.heap.size, 1, none⟩ (.bool false)).setCell ⟨U1.heap.size, 2, none⟩ (.slice (some ⟨g, 0, none⟩) 1 cap)).setCell ⟨U1.heap.size, 3, none⟩ (.map (some pb)) := ⟨_, rfl⟩
  rw [← hW2]
  have v3 : Kp (· = U1.heap.size) U2 W2 := by rw [hW2]; exact kp_set4 _ _ _ _ _ _
  have n3 : W2.heap[U1.heap.size]? = some (.cells #[.int .i64 8, .bool false, .slice (some ⟨g, 0, none⟩) 1 cap, .map (some pb)] 106) := by rw [hW2]; exact heap_set (heap_set (heap_set (heap_set n2 0 _) 1 _) 2 _) 3 _
  clear hW2
  have y3 := v3.size
  have hM3 : W2.heap[M]? = some (.map es clk) := (v3.block _ (by omega) (by omega)).trans hM2
  have hm3 : W2.heap[mb]? = _ := (v3.block _ (by omega) (by omega)).trans hm2
  have hb3 : W2.heap[w.heap.size]? = _ := (v3.block _ (by omega) (by omega)).trans hb2
  have hSW2 : (∀ j, W2.cell? ⟨w.heap.size, j, none⟩ = (#[.int .i64 3, .string ⟨#[65]⟩, .int .i64 0, .int .i64 0, .slice (some ⟨KX, 0, none⟩) 1 1] : Array Value)[j]?) ∧ (∀ j, W2.cell? ⟨mb, j, none⟩ = (#[.map (some M), .int .i64 1, .map (some EB), .map (some MB)] : Array Value)[j]?) ∧ W2.heap[M]? = some (.map es clk) := ⟨(cells_of hb3).1, (cells_of hm3).1, hM3⟩
  refine hK _ _ ⟨hSW2, ?_⟩
  clear hK K hS
  have hS := hSW2
  clear hSW2
  try simp only [Act.put, List.setIfInBounds_toArray, List.set_cons_succ, List.set_cons_zero]
  refine wpAnyH_done (by kernel_rfl) ?_ _
  refine NoPanic.normal ?_
  try simp only [Act.put]
  have b2 : Below w.heap.size w W2 := u1.trans ((v2.mono (by omega)).trans (v3.below (by omega) fun i hi h => by omega))
  have z2 : w.heap.size + 1 < W2.heap.size := by omega
  have sbl : w.heap.size + 1 ≤ U1.heap.size ∧ U1.heap.size < W2.heap.size := by omega
  clear hM2 hm2 hb2 hM1 hm1 hb1 hM0 hm0 hb0 v3 v2 u1 u0 n2 nc2 nf2 hS y0 y1 y2 y3
  have hM2 := hM3
  have hm2 := hm3
  have hb2 := hb3
  clear hM3 hm3 hb3
  obtain ⟨sb, hsb⟩ : ∃ n, n = U1.heap.size := ⟨_, rfl⟩
  rw [← hsb] at n3 sbl ⊢
  clear hsb U1
  have X0 : W2.cell? ⟨KX, 0, none⟩ = some (.int .i64 8) := (b2.cell (p := ⟨KX, 0, none⟩) hKX).trans x0
  have X1 : W2.cell? ⟨KX, 1, none⟩ = some (.string ⟨#[120]⟩) := (b2.cell (p := ⟨KX, 1, none⟩) hKX).trans x1
  have X2 : W2.cell? ⟨KX, 2, none⟩ = some (.int .i64 0) := (b2.cell (p := ⟨KX, 2, none⟩) hKX).trans x2
  have X3 : W2.cell? ⟨KX, 3, none⟩ = some (.int .i64 0) := (b2.cell (p := ⟨KX, 3, none⟩) hKX).trans x3
  have X4 : W2.cell? ⟨KX, 4, none⟩ = some (.slice none 0 0) := (b2.cell (p := ⟨KX, 4, none⟩) hKX).trans x4
  have hKX2 : KX < W2.heap.size := by omega
  have hg1 := hsh.ghi
  have bc := (cells_of hb2).1
  have sc2 := (cells_of n3).1
  have hbl := heap_lt hb2
  go_wp2_with fail
  refine wp_loop_rounds 2 ?_
  rw [rounds_succ]
  go_wp2_with fail
  obtain ⟨W3, hW3⟩ : ∃ W, W = W2.alloc (.cells #[.int .i64 8, .string ⟨#[120]⟩, .int .i64 0, .int .i64 0, .slice none 0 0] 30) := ⟨_, rfl⟩
  rw [← hW3]
  have b3 : Below W2.heap.size W2 W3 := by rw [hW3]; exact below1 _ _
  have y3 : W2.heap.size < W3.heap.size := by rw [hW3]; simp
  have k3 : W3.heap[W2.heap.size]? = some (.cells #[.int .i64 8, .string ⟨#[120]⟩, .int .i64 0, .int .i64 0, .slice none 0 0] 30) := by rw [hW3]; exact heap_new _ _ _ rfl
  clear hW3
  have hM3 : W3.heap[M]? = some (.map es clk) := (b3.block _ (by omega)).trans hM2
  have hm3 : W3.heap[mb]? = _ := (b3.block _ (by omega)).trans hm2
  have hb3 : W3.heap[w.heap.size]? = _ := (b3.block _ (by omega)).trans hb2
  have n4 : W3.heap[sb]? = _ := (b3.block _ (by omega)).trans n3
  have kc3 := (cells_of k3).1
  have bc3 := (cells_of hb3).1
  refine Calls.mono (containsFunc_none _ _ _) ?_
  rintro _ _ ⟨rfl, rfl⟩
  go_wp2_with fail
  refine Calls.mono (embed_X M mb EB MB es clk _ hM3 hm3 hX) ?_
  rintro _ W4 ⟨rfl, b4⟩
  have y4 := b4.size
  have hb4 : W4.heap[w.heap.size]? = _ := (b4.block _ (by omega)).trans hb3
  have n5 : W4.heap[sb]? = _ := (b4.block _ (by omega)).trans n4
  have sc4 := (cells_of n5).1
  have bc4 := (cells_of hb4).1
  have Q4 : Below w.heap.size w W4 := b2.trans ((b3.mono (by omega)).trans (b4.mono (by omega)))
  have g40 := (Q4.cell (p := ⟨g, 0, none⟩) hg1).trans hsh.name
  have g41 := (Q4.cell (p := ⟨g, 1, none⟩) hg1).trans hsh.embed
  have g42 := (Q4.frozen (p := ⟨g, 1, none⟩) hg1).trans hsh.fro
  go_wp2_with fail
  obtain ⟨W5, hW5⟩ : ∃ W, W = W4.setCell ⟨g, 1, none⟩ (.int .i64 0) := ⟨_, rfl⟩
  rw [← hW5]
  have k5 : Kp (· = g) W4 W5 := by rw [hW5]; exact Kp.set _ _ _ _ rfl
  have g50 : W5.cell? ⟨g, 0, none⟩ = some (.string ⟨#[120]⟩) := by rw [hW5, World.cell?_setCell_other _ _ _ _ (by simp)]; exact g40
  have g51 : W5.cell? ⟨g, 1, none⟩ = some (.int .i64 0) := by rw [hW5]; exact World.cell?_setCell_same _ _ _ g41
  have g52 : W5.frozen? ⟨g, 1, none⟩ = false := by rw [hW5]; simpa using g42
  clear hW5
  rw [rounds_succ]
  go_wp2_with fail
  go_ret
  exact ⟨rfl, (Kp.of Q4).trans k5 fun _ _ h => h, g50, g51, g52⟩

theorem ShA.below {lo g cap pb : Nat} {w w' : World} (h : ShA lo w g cap pb) (hb : Below w.heap.size w w') : ShA lo w' g cap pb :=
  ⟨h.glo, Nat.lt_of_lt_of_le h.ghi hb.size, h.plo, Nat.lt_of_lt_of_le h.phi hb.size, h.ne, (hb.cell (p := ⟨g, 0, none⟩) h.ghi).trans h.name, (hb.cell (p := ⟨g, 1, none⟩) h.ghi).trans h.embed, (hb.frozen (p := ⟨g, 1, none⟩) h.ghi).trans h.fro, (hb.block _ h.phi).trans h.parts⟩
set_option maxRecDepth 100000 in
set_option maxHeartbeats 4000000 in
theorem parts_A (M mb EB MB : Nat) (es : Array MapEntry) (clk : Nat) (w : World) (hM : w.heap[M]? = some (.map es clk)) (hm : w.heap[mb]? = some (.cells #[.map (some M), .int .i64 1, .map (some EB), .map (some MB)] 62)) (hX : Instr.findNow .string (.string ⟨#[120]⟩) es.toList 0 = some none) (g cap pb ix lo KX : Nat) (hA : Instr.findNow .string (.string ⟨#[65]⟩) es.toList 0 = some (some (ix, shA g cap pb))) (hsh : ShA lo w g cap pb) (hcap : 1 ≤ cap) (hKX : KX < w.heap.size) (x0 : w.cell? ⟨KX, 0, none⟩ = some (.int .i64 8)) (x1 : w.cell? ⟨KX, 1, none⟩ = some (.string ⟨#[120]⟩)) (x2 : w.cell? ⟨KX, 2, none⟩ = some (.int .i64 0)) (x3 : w.cell? ⟨KX, 3, none⟩ = some (.int .i64 0)) (x4 : w.cell? ⟨KX, 4, none⟩ = some (.slice none 0 0)) :
    Calls Tryz.prog 21 #[.pointer (some ⟨mb, 0, none⟩), .agg #[.int .i64 3, .string ⟨#[65]⟩, .int .i64 0, .int .i64 0, .slice (some ⟨KX, 0, none⟩) 1 1]] w (PartsP w g) := by
  have hMl := heap_lt hM
  have hml := heap_lt hm
  go_enter Tryz.func21, Tryz.ntmps21
  go_wp2_with fail
  refine Calls.mono (structParts_A M mb EB MB es clk _ ((heap_old _ _ _ hMl).trans hM) ((heap_old _ _ _ hml).trans hm) hX g cap pb ix lo KX hA (hsh.below (below1 w _)) hcap (by simp; omega) (((below1 w _).cell (p := ⟨KX, 0, none⟩) hKX).trans x0) (((below1 w _).cell (p := ⟨KX, 1, none⟩) hKX).trans x1) (((below1 w _).cell (p := ⟨KX, 2, none⟩) hKX).trans x2) (((below1 w _).cell (p := ⟨KX, 3, none⟩) hKX).trans x3) (((below1 w _).cell (p := ⟨KX, 4, none⟩) hKX).trans x4)) ?_
  rintro _ w1 ⟨rfl, k, g0, g1, g2⟩
  go_wp2_with fail
  go_ret
  exact ⟨rfl, (Kp.alloc _ w _).trans k fun _ _ h => h, g0, g1, g2⟩

end Go.Proofs.YtaboeocgoocgfaaGreatDoor
