/-
  A struct type with one field is named.
-/
import Derived.Test.YtaboeocgoocgfaaGreatDoorK
namespace Go.Proofs.YtaboeocgoocgfaaGreatDoor
open Go.RowKit Go.ChangeMaps

theorem kp_set4 (w : World) (b : Nat) (v0 v1 v2 v3 : Value) : Kp (· = b) w ((((w.setCell ⟨b, 0, none⟩ v0).setCell ⟨b, 1, none⟩ v1).setCell ⟨b, 2, none⟩ v2).setCell ⟨b, 3, none⟩ v3) :=
  (((Kp.set (S := (· = b)) _ _ _ _ rfl).trans (Kp.set (S := (· = b)) _ _ _ _ rfl) fun _ _ h => h).trans (Kp.set (S := (· = b)) _ _ _ _ rfl) fun _ _ h => h).trans (Kp.set (S := (· = b)) _ _ _ _ rfl) fun _ _ h => h
theorem ite_yes {c : Bool} {A B : Prop} (hc : c = true) (h : A) : if c = true then A else B := by rw [if_pos hc]; exact h
/-- The type is named: its shape is in the table. -/
def NameP (w : World) (M mb EB MB : Nat) (es : Array MapEntry) (clk : Nat) (e : Ending) (w' : World) : Prop :=
  e = .returned .nilIface ∧ ∃ g cap pb, w'.heap[M]? = some (.map (es.push ⟨.string ⟨#[65]⟩, shA g cap pb, clk⟩) (clk + 1)) ∧ w'.heap[mb]? = some (.cells #[.map (some M), .int .i64 1, .map (some EB), .map (some MB)] 62) ∧ 1 ≤ cap ∧ ShA w.heap.size w' g cap pb ∧ Kp (fun i => i = M ∨ i = mb) w w'

set_option maxRecDepth 100000 in
set_option maxHeartbeats 4000000 in
theorem name_A (M mb EB MB KX : Nat) (es : Array MapEntry) (clk : Nat) (w : World) (hM : w.heap[M]? = some (.map es clk)) (hA : Instr.findNow .string (.string ⟨#[65]⟩) es.toList 0 = some none) (hm : w.heap[mb]? = some (.cells #[.map (some M), .int .i64 0, .map (some EB), .map (some MB)] 62)) (hne : M ≠ mb) (hKX : KX < w.heap.size) (x0 : w.cell? ⟨KX, 0, none⟩ = some (.int .i64 8)) (x1 : w.cell? ⟨KX, 1, none⟩ = some (.string ⟨#[120]⟩)) (x2 : w.cell? ⟨KX, 2, none⟩ = some (.int .i64 0)) (x3 : w.cell? ⟨KX, 3, none⟩ = some (.int .i64 0)) (x4 : w.cell? ⟨KX, 4, none⟩ = some (.slice none 0 0)) :
    Calls Tryz.prog 20 #[.pointer (some ⟨mb, 0, none⟩), .agg #[.int .i64 3, .string ⟨#[65]⟩, .int .i64 0, .int .i64 0, .slice (some ⟨KX, 0, none⟩) 1 1]] w (NameP w M mb EB MB es clk) := by
  have hMl := heap_lt hM
  have hml := heap_lt hm
  go_enter Tryz.func20, Tryz.ntmps20
  go_wp2_with fail
  obtain ⟨U0, hU0⟩ : ∃ W, W = (w.alloc (.cells #[.int .i64 3, .string ⟨#[65]⟩, .int .i64 0, .int .i64 0, .slice (some ⟨KX, 0, none⟩) 1 1] 30)) := ⟨_, rfl⟩
  rw [← hU0]
  have u0 : Below w.heap.size w U0 := by rw [hU0]; exact below1 w _
  have y0 : w.heap.size < U0.heap.size := by rw [hU0]; simp
  have hM0 : U0.heap[M]? = some (.map es clk) := (u0.block _ hMl).trans hM
  have hm0 : U0.heap[mb]? = some (.cells #[.map (some M), .int .i64 0, .map (some EB), .map (some MB)] 62) := (u0.block _ hml).trans hm
  have hb0 : U0.heap[w.heap.size]? = some (.cells #[.int .i64 3, .string ⟨#[65]⟩, .int .i64 0, .int .i64 0, .slice (some ⟨KX, 0, none⟩) 1 1] 30) := by rw [hU0]; exact heap_new _ _ _ rfl
  clear hU0
  refine wp_region_noPanic ?_
  refine wp_region_held (S := fun W => (∀ j, W.cell? ⟨w.heap.size, j, none⟩ = (#[.int .i64 3, .string ⟨#[65]⟩, .int .i64 0, .int .i64 0, .slice (some ⟨KX, 0, none⟩) 1 1] : Array Value)[j]?) ∧ (∀ j, W.cell? ⟨mb, j, none⟩ = (#[.map (some M), .int .i64 0, .map (some EB), .map (some MB)] : Array Value)[j]?) ∧ W.heap[M]? = some (.map es clk)) (by kernel_rfl) ?_
  obtain ⟨U1, hU1⟩ : ∃ W4, W4 = (U0).drew := ⟨_, rfl⟩
  have e4 : ({ U0 with drawn := (U0).drawn + 1 } : World) = U1 := hU1.symm
  rw [e4]
  have hB4 : Below (U0).heap.size (U0) U1 := by rw [hU1]; exact (Below.refl _ _).drew
  have hS : (∀ j, U1.cell? ⟨w.heap.size, j, none⟩ = (#[.int .i64 3, .string ⟨#[65]⟩, .int .i64 0, .int .i64 0, .slice (some ⟨KX, 0, none⟩) 1 1] : Array Value)[j]?) ∧ (∀ j, U1.cell? ⟨mb, j, none⟩ = (#[.map (some M), .int .i64 0, .map (some EB), .map (some MB)] : Array Value)[j]?) ∧ U1.heap[M]? = some (.map es clk) := ⟨(cells_of ((hB4.block _ (by omega)).trans hb0)).1, (cells_of ((hB4.block _ (by omega)).trans hm0)).1, (hB4.block _ (by omega)).trans hM0⟩
  have HU1 : Hid (U1 = (U0).drew) := hU1
  clear e4 hU1
  refine wpAnyH_take (i := 0) (v := .pointer (some ⟨mb, 0, none⟩)) rfl (by kernel_rfl) (by kernel_rfl) (by kernel_rfl) (fun _ _ _ h => h) (Or.inl ⟨by rfl, ?r⟩) hS ?_
  case r => intro W hW; simp [go_sem, execOp, Act.eval]
  simp only [List.getElem_toArray, List.getElem_cons_zero, Act.put, List.setIfInBounds_toArray, List.set_cons_succ, List.set_cons_zero]
  refine wpAnyH_take (i := 1) (v := .pointer (some ⟨mb, 0, none⟩)) rfl (by kernel_rfl) (by kernel_rfl) (by kernel_rfl) (fun _ _ _ h => h) (Or.inl ⟨by rfl, ?r⟩) hS ?_
  case r => intro W hW; simp [go_sem, execOp, Act.eval]
  simp only [List.getElem_toArray, List.getElem_cons_zero, List.getElem_cons_succ, Act.put, List.setIfInBounds_toArray, List.set_cons_succ, List.set_cons_zero]
  refine wpAnyH_take (i := 2) (v := .pointer (some ⟨mb, 0, none⟩)) rfl (by kernel_rfl) (by kernel_rfl) (by kernel_rfl) (fun _ _ _ h => h) (Or.inl ⟨by rfl, ?r⟩) hS ?_
  case r => intro W hW; simp [go_sem, execOp, Act.eval]
  simp only [List.getElem_toArray, List.getElem_cons_zero, List.getElem_cons_succ, Act.put, List.setIfInBounds_toArray, List.set_cons_succ, List.set_cons_zero]
  refine wpAnyH_take (i := 3) (v := .map (some M)) rfl (by kernel_rfl) (by kernel_rfl) (by kernel_rfl) (fun _ _ _ h => h) (Or.inl ⟨by rfl, ?r⟩) hS ?_
  case r => intro W hW; simp [go_sem, execOp, Act.eval, hW.2.1]
  simp only [List.getElem_toArray, List.getElem_cons_zero, List.getElem_cons_succ, Act.put, List.setIfInBounds_toArray, List.set_cons_succ, List.set_cons_zero]
  refine wpAnyH_take (i := 4) (v := .pointer (some ⟨w.heap.size, 1, none⟩)) rfl (by kernel_rfl) (by kernel_rfl) (by kernel_rfl) (fun _ _ _ h => h) (Or.inl ⟨by rfl, ?r⟩) hS ?_
  case r => intro W hW; simp [go_sem, execOp, Act.eval]
  simp only [List.getElem_toArray, List.getElem_cons_zero, List.getElem_cons_succ, Act.put, List.setIfInBounds_toArray, List.set_cons_succ, List.set_cons_zero]
  refine wpAnyH_take (i := 5) (v := .string ⟨#[65]⟩) rfl (by kernel_rfl) (by kernel_rfl) (by kernel_rfl) (fun _ _ _ h => h) (Or.inl ⟨by rfl, ?r⟩) hS ?_
  case r => intro W hW; simp [go_sem, execOp, Act.eval, hW.1]
  simp only [List.getElem_toArray, List.getElem_cons_zero, List.getElem_cons_succ, Act.put, List.setIfInBounds_toArray, List.set_cons_succ, List.set_cons_zero]
  refine wpAnyH_take (i := 6) (v := .tuple #[.agg #[.int .i64 0, .bool false, .slice none 0 0, .map none], .bool false]) rfl (by kernel_rfl) (by kernel_rfl) (by kernel_rfl) (fun _ _ _ h => h) (Or.inl ⟨by rfl, ?r⟩) hS ?_
  case r => intro W hW; simp [go_sem, execOp, Act.eval, look_no (P := Tryz.prog) Tryz.underlying57 Tryz.underlying9 hW.2.2 hA (Tryz.zeroValue106 _) true]
  simp only [List.getElem_toArray, List.getElem_cons_zero, List.getElem_cons_succ, Act.put, List.setIfInBounds_toArray, List.set_cons_succ, List.set_cons_zero]
  refine wpAnyH_take (i := 7) (v := .tuple #[.agg #[.int .i64 0, .bool false, .slice none 0 0, .map none], .bool false]) rfl (by kernel_rfl) (by kernel_rfl) (by kernel_rfl) (fun _ _ _ h => h) (Or.inl ⟨by rfl, ?r⟩) hS ?_
  case r => intro W hW; simp [go_sem, execOp, Act.eval]
  simp only [List.getElem_toArray, List.getElem_cons_zero, List.getElem_cons_succ, Act.put, List.setIfInBounds_toArray, List.set_cons_succ, List.set_cons_zero]
  refine wpAnyH_take (i := 8) (v := .agg #[.int .i64 0, .bool false, .slice none 0 0, .map none]) rfl (by kernel_rfl) (by kernel_rfl) (by kernel_rfl) (fun _ _ _ h => h) (Or.inl ⟨by rfl, ?r⟩) hS ?_
  case r => intro W hW; simp [go_sem, execOp, Act.eval]
  simp only [List.getElem_toArray, List.getElem_cons_zero, List.getElem_cons_succ, Act.put, List.setIfInBounds_toArray, List.set_cons_succ, List.set_cons_zero]
  refine wpAnyH_take (i := 9) (v := .bool false) rfl (by kernel_rfl) (by kernel_rfl) (by kernel_rfl) (fun _ _ _ h => h) (Or.inl ⟨by rfl, ?r⟩) hS ?_
  case r => intro W hW; simp [go_sem, execOp, Act.eval]
  simp only [List.getElem_toArray, List.getElem_cons_zero, List.getElem_cons_succ, Act.put, List.setIfInBounds_toArray, List.set_cons_succ, List.set_cons_zero]
  have u1 : Below w.heap.size w U1 := u0.trans (hB4.mono (by omega))
  have y1 : w.heap.size < U1.heap.size := Nat.lt_of_lt_of_le y0 hB4.size
  have hM1 : U1.heap[M]? = some (.map es clk) := (hB4.block _ (by omega)).trans hM0
  have hm1 : U1.heap[mb]? = _ := (hB4.block _ (by omega)).trans hm0
  have hb1 : U1.heap[w.heap.size]? = _ := (hB4.block _ (by omega)).trans hb0
  clear HU1 hB4
  refine wpAnyH_all (rs := [10]) (by kernel_rfl) (by simp) (fun i2 hi2 => ?_)
  obtain rfl : i2 = 10 := by simpa using hi2
  clear hi2
  refine wpOp_step rfl (fun K hK => ite_yes rfl ?_)
  simp only [List.getElem_toArray, List.getElem_cons_zero, List.getElem_cons_succ]
  go_simp
  obtain ⟨U2, hU2⟩ : ∃ W, W = U1.alloc (.cells #[.int .i64 0, .bool false, .slice none 0 0, .map none] 106) := ⟨_, rfl⟩
  rw [← hU2]
  have v2 : Below U1.heap.size U1 U2 := by rw [hU2]; exact below1 _ _
  have y2 : U1.heap.size < U2.heap.size := by rw [hU2]; simp
  have n2 : U2.heap[U1.heap.size]? = some (.cells #[.int .i64 0, .bool false, .slice none 0 0, .map none] 106) := by rw [hU2]; exact heap_new _ _ _ rfl
  clear hU2
  have hM2 : U2.heap[M]? = some (.map es clk) := (v2.block _ (by omega)).trans hM1
  have hm2 : U2.heap[mb]? = _ := (v2.block _ (by omega)).trans hm1
  have hb2 : U2.heap[w.heap.size]? = _ := (v2.block _ (by omega)).trans hb1
  have hSU2 : (∀ j, U2.cell? ⟨w.heap.size, j, none⟩ = (#[.int .i64 3, .string ⟨#[65]⟩, .int .i64 0, .int .i64 0, .slice (some ⟨KX, 0, none⟩) 1 1] : Array Value)[j]?) ∧ (∀ j, U2.cell? ⟨mb, j, none⟩ = (#[.map (some M), .int .i64 0, .map (some EB), .map (some MB)] : Array Value)[j]?) ∧ U2.heap[M]? = some (.map es clk) := ⟨(cells_of hb2).1, (cells_of hm2).1, hM2⟩
  refine hK _ _ ⟨hSU2, ?_⟩
  clear hK K hS
  have hS := hSU2
  clear hSU2
  try simp only [Act.put, List.setIfInBounds_toArray, List.set_cons_succ, List.set_cons_zero]
  obtain ⟨nc2, nf2⟩ := cells_of n2
  refine wpAnyH_all (rs := [11]) (by kernel_rfl) (by simp) (fun i2 hi2 => ?_)
  obtain rfl : i2 = 11 := by simpa using hi2
  clear hi2
  refine wpOp_step rfl (fun K hK => ite_yes rfl ?_)
  simp only [List.getElem_toArray, List.getElem_cons_zero, List.getElem_cons_succ]
  go_simp
  obtain ⟨W2, hW2⟩ : ∃ W, W = (((U2.setCell ⟨U1.heap.size, 0, none⟩ (.int .i64 0)).setCell ⟨U1.heap.size, 1, none⟩ (.bool false)).setCell ⟨U1.heap.size, 2, none⟩ (.slice none 0 0)).setCell ⟨U1.heap.size, 3, none⟩ (.map none) := ⟨_, rfl⟩
  rw [← hW2]
  have v3 : Kp (· = U1.heap.size) U2 W2 := by rw [hW2]; exact kp_set4 _ _ _ _ _ _
  clear hW2
  have y3 := v3.size
  have hM3 : W2.heap[M]? = some (.map es clk) := (v3.block _ (by omega) (by omega)).trans hM2
  have hm3 : W2.heap[mb]? = _ := (v3.block _ (by omega) (by omega)).trans hm2
  have hb3 : W2.heap[w.heap.size]? = _ := (v3.block _ (by omega) (by omega)).trans hb2
  have hSW2 : (∀ j, W2.cell? ⟨w.heap.size, j, none⟩ = (#[.int .i64 3, .string ⟨#[65]⟩, .int .i64 0, .int .i64 0, .slice (some ⟨KX, 0, none⟩) 1 1] : Array Value)[j]?) ∧ (∀ j, W2.cell? ⟨mb, j, none⟩ = (#[.map (some M), .int .i64 0, .map (some EB), .map (some MB)] : Array Value)[j]?) ∧ W2.heap[M]? = some (.map es clk) := ⟨(cells_of hb3).1, (cells_of hm3).1, hM3⟩
  refine hK _ _ ⟨hSW2, ?_⟩
  clear hK K hS
  have hS := hSW2
  clear hSW2
  try simp only [Act.put, List.setIfInBounds_toArray, List.set_cons_succ, List.set_cons_zero]
  refine wpAnyH_take (i := 12) (v := .bool false) rfl (by kernel_rfl) (by kernel_rfl) (by kernel_rfl) (fun _ _ _ h => h) (Or.inl ⟨by rfl, ?r⟩) hS ?_
  case r => intro W hW; simp [go_sem, execOp, Act.eval]
  simp only [List.getElem_toArray, List.getElem_cons_zero, List.getElem_cons_succ, Act.put, List.setIfInBounds_toArray, List.set_cons_succ, List.set_cons_zero]
  refine wpAnyH_done (by kernel_rfl) ?_ _
  refine NoPanic.normal ?_
  try simp only [Act.put]
  have b2 : Below w.heap.size w W2 := u1.trans ((v2.mono (by omega)).trans (v3.below (by omega) fun i hi h => by omega))
  have z2 : w.heap.size + 1 < W2.heap.size := by omega
  clear hM2 hm2 hb2 hM1 hm1 hb1 hM0 hm0 hb0 v3 v2 u1 u0 n2 nc2 nf2 hS y0 y1 y2 y3
  have hM2 := hM3
  have hm2 := hm3
  have hb2 := hb3
  clear hM3 hm3 hb3
  have mcW := (cells_of hm2).1
  have bcW := (cells_of hb2).1
  go_wp2_with fail
  clear mcW bcW
  refine wp_region_noPanic ?_
  refine wp_region_held (S := fun W => (∀ j, W.cell? ⟨w.heap.size, j, none⟩ = (#[.int .i64 3, .string ⟨#[65]⟩, .int .i64 0, .int .i64 0, .slice (some ⟨KX, 0, none⟩) 1 1] : Array Value)[j]?) ∧ ∀ j, W.cell? ⟨mb, j, none⟩ = (#[.map (some M), .int .i64 0, .map (some EB), .map (some MB)] : Array Value)[j]?) (by kernel_rfl) ?_
  obtain ⟨W3, hW3⟩ : ∃ W4, W4 = (W2).drew := ⟨_, rfl⟩
  have e4 : ({ W2 with drawn := (W2).drawn + 1 } : World) = W3 := hW3.symm
  rw [e4]
  have hB4 : Below (W2).heap.size (W2) W3 := by rw [hW3]; exact (Below.refl _ _).drew
  have hS : (∀ j, W3.cell? ⟨w.heap.size, j, none⟩ = (#[.int .i64 3, .string ⟨#[65]⟩, .int .i64 0, .int .i64 0, .slice (some ⟨KX, 0, none⟩) 1 1] : Array Value)[j]?) ∧ ∀ j, W3.cell? ⟨mb, j, none⟩ = (#[.map (some M), .int .i64 0, .map (some EB), .map (some MB)] : Array Value)[j]? := ⟨(cells_of ((hB4.block _ (by omega)).trans hb2)).1, (cells_of ((hB4.block _ (by omega)).trans hm2)).1⟩
  have HW3 : Hid (W3 = (W2).drew) := hW3
  clear e4 hW3
  refine wpAnyH_take (i := 0) (v := .pointer (some ⟨w.heap.size, 0, none⟩)) rfl (by kernel_rfl) (by kernel_rfl) (by kernel_rfl) (fun _ _ _ h => h) (Or.inl ⟨by rfl, ?r⟩) hS ?_
  case r => intro W hW; simp [go_sem, execOp, Act.eval]
  simp only [List.getElem_toArray, List.getElem_cons_zero, Act.put, List.setIfInBounds_toArray, List.set_cons_succ, List.set_cons_zero]
  refine wpAnyH_take (i := 1) (v := .int .i64 3) rfl (by kernel_rfl) (by kernel_rfl) (by kernel_rfl) (fun _ _ _ h => h) (Or.inl ⟨by rfl, ?r⟩) hS ?_
  case r => intro W hW; simp [go_sem, execOp, Act.eval, hW.1]
  simp only [List.getElem_toArray, List.getElem_cons_zero, List.getElem_cons_succ, Act.put, List.setIfInBounds_toArray, List.set_cons_succ, List.set_cons_zero]
  refine wpAnyH_take (i := 2) (v := .bool false) rfl (by kernel_rfl) (by kernel_rfl) (by kernel_rfl) (fun _ _ _ h => h) (Or.inl ⟨by rfl, ?r⟩) hS ?_
  case r => intro W hW; simp [go_sem, execOp, Act.eval]
  simp only [List.getElem_toArray, List.getElem_cons_zero, List.getElem_cons_succ, Act.put, List.setIfInBounds_toArray, List.set_cons_succ, List.set_cons_zero]
  refine wpAnyH_take (i := 3) (v := .bool false) rfl (by kernel_rfl) (by kernel_rfl) (by kernel_rfl) (fun _ _ _ h => h) (Or.inl ⟨by rfl, ?r⟩) hS ?_
  case r => intro W hW; simp [go_sem, execOp, Act.eval]
  simp only [List.getElem_toArray, List.getElem_cons_zero, List.getElem_cons_succ, Act.put, List.setIfInBounds_toArray, List.set_cons_succ, List.set_cons_zero]
  refine wpAnyH_take (i := 4) (v := undef) rfl (by kernel_rfl) (by kernel_rfl) (by kernel_rfl) (fun _ _ _ h => h) (Or.inr ⟨rfl, rfl⟩) hS ?_
  simp only [List.getElem_toArray, List.getElem_cons_zero, List.getElem_cons_succ, Act.put, List.setIfInBounds_toArray, List.set_cons_succ, List.set_cons_zero]
  refine wpAnyH_take (i := 5) (v := undef) rfl (by kernel_rfl) (by kernel_rfl) (by kernel_rfl) (fun _ _ _ h => h) (Or.inr ⟨rfl, rfl⟩) hS ?_
  simp only [List.getElem_toArray, List.getElem_cons_zero, List.getElem_cons_succ, Act.put, List.setIfInBounds_toArray, List.set_cons_succ, List.set_cons_zero]
  refine wpAnyH_take (i := 6) (v := undef) rfl (by kernel_rfl) (by kernel_rfl) (by kernel_rfl) (fun _ _ _ h => h) (Or.inr ⟨rfl, rfl⟩) hS ?_
  simp only [List.getElem_toArray, List.getElem_cons_zero, List.getElem_cons_succ, Act.put, List.setIfInBounds_toArray, List.set_cons_succ, List.set_cons_zero]
  refine wpAnyH_take (i := 7) (v := undef) rfl (by kernel_rfl) (by kernel_rfl) (by kernel_rfl) (fun _ _ _ h => h) (Or.inr ⟨rfl, rfl⟩) hS ?_
  simp only [List.getElem_toArray, List.getElem_cons_zero, List.getElem_cons_succ, Act.put, List.setIfInBounds_toArray, List.set_cons_succ, List.set_cons_zero]
  refine wpAnyH_take (i := 8) (v := undef) rfl (by kernel_rfl) (by kernel_rfl) (by kernel_rfl) (fun _ _ _ h => h) (Or.inr ⟨rfl, rfl⟩) hS ?_
  simp only [List.getElem_toArray, List.getElem_cons_zero, List.getElem_cons_succ, Act.put, List.setIfInBounds_toArray, List.set_cons_succ, List.set_cons_zero]
  refine wpAnyH_take (i := 9) (v := undef) rfl (by kernel_rfl) (by kernel_rfl) (by kernel_rfl) (fun _ _ _ h => h) (Or.inr ⟨rfl, rfl⟩) hS ?_
  simp only [List.getElem_toArray, List.getElem_cons_zero, List.getElem_cons_succ, Act.put, List.setIfInBounds_toArray, List.set_cons_succ, List.set_cons_zero]
  refine wpAnyH_take (i := 10) (v := undef) rfl (by kernel_rfl) (by kernel_rfl) (by kernel_rfl) (fun _ _ _ h => h) (Or.inr ⟨rfl, rfl⟩) hS ?_
  simp only [List.getElem_toArray, List.getElem_cons_zero, List.getElem_cons_succ, Act.put, List.setIfInBounds_toArray, List.set_cons_succ, List.set_cons_zero]
  refine wpAnyH_take (i := 11) (v := undef) rfl (by kernel_rfl) (by kernel_rfl) (by kernel_rfl) (fun _ _ _ h => h) (Or.inr ⟨rfl, rfl⟩) hS ?_
  simp only [List.getElem_toArray, List.getElem_cons_zero, List.getElem_cons_succ, Act.put, List.setIfInBounds_toArray, List.set_cons_succ, List.set_cons_zero]
  refine wpAnyH_take (i := 12) (v := undef) rfl (by kernel_rfl) (by kernel_rfl) (by kernel_rfl) (fun _ _ _ h => h) (Or.inr ⟨rfl, rfl⟩) hS ?_
  simp only [List.getElem_toArray, List.getElem_cons_zero, List.getElem_cons_succ, Act.put, List.setIfInBounds_toArray, List.set_cons_succ, List.set_cons_zero]
  refine wpAnyH_take (i := 13) (v := undef) rfl (by kernel_rfl) (by kernel_rfl) (by kernel_rfl) (fun _ _ _ h => h) (Or.inr ⟨rfl, rfl⟩) hS ?_
  simp only [List.getElem_toArray, List.getElem_cons_zero, List.getElem_cons_succ, Act.put, List.setIfInBounds_toArray, List.set_cons_succ, List.set_cons_zero]
  refine wpAnyH_take (i := 14) (v := undef) rfl (by kernel_rfl) (by kernel_rfl) (by kernel_rfl) (fun _ _ _ h => h) (Or.inr ⟨rfl, rfl⟩) hS ?_
  simp only [List.getElem_toArray, List.getElem_cons_zero, List.getElem_cons_succ, Act.put, List.setIfInBounds_toArray, List.set_cons_succ, List.set_cons_zero]
  refine wpAnyH_take (i := 15) (v := undef) rfl (by kernel_rfl) (by kernel_rfl) (by kernel_rfl) (fun _ _ _ h => h) (Or.inr ⟨rfl, rfl⟩) hS ?_
  simp only [List.getElem_toArray, List.getElem_cons_zero, List.getElem_cons_succ, Act.put, List.setIfInBounds_toArray, List.set_cons_succ, List.set_cons_zero]
  refine wpAnyH_take (i := 16) (v := .bool false) rfl (by kernel_rfl) (by kernel_rfl) (by kernel_rfl) (fun _ _ _ h => h) (Or.inl ⟨by rfl, ?r⟩) hS ?_
  case r => intro W hW; simp [go_sem, execOp, Act.eval]
  simp only [List.getElem_toArray, List.getElem_cons_zero, List.getElem_cons_succ, Act.put, List.setIfInBounds_toArray, List.set_cons_succ, List.set_cons_zero]
  refine wpAnyH_done (by kernel_rfl) ?_ _
  refine NoPanic.normal ?_
  try simp only [Act.put]
  have b3 : Below w.heap.size w W3 := b2.trans (hB4.mono (by omega))
  have z3 : w.heap.size + 1 < W3.heap.size := Nat.lt_of_lt_of_le z2 hB4.size
  have hM3' : W3.heap[M]? = some (.map es clk) := (hB4.block _ (by omega)).trans hM2
  have hm3' : W3.heap[mb]? = _ := (hB4.block _ (by omega)).trans hm2
  have hb3' : W3.heap[w.heap.size]? = _ := (hB4.block _ (by omega)).trans hb2
  clear HW3 hB4 hS
  go_wp2_with fail
  refine wp_region_noPanic ?_
  refine wp_region_held (S := fun W => (∀ j, W.cell? ⟨w.heap.size, j, none⟩ = (#[.int .i64 3, .string ⟨#[65]⟩, .int .i64 0, .int .i64 0, .slice (some ⟨KX, 0, none⟩) 1 1] : Array Value)[j]?) ∧ ∀ j, W.cell? ⟨mb, j, none⟩ = (#[.map (some M), .int .i64 0, .map (some EB), .map (some MB)] : Array Value)[j]?) (by kernel_rfl) ?_
  obtain ⟨V0, hV0⟩ : ∃ W4, W4 = (W3).drew := ⟨_, rfl⟩
  have e4 : ({ W3 with drawn := (W3).drawn + 1 } : World) = V0 := hV0.symm
  rw [e4]
  have hB4 : Below (W3).heap.size (W3) V0 := by rw [hV0]; exact (Below.refl _ _).drew
  have hS : (∀ j, V0.cell? ⟨w.heap.size, j, none⟩ = (#[.int .i64 3, .string ⟨#[65]⟩, .int .i64 0, .int .i64 0, .slice (some ⟨KX, 0, none⟩) 1 1] : Array Value)[j]?) ∧ ∀ j, V0.cell? ⟨mb, j, none⟩ = (#[.map (some M), .int .i64 0, .map (some EB), .map (some MB)] : Array Value)[j]? := ⟨(cells_of ((hB4.block _ (by omega)).trans hb3')).1, (cells_of ((hB4.block _ (by omega)).trans hm3')).1⟩
  have HV0 : Hid (V0 = (W3).drew) := hV0
  clear e4 hV0
  refine wpAnyH_take (i := 0) (v := .pointer (some ⟨mb, 0, none⟩)) rfl (by kernel_rfl) (by kernel_rfl) (by kernel_rfl) (fun _ _ _ h => h) (Or.inl ⟨by rfl, ?r⟩) hS ?_
  case r => intro W hW; simp [go_sem, execOp, Act.eval]
  simp only [List.getElem_toArray, List.getElem_cons_zero, Act.put, List.setIfInBounds_toArray, List.set_cons_succ, List.set_cons_zero]
  refine wpAnyH_take (i := 1) (v := .pointer (some ⟨mb, 0, none⟩)) rfl (by kernel_rfl) (by kernel_rfl) (by kernel_rfl) (fun _ _ _ h => h) (Or.inl ⟨by rfl, ?r⟩) hS ?_
  case r => intro W hW; simp [go_sem, execOp, Act.eval]
  simp only [List.getElem_toArray, List.getElem_cons_zero, List.getElem_cons_succ, Act.put, List.setIfInBounds_toArray, List.set_cons_succ, List.set_cons_zero]
  refine wpAnyH_take (i := 2) (v := .pointer (some ⟨mb, 0, none⟩)) rfl (by kernel_rfl) (by kernel_rfl) (by kernel_rfl) (fun _ _ _ h => h) (Or.inl ⟨by rfl, ?r⟩) hS ?_
  case r => intro W hW; simp [go_sem, execOp, Act.eval]
  simp only [List.getElem_toArray, List.getElem_cons_zero, List.getElem_cons_succ, Act.put, List.setIfInBounds_toArray, List.set_cons_succ, List.set_cons_zero]
  refine wpAnyH_take (i := 3) (v := .map (some M)) rfl (by kernel_rfl) (by kernel_rfl) (by kernel_rfl) (fun _ _ _ h => h) (Or.inl ⟨by rfl, ?r⟩) hS ?_
  case r => intro W hW; simp [go_sem, execOp, Act.eval, hW.2]
  simp only [List.getElem_toArray, List.getElem_cons_zero, List.getElem_cons_succ, Act.put, List.setIfInBounds_toArray, List.set_cons_succ, List.set_cons_zero]
  refine wpAnyH_take (i := 4) (v := .pointer (some ⟨w.heap.size, 1, none⟩)) rfl (by kernel_rfl) (by kernel_rfl) (by kernel_rfl) (fun _ _ _ h => h) (Or.inl ⟨by rfl, ?r⟩) hS ?_
  case r => intro W hW; simp [go_sem, execOp, Act.eval]
  simp only [List.getElem_toArray, List.getElem_cons_zero, List.getElem_cons_succ, Act.put, List.setIfInBounds_toArray, List.set_cons_succ, List.set_cons_zero]
  refine wpAnyH_take (i := 5) (v := .string ⟨#[65]⟩) rfl (by kernel_rfl) (by kernel_rfl) (by kernel_rfl) (fun _ _ _ h => h) (Or.inl ⟨by rfl, ?r⟩) hS ?_
  case r => intro W hW; simp [go_sem, execOp, Act.eval, hW.1]
  simp only [List.getElem_toArray, List.getElem_cons_zero, List.getElem_cons_succ, Act.put, List.setIfInBounds_toArray, List.set_cons_succ, List.set_cons_zero]
  refine wpAnyH_take (i := 7) (v := .pointer (some ⟨mb, 0, none⟩)) rfl (by kernel_rfl) (by kernel_rfl) (by kernel_rfl) (fun _ _ _ h => h) (Or.inl ⟨by rfl, ?r⟩) hS ?_
  case r => intro W hW; simp [go_sem, execOp, Act.eval]
  simp only [List.getElem_toArray, List.getElem_cons_zero, List.getElem_cons_succ, Act.put, List.setIfInBounds_toArray, List.set_cons_succ, List.set_cons_zero]
  refine wpAnyH_take (i := 8) (v := .agg #[.int .i64 3, .string ⟨#[65]⟩, .int .i64 0, .int .i64 0, .slice (some ⟨KX, 0, none⟩) 1 1]) rfl (by kernel_rfl) (by kernel_rfl) (by kernel_rfl) (fun _ _ _ h => h) (Or.inl ⟨by rfl, ?r⟩) hS ?_
  case r => intro W hW; simp [go_sem, execOp, Act.eval, hW.1]
  simp only [List.getElem_toArray, List.getElem_cons_zero, List.getElem_cons_succ, Act.put, List.setIfInBounds_toArray, List.set_cons_succ, List.set_cons_zero]
  have q0 : Below w.heap.size w V0 := b3.trans (hB4.mono (by omega))
  have z0 : w.heap.size + 1 < V0.heap.size := Nat.lt_of_lt_of_le z3 hB4.size
  have hM3 : V0.heap[M]? = some (.map es clk) := (hB4.block _ (by omega)).trans hM3'
  have hm3 : V0.heap[mb]? = _ := (hB4.block _ (by omega)).trans hm3'
  have hb3 : V0.heap[w.heap.size]? = _ := (hB4.block _ (by omega)).trans hb3'
  clear HV0
  refine wpAnyH_all (rs := [6]) (by kernel_rfl) (by simp) (fun i2 hi2 => ?_)
  obtain rfl : i2 = 6 := by simpa using hi2
  clear hi2
  refine wpOp_step rfl (fun K hK => ite_yes rfl ?_)
  simp only [List.getElem_toArray, List.getElem_cons_zero, List.getElem_cons_succ]
  go_simp
  refine (clone_any _ _ (by decide)).mono ?_
  rintro r w4 ⟨rfl, b4⟩
  have q4 : Below w.heap.size w w4 := q0.trans (b4.mono q0.size)
  have z4 : w.heap.size + 1 < w4.heap.size := Nat.lt_of_lt_of_le z0 b4.size
  have hM4 : w4.heap[M]? = some (.map es clk) := (b4.block _ (by omega)).trans hM3
  have hm4 : w4.heap[mb]? = _ := (b4.block _ (by omega)).trans hm3
  have hb4 : w4.heap[w.heap.size]? = _ := (b4.block _ (by omega)).trans hb3
  go_simp
  have hSw4 : (∀ j, w4.cell? ⟨w.heap.size, j, none⟩ = (#[.int .i64 3, .string ⟨#[65]⟩, .int .i64 0, .int .i64 0, .slice (some ⟨KX, 0, none⟩) 1 1] : Array Value)[j]?) ∧ ∀ j, w4.cell? ⟨mb, j, none⟩ = (#[.map (some M), .int .i64 0, .map (some EB), .map (some MB)] : Array Value)[j]? := ⟨(cells_of hb4).1, (cells_of hm4).1⟩
  refine hK _ _ ⟨hSw4, ?_⟩
  clear hK K hS
  have hS := hSw4
  clear hSw4
  try simp only [Act.put, List.setIfInBounds_toArray, List.set_cons_succ, List.set_cons_zero]
  refine wpAnyH_all (rs := [9]) (by kernel_rfl) (by simp) (fun i2 hi2 => ?_)
  obtain rfl : i2 = 9 := by simpa using hi2
  clear hi2
  refine wpOp_step rfl (fun K hK => ite_yes rfl ?_)
  simp only [List.getElem_toArray, List.getElem_cons_zero, List.getElem_cons_succ]
  go_simp
  refine (begun_A mb KX _ (by omega) ((q4.cell (p := ⟨KX, 0, none⟩) hKX).trans x0) ((q4.cell (p := ⟨KX, 1, none⟩) hKX).trans x1) ((q4.cell (p := ⟨KX, 2, none⟩) hKX).trans x2) ((q4.cell (p := ⟨KX, 3, none⟩) hKX).trans x3) ((q4.cell (p := ⟨KX, 4, none⟩) hKX).trans x4)).mono ?_
  rintro r w5 ⟨g, cap, pb, rfl, hcap, hsh, b5⟩
  have q5 : Below w.heap.size w w5 := q4.trans (b5.mono q4.size)
  have z5 : w.heap.size + 1 < w5.heap.size := Nat.lt_of_lt_of_le z4 b5.size
  have hM5 : w5.heap[M]? = some (.map es clk) := (b5.block _ (by omega)).trans hM4
  have hm5 : w5.heap[mb]? = _ := (b5.block _ (by omega)).trans hm4
  have hb5 : w5.heap[w.heap.size]? = _ := (b5.block _ (by omega)).trans hb4
  go_simp
  have hSw5 : (∀ j, w5.cell? ⟨w.heap.size, j, none⟩ = (#[.int .i64 3, .string ⟨#[65]⟩, .int .i64 0, .int .i64 0, .slice (some ⟨KX, 0, none⟩) 1 1] : Array Value)[j]?) ∧ ∀ j, w5.cell? ⟨mb, j, none⟩ = (#[.map (some M), .int .i64 0, .map (some EB), .map (some MB)] : Array Value)[j]? := ⟨(cells_of hb5).1, (cells_of hm5).1⟩
  refine hK _ _ ⟨hSw5, ?_⟩
  clear hK K hS
  have hS := hSw5
  clear hSw5
  try simp only [Act.put, List.setIfInBounds_toArray, List.set_cons_succ, List.set_cons_zero]
  have hup := upd_new (P := Tryz.prog) Tryz.underlying57 Tryz.underlying9 hM5 hA (shA g cap pb)
  obtain ⟨w6, hw6⟩ : ∃ W, W = setBlock w5 M (.map (es.push ⟨.string ⟨#[65]⟩, shA g cap pb, clk⟩) (clk + 1)) := ⟨_, rfl⟩
  rw [← hw6] at hup
  have k6 : Kp (· = M) w5 w6 := by rw [hw6]; exact Kp.setB _ _ _ rfl
  have hM6 : w6.heap[M]? = some (.map (es.push ⟨.string ⟨#[65]⟩, shA g cap pb, clk⟩) (clk + 1)) := by rw [hw6]; exact setBlock_same _ _ _ (heap_lt hM5)
  clear hw6
  have z6 := k6.size
  have hm6 : w6.heap[mb]? = _ := (k6.block _ (heap_lt hm5) (fun e => hne e.symm)).trans hm5
  have hb6 : w6.heap[w.heap.size]? = _ := (k6.block _ (heap_lt hb5) (by omega)).trans hb5
  refine wpAnyH_all (rs := [10]) (by kernel_rfl) (by simp) (fun i2 hi2 => ?_)
  obtain rfl : i2 = 10 := by simpa using hi2
  clear hi2
  refine wpOp_step rfl (fun K hK => ite_yes rfl ?_)
  simp only [List.getElem_toArray, List.getElem_cons_zero, List.getElem_cons_succ]
  go_simp
  have hSw6 : (∀ j, w6.cell? ⟨w.heap.size, j, none⟩ = (#[.int .i64 3, .string ⟨#[65]⟩, .int .i64 0, .int .i64 0, .slice (some ⟨KX, 0, none⟩) 1 1] : Array Value)[j]?) ∧ ∀ j, w6.cell? ⟨mb, j, none⟩ = (#[.map (some M), .int .i64 0, .map (some EB), .map (some MB)] : Array Value)[j]? := ⟨(cells_of hb6).1, (cells_of hm6).1⟩
  refine hK _ _ ⟨hSw6, ?_⟩
  clear hK K hS
  have hS := hSw6
  clear hSw6
  try simp only [Act.put, List.setIfInBounds_toArray, List.set_cons_succ, List.set_cons_zero]
  refine wpAnyH_done (by kernel_rfl) ?_ _
  refine NoPanic.normal ?_
  try simp only [Act.put]
  obtain ⟨mc6, mf6⟩ := cells_of hm6
  go_wp2_with fail
  go_ret
  refine ⟨rfl, g, cap, pb, ?_, heap_set hm6 1 (.int .i64 1), hcap, ?_, ?_⟩
  · exact (heap_set_other w6 mb M 1 (.int .i64 1) hne).trans hM6
  · have hg := hsh.glo
    have hp := hsh.plo
    have hz := q4.size
    have k7 : Kp (· = mb) w6 (w6.setCell ⟨mb, 1, none⟩ (.int .i64 1)) := Kp.set _ _ _ _ rfl
    have z7 := k7.size
    have hg2 := hsh.ghi
    have hp2 := hsh.phi
    exact ⟨by omega, by omega, by omega, by omega, hsh.ne, (k7.cell (by omega) (by omega)).trans ((k6.cell (by omega) (by omega)).trans hsh.name), (k7.cell (by omega) (by omega)).trans ((k6.cell (by omega) (by omega)).trans hsh.embed), (k7.frozen (by omega) (by omega)).trans ((k6.frozen (by omega) (by omega)).trans hsh.fro), (k7.block _ (by omega) (by omega)).trans ((k6.block _ (by omega) (by omega)).trans hsh.parts)⟩
  · exact ((Kp.of q5).trans k6 fun i _ h => Or.inl h).trans (Kp.set (S := (· = mb)) w6 mb 1 (.int .i64 1) rfl) fun i _ h => Or.inr h

end Go.Proofs.YtaboeocgoocgfaaGreatDoor
