/-
  What a field of a type without embedded ones is found to be.
-/
import Derived.Test.YtaboeocgoocgfaaGreatDoorR
namespace Go.Proofs.YtaboeocgoocgfaaGreatDoor
open Go.RowKit Go.ChangeMaps

theorem info3 : (Tryz.prog.info? 3).map (fun i => (i.zero, i.size, i.bytes)) = some (some (.int .i64 0), 1, 8) := by kernel_rfl
theorem kp_set5 (w : World) (b : Nat) (v0 v1 v2 v3 v4 : Value) : Kp (· = b) w (((((w.setCell ⟨b, 0, none⟩ v0).setCell ⟨b, 1, none⟩ v1).setCell ⟨b, 2, none⟩ v2).setCell ⟨b, 3, none⟩ v3).setCell ⟨b, 4, none⟩ v4) :=
  (kp_set4 w b v0 v1 v2 v3).trans (Kp.set (S := (· = b)) _ _ _ _ rfl) fun _ _ h => h
/-- A field that was found: the number 0, as a path in memory from lo on. -/
abbrev fndX (pg pc : Nat) : Value := .agg #[.int .i64 1, .slice (some ⟨pg, 0, none⟩) 1 pc, .string ⟨#[]⟩, .bool false, .int .i64 0]
def FndX (lo : Nat) (e : Ending) (w' : World) : Prop := ∃ pg pc, e = .returned (fndX pg pc) ∧ lo ≤ pg ∧ pg < w'.heap.size ∧ 1 ≤ pc ∧ w'.cell? ⟨pg, 0, none⟩ = some (.int .i64 0)
set_option maxRecDepth 100000 in
set_option maxHeartbeats 4000000 in
theorem clone_nil (w : World) :
    Calls Tryz.prog 53 #[.slice none 0 0] w fun e w' => e = .returned (.slice none 0 0) ∧ w' = w := by
  have he : ∀ W, Sem.run Tryz.prog (binOp .eql 48 (.slice none 0 0) (.slice none 0 0)) W = .ok (.bool true) W := fun W => by kernel_rfl
  go_enter Tryz.func53, Tryz.ntmps53
  go_wp2_with fail
  go_ret
  exact ⟨rfl, rfl⟩

set_option maxRecDepth 100000 in
set_option maxHeartbeats 4000000 in
theorem found_X (tb M g cap pb pe : Nat) (es : Array MapEntry) (clk : Nat) (p : Bool) (w : World) (ht : TabAt w tb M g cap pb pe es clk) :
    Calls Tryz.prog 72 #[.pointer (some ⟨tb, 0, none⟩), .agg #[.string ⟨#[65]⟩, .slice none 0 0, .bool false, .bool false], .bool p, .string ⟨#[120]⟩] w fun e w' => FndX w.heap.size e w' ∧ Below w.heap.size w w' := by
  have hl := ht.lts
  go_enter Tryz.func72, Tryz.ntmps72
  go_wp2_with fail
  obtain ⟨U0, hU0⟩ : ∃ W, W = (w.alloc (.cells #[.string ⟨#[65]⟩, .slice none 0 0, .bool false, .bool false] 161)).alloc (.cells #[.int .i64 0, .slice none 0 0, .string ⟨#[]⟩, .bool false, .int .i64 0] 50) := ⟨_, rfl⟩
  rw [← hU0]
  have u0 : Below w.heap.size w U0 := by rw [hU0]; exact below2 w _ _
  have y0 : w.heap.size + 1 < U0.heap.size := by rw [hU0]; simp
  have b0 : U0.heap[w.heap.size]? = some (.cells #[.string ⟨#[65]⟩, .slice none 0 0, .bool false, .bool false] 161) := by rw [hU0, heap_old _ _ _ (by simp)]; exact heap_new _ _ _ rfl
  have r0 : U0.heap[w.heap.size + 1]? = some (.cells #[.int .i64 0, .slice none 0 0, .string ⟨#[]⟩, .bool false, .int .i64 0] 50) := by rw [hU0]; exact heap_new _ _ _ (by simp)
  clear hU0
  have t0 := ht.below u0
  refine wp_region_noPanic ?_
  refine wp_region_held (S := fun W => (∀ j, W.cell? ⟨w.heap.size, j, none⟩ = (#[.string ⟨#[65]⟩, .slice none 0 0, .bool false, .bool false] : Array Value)[j]?) ∧ (∀ j, W.cell? ⟨tb, j, none⟩ = (#[.map (some M)] : Array Value)[j]?) ∧ W.heap[M]? = some (.map es clk)) (by kernel_rfl) ?_
  obtain ⟨U1, hU1⟩ : ∃ W4, W4 = (U0).drew := ⟨_, rfl⟩
  have e4 : ({ U0 with drawn := (U0).drawn + 1 } : World) = U1 := hU1.symm
  rw [e4]
  have hB4 : Below (U0).heap.size (U0) U1 := by rw [hU1]; exact (Below.refl _ _).drew
  have hS : (∀ j, U1.cell? ⟨w.heap.size, j, none⟩ = (#[.string ⟨#[65]⟩, .slice none 0 0, .bool false, .bool false] : Array Value)[j]?) ∧ (∀ j, U1.cell? ⟨tb, j, none⟩ = (#[.map (some M)] : Array Value)[j]?) ∧ U1.heap[M]? = some (.map es clk) := ⟨(cells_of ((hB4.block _ (by omega)).trans b0)).1, (cells_of ((hB4.block _ (heap_lt t0.tab)).trans t0.tab)).1, (hB4.block _ (heap_lt t0.map)).trans t0.map⟩
  have HU1 : Hid (U1 = (U0).drew) := hU1
  clear e4 hU1
  refine wpAnyH_take (i := 0) (v := .pointer (some ⟨tb, 0, none⟩)) rfl (by kernel_rfl) (by kernel_rfl) (by kernel_rfl) (fun _ _ _ h => h) (Or.inl ⟨by rfl, ?r⟩) hS ?_
  case r => intro W hW; simp [go_sem, execOp, Act.eval]
  simp only [List.getElem_toArray, List.getElem_cons_zero, Act.put, List.setIfInBounds_toArray, List.set_cons_succ, List.set_cons_zero]
  refine wpAnyH_take (i := 1) (v := .pointer (some ⟨tb, 0, none⟩)) rfl (by kernel_rfl) (by kernel_rfl) (by kernel_rfl) (fun _ _ _ h => h) (Or.inl ⟨by rfl, ?r⟩) hS ?_
  case r => intro W hW; simp [go_sem, execOp, Act.eval]
  simp only [List.getElem_toArray, List.getElem_cons_zero, List.getElem_cons_succ, Act.put, List.setIfInBounds_toArray, List.set_cons_succ, List.set_cons_zero]
  refine wpAnyH_take (i := 2) (v := .pointer (some ⟨tb, 0, none⟩)) rfl (by kernel_rfl) (by kernel_rfl) (by kernel_rfl) (fun _ _ _ h => h) (Or.inl ⟨by rfl, ?r⟩) hS ?_
  case r => intro W hW; simp [go_sem, execOp, Act.eval]
  simp only [List.getElem_toArray, List.getElem_cons_zero, List.getElem_cons_succ, Act.put, List.setIfInBounds_toArray, List.set_cons_succ, List.set_cons_zero]
  refine wpAnyH_take (i := 3) (v := .map (some M)) rfl (by kernel_rfl) (by kernel_rfl) (by kernel_rfl) (fun _ _ _ h => h) (Or.inl ⟨by rfl, ?r⟩) hS ?_
  case r => intro W hW; simp [go_sem, execOp, Act.eval, hW.2.1]
  simp only [List.getElem_toArray, List.getElem_cons_zero, List.getElem_cons_succ, Act.put, List.setIfInBounds_toArray, List.set_cons_succ, List.set_cons_zero]
  refine wpAnyH_take (i := 4) (v := .pointer (some ⟨w.heap.size, 0, none⟩)) rfl (by kernel_rfl) (by kernel_rfl) (by kernel_rfl) (fun _ _ _ h => h) (Or.inl ⟨by rfl, ?r⟩) hS ?_
  case r => intro W hW; simp [go_sem, execOp, Act.eval]
  simp only [List.getElem_toArray, List.getElem_cons_zero, List.getElem_cons_succ, Act.put, List.setIfInBounds_toArray, List.set_cons_succ, List.set_cons_zero]
  refine wpAnyH_take (i := 5) (v := .string ⟨#[65]⟩) rfl (by kernel_rfl) (by kernel_rfl) (by kernel_rfl) (fun _ _ _ h => h) (Or.inl ⟨by rfl, ?r⟩) hS ?_
  case r => intro W hW; simp [go_sem, execOp, Act.eval, hW.1]
  simp only [List.getElem_toArray, List.getElem_cons_zero, List.getElem_cons_succ, Act.put, List.setIfInBounds_toArray, List.set_cons_succ, List.set_cons_zero]
  refine wpAnyH_take (i := 6) (v := .agg #[.int .i64 8, .bool false, .slice (some ⟨g, 0, none⟩) 1 cap, .map (some pb)]) rfl (by kernel_rfl) (by kernel_rfl) (by kernel_rfl) (fun _ _ _ h => h) (Or.inl ⟨by rfl, ?r⟩) hS ?_
  case r => intro W hW; simp [go_sem, execOp, Act.eval, look_yes (P := Tryz.prog) Tryz.underlying57 Tryz.underlying9 hW.2.2 ht.fA false]
  simp only [List.getElem_toArray, List.getElem_cons_zero, List.getElem_cons_succ, Act.put, List.setIfInBounds_toArray, List.set_cons_succ, List.set_cons_zero]
  have u1 : Below w.heap.size w U1 := u0.trans (hB4.mono (by omega))
  have y1 : w.heap.size + 1 < U1.heap.size := Nat.lt_of_lt_of_le y0 hB4.size
  have t1 := t0.below hB4
  have b1 : U1.heap[w.heap.size]? = _ := (hB4.block _ (by omega)).trans b0
  have r1 : U1.heap[w.heap.size + 1]? = _ := (hB4.block _ (by omega)).trans r0
  clear HU1 hB4 t0 b0 r0
  refine wpAnyH_all (rs := [7]) (by kernel_rfl) (by simp) (fun i2 hi2 => ?_)
  obtain rfl : i2 = 7 := by simpa using hi2
  clear hi2
  refine wpOp_step rfl (fun K hK => ite_yes rfl ?_)
  simp only [List.getElem_toArray, List.getElem_cons_zero, List.getElem_cons_succ]
  go_simp
  obtain ⟨U2, hU2⟩ : ∃ W, W = U1.alloc (.cells #[.int .i64 0, .bool false, .slice none 0 0, .map none] 106) := ⟨_, rfl⟩
  rw [← hU2]
  have v2 : Below U1.heap.size U1 U2 := by rw [hU2]; exact below1 _ _
  have y2 : U1.heap.size < U2.heap.size := by rw [hU2]; simp
  have n2 : U2.heap[U1.heap.size]? = some (.cells #[.int .i64 0, .bool false, .slice none 0 0, .map none] 106) := by rw [hU2]; exact heap_new _ _ _ rfl
  clear hU2
  have t2 := t1.below v2
  have b2 : U2.heap[w.heap.size]? = _ := (v2.block _ (by omega)).trans b1
  have r2 : U2.heap[w.heap.size + 1]? = _ := (v2.block _ (by omega)).trans r1
  have hSU2 : (∀ j, U2.cell? ⟨w.heap.size, j, none⟩ = (#[.string ⟨#[65]⟩, .slice none 0 0, .bool false, .bool false] : Array Value)[j]?) ∧ (∀ j, U2.cell? ⟨tb, j, none⟩ = (#[.map (some M)] : Array Value)[j]?) ∧ U2.heap[M]? = some (.map es clk) := ⟨(cells_of b2).1, (cells_of t2.tab).1, t2.map⟩
  refine hK _ _ ⟨hSU2, ?_⟩
  clear hK K hS
  have hS := hSU2
  clear hSU2
  try simp only [Act.put, List.setIfInBounds_toArray, List.set_cons_succ, List.set_cons_zero]
  obtain ⟨nc2, nf2⟩ := cells_of n2
  refine wpAnyH_all (rs := [8]) (by kernel_rfl) (by simp) (fun i2 hi2 => ?_)
  obtain rfl : i2 = 8 := by simpa using hi2
  clear hi2
  refine wpOp_step rfl (fun K hK => ite_yes rfl ?_)
  simp only [List.getElem_toArray, List.getElem_cons_zero, List.getElem_cons_succ]
  go_simp
  obtain ⟨U3, hU3⟩ : ∃ W, W = (((U2.setCell ⟨U1.heap.size, 0, none⟩ (.int .i64 8)).setCell ⟨U1.heap.size, 1, none⟩ (.bool false)).setCell ⟨U1.heap.size, 2, none⟩ (.slice (some ⟨g, 0, none⟩) 1 cap)).setCell ⟨U1.heap.size, 3, none⟩ (.map (some pb)) := ⟨_, rfl⟩
  rw [← hU3]
  have v3 : Kp (· = U1.heap.size) U2 U3 := by rw [hU3]; exact kp_set4 _ _ _ _ _ _
  have n3 : U3.heap[U1.heap.size]? = some (.cells #[.int .i64 8, .bool false, .slice (some ⟨g, 0, none⟩) 1 cap, .map (some pb)] 106) := by rw [hU3]; exact heap_set (heap_set (heap_set (heap_set n2 0 _) 1 _) 2 _) 3 _
  clear hU3
  have y3 := v3.size
  have l1 := t1.lts
  have t3 := t2.kp v3 (B := U1.heap.size) ⟨l1.1, l1.2.1, l1.2.2.1, l1.2.2.2.1, l1.2.2.2.2⟩ (fun i hi h => by omega)
  have b3 : U3.heap[w.heap.size]? = _ := (v3.block _ (by omega) (by omega)).trans b2
  have r3 : U3.heap[w.heap.size + 1]? = _ := (v3.block _ (by omega) (by omega)).trans r2
  have hSU3 : (∀ j, U3.cell? ⟨w.heap.size, j, none⟩ = (#[.string ⟨#[65]⟩, .slice none 0 0, .bool false, .bool false] : Array Value)[j]?) ∧ (∀ j, U3.cell? ⟨tb, j, none⟩ = (#[.map (some M)] : Array Value)[j]?) ∧ U3.heap[M]? = some (.map es clk) := ⟨(cells_of b3).1, (cells_of t3.tab).1, t3.map⟩
  refine hK _ _ ⟨hSU3, ?_⟩
  clear hK K hS
  have hS := hSU3
  clear hSU3
  try simp only [Act.put, List.setIfInBounds_toArray, List.set_cons_succ, List.set_cons_zero]
  refine wpAnyH_done (by kernel_rfl) ?_ _
  refine NoPanic.normal ?_
  try simp only [Act.put]
  have w3 : Below w.heap.size w U3 := u1.trans ((v2.mono (by omega)).trans (v3.below (by omega) fun i hi h => by omega))
  have sbl : w.heap.size + 1 < U1.heap.size ∧ U1.heap.size < U3.heap.size := by omega
  clear b2 r2 b1 r1 v3 v2 u1 u0 n2 nc2 nf2 hS y0 y1 y2 y3 t1 t2 l1
  obtain ⟨sb, hsb⟩ : ∃ n, n = U1.heap.size := ⟨_, rfl⟩
  rw [← hsb] at n3 sbl ⊢
  clear hsb U1
  have sc3 := (cells_of n3).1
  have hl3 := look_yes (P := Tryz.prog) Tryz.underlying104 Tryz.underlying9 t3.pa (i := 0) (v := .agg #[.bool true, .int .i64 0, .bool false, .int .i64 0]) (s := ⟨#[120]⟩) rfl false
  have hsb3 : sb < U3.heap.size := sbl.2
  go_wp2_with fail
  obtain ⟨U4, hU4⟩ : ∃ W, W = U3.alloc (.cells #[.bool true, .int .i64 0, .bool false, .int .i64 0] 103) := ⟨_, rfl⟩
  rw [← hU4]
  have w4 : Below U3.heap.size U3 U4 := by rw [hU4]; exact below1 _ _
  have y4 : U3.heap.size < U4.heap.size := by rw [hU4]; simp
  have n4 : U4.heap[U3.heap.size]? = some (.cells #[.bool true, .int .i64 0, .bool false, .int .i64 0] 103) := by rw [hU4]; exact heap_new _ _ _ rfl
  clear hU4 hl3 sc3
  have b4 : U4.heap[w.heap.size]? = _ := (w4.block _ (by omega)).trans b3
  have r4 : U4.heap[w.heap.size + 1]? = _ := (w4.block _ (by omega)).trans r3
  clear b3 r3
  refine wp_region_noPanic ?_
  refine wp_region_held (S := fun W => (∀ j, W.cell? ⟨w.heap.size, j, none⟩ = (#[.string ⟨#[65]⟩, .slice none 0 0, .bool false, .bool false] : Array Value)[j]?) ∧ (∀ j, W.cell? ⟨U3.heap.size, j, none⟩ = (#[.bool true, .int .i64 0, .bool false, .int .i64 0] : Array Value)[j]?)) (by kernel_rfl) ?_
  obtain ⟨U5, hU5⟩ : ∃ W4, W4 = (U4).drew := ⟨_, rfl⟩
  have e4 : ({ U4 with drawn := (U4).drawn + 1 } : World) = U5 := hU5.symm
  rw [e4]
  have hB4 : Below (U4).heap.size (U4) U5 := by rw [hU5]; exact (Below.refl _ _).drew
  have hS : (∀ j, U5.cell? ⟨w.heap.size, j, none⟩ = (#[.string ⟨#[65]⟩, .slice none 0 0, .bool false, .bool false] : Array Value)[j]?) ∧ (∀ j, U5.cell? ⟨U3.heap.size, j, none⟩ = (#[.bool true, .int .i64 0, .bool false, .int .i64 0] : Array Value)[j]?) := ⟨(cells_of ((hB4.block _ (by omega)).trans b4)).1, (cells_of ((hB4.block _ (by omega)).trans n4)).1⟩
  have HU5 : Hid (U5 = (U4).drew) := hU5
  clear e4 hU5
  refine wpAnyH_take (i := 0) (v := .pointer (some ⟨w.heap.size, 1, none⟩)) rfl (by kernel_rfl) (by kernel_rfl) (by kernel_rfl) (fun _ _ _ h => h) (Or.inl ⟨by rfl, ?r⟩) hS ?_
  case r => intro W hW; simp [go_sem, execOp, Act.eval]
  simp only [List.getElem_toArray, List.getElem_cons_zero, Act.put, List.setIfInBounds_toArray, List.set_cons_succ, List.set_cons_zero]
  refine wpAnyH_take (i := 1) (v := .slice none 0 0) rfl (by kernel_rfl) (by kernel_rfl) (by kernel_rfl) (fun _ _ _ h => h) (Or.inl ⟨by rfl, ?r⟩) hS ?_
  case r => intro W hW; simp [go_sem, execOp, Act.eval, hW.1]
  simp only [List.getElem_toArray, List.getElem_cons_zero, List.getElem_cons_succ, Act.put, List.setIfInBounds_toArray, List.set_cons_succ, List.set_cons_zero]
  refine wpAnyH_take (i := 3) (v := .pointer (some ⟨U3.heap.size, 1, none⟩)) rfl (by kernel_rfl) (by kernel_rfl) (by kernel_rfl) (fun _ _ _ h => h) (Or.inl ⟨by rfl, ?r⟩) hS ?_
  case r => intro W hW; simp [go_sem, execOp, Act.eval]
  simp only [List.getElem_toArray, List.getElem_cons_zero, List.getElem_cons_succ, Act.put, List.setIfInBounds_toArray, List.set_cons_succ, List.set_cons_zero]
  refine wpAnyH_take (i := 4) (v := .int .i64 0) rfl (by kernel_rfl) (by kernel_rfl) (by kernel_rfl) (fun _ _ _ h => h) (Or.inl ⟨by rfl, ?r⟩) hS ?_
  case r => intro W hW; simp [go_sem, execOp, Act.eval, hW.2]
  simp only [List.getElem_toArray, List.getElem_cons_zero, List.getElem_cons_succ, Act.put, List.setIfInBounds_toArray, List.set_cons_succ, List.set_cons_zero]
  have w5 : Below w.heap.size w U5 := w3.trans ((w4.mono (by omega)).trans (hB4.mono (by omega)))
  have y5 := hB4.size
  have b5 : U5.heap[w.heap.size]? = _ := (hB4.block _ (by omega)).trans b4
  have r5 : U5.heap[w.heap.size + 1]? = _ := (hB4.block _ (by omega)).trans r4
  have n5 : U5.heap[U3.heap.size]? = _ := (hB4.block _ (by omega)).trans n4
  obtain ⟨U6, hU6⟩ : ∃ W, W = U5.alloc (.cells #[.int .i64 0] 3) := ⟨_, rfl⟩
  have w6 : Below U5.heap.size U5 U6 := by rw [hU6]; exact below1 _ _
  have y6 : U5.heap.size < U6.heap.size := by rw [hU6]; simp
  have b6 : U6.heap[w.heap.size]? = _ := (w6.block _ (by omega)).trans b5
  have r6 : U6.heap[w.heap.size + 1]? = _ := (w6.block _ (by omega)).trans r5
  have n6 : U6.heap[U3.heap.size]? = _ := (w6.block _ (by omega)).trans n5
  have a6 : U6.heap[U5.heap.size]? = some (.cells #[.int .i64 0] 3) := by rw [hU6]; exact heap_new _ _ _ rfl
  have hS6 : (∀ j, U6.cell? ⟨w.heap.size, j, none⟩ = (#[.string ⟨#[65]⟩, .slice none 0 0, .bool false, .bool false] : Array Value)[j]?) ∧ (∀ j, U6.cell? ⟨U3.heap.size, j, none⟩ = (#[.bool true, .int .i64 0, .bool false, .int .i64 0] : Array Value)[j]?) := ⟨(cells_of b6).1, (cells_of n6).1⟩
  have HU6 : Hid (U6 = U5.alloc (.cells #[.int .i64 0] 3)) := hU6
  clear HU5 hB4 hU6
  refine wpAnyH_all (rs := [2, 5]) (by kernel_rfl) (by simp) (fun i2 hi2 => ?_)
  have h25 : i2 = 2 ∨ i2 = 5 := by simpa using hi2
  clear hi2
  rcases h25 with rfl | rfl
  refine wpOp_step rfl (fun K hK => ite_yes rfl ?_)
  simp only [List.getElem_toArray, List.getElem_cons_zero, List.getElem_cons_succ]
  go_simp
  refine (clone_nil _).mono ?_
  rintro r V ⟨rfl, hV⟩
  obtain rfl := hV.symm
  go_simp
  refine hK _ _ ⟨hS, ?_⟩
  clear hK K
  try simp only [Act.put, List.setIfInBounds_toArray, List.set_cons_succ, List.set_cons_zero]
  refine wpAnyH_all (rs := [5]) (by kernel_rfl) (by simp) (fun i2 hi2 => ?_)
  obtain rfl : i2 = 5 := by simpa using hi2
  clear hi2
  refine wpOp_step rfl (fun K hK => ite_yes rfl ?_)
  simp only [List.getElem_toArray, List.getElem_cons_zero, List.getElem_cons_succ]
  go_simp
  rw [← HU6.out]
  refine hK _ _ ⟨hS6, ?_⟩
  clear hK K
  try simp only [Act.put, List.setIfInBounds_toArray, List.set_cons_succ, List.set_cons_zero]
  rotate_left
  refine wpOp_step rfl (fun K hK => ite_yes rfl ?_)
  simp only [List.getElem_toArray, List.getElem_cons_zero, List.getElem_cons_succ]
  go_simp
  rw [← HU6.out]
  refine hK _ _ ⟨hS6, ?_⟩
  clear hK K
  try simp only [Act.put, List.setIfInBounds_toArray, List.set_cons_succ, List.set_cons_zero]
  refine wpAnyH_all (rs := [2]) (by kernel_rfl) (by simp) (fun i2 hi2 => ?_)
  obtain rfl : i2 = 2 := by simpa using hi2
  clear hi2
  refine wpOp_step rfl (fun K hK => ite_yes rfl ?_)
  simp only [List.getElem_toArray, List.getElem_cons_zero, List.getElem_cons_succ]
  go_simp
  refine (clone_nil _).mono ?_
  rintro r V ⟨rfl, hV⟩
  obtain rfl := hV.symm
  go_simp
  refine hK _ _ ⟨hS6, ?_⟩
  clear hK K
  try simp only [Act.put, List.setIfInBounds_toArray, List.set_cons_succ, List.set_cons_zero]
  rotate_left
  all_goals (
    refine wpAnyH_all (rs := [6]) (by kernel_rfl) (by simp) (fun i2 hi2 => ?_)
    obtain rfl : i2 = 6 := by simpa using hi2
    clear hi2
    refine wpOp_step rfl (fun K hK => ite_yes rfl ?_)
    simp only [List.getElem_toArray, List.getElem_cons_zero, List.getElem_cons_succ]
    obtain ⟨i0, hi, hz0, hz1, hz2⟩ := info_parts info3
    clear HU6 hS6
    refine wp_append_own U6 _ _ 48 rfl U6.heap.size 3 i0 (.int .i64 0) 1 8 Tryz.underlying48 hi hz0 hz1 hz2 rfl (by decide) _ 0 [] rfl (World.ownsRow_nil _ _ _ _) ⟨U5.heap.size, 0, none⟩ 1 1 [.int .i64 0] rfl rfl (fun j u hj => by rw [add_at, (cells_of a6).1 j, ← hj]; simp) (by simp [Value.oneCell']) (by decide) (by decide) (Nat.le_refl _) ?_
    intro v' U7 hown hgr hnil
    obtain ⟨pg, pc, rfl, hglo, hghi, w7, hrow⟩ := new_row hown hgr (fun e => by simpa using hnil.1 e)
    have hpc : 1 ≤ pc := by
      rcases hown.2 with ⟨h0, _⟩ | ⟨g', cap', cur, h1, h2, h3, h4, h5, h6, h7⟩
      · cases h0
      · cases h1; exact h4
    clear hown hgr hnil i0 hi hz0 hz1 hz2
    have p7 := (hrow 0 _ rfl).1
    have y7 := w7.size
    have b7 : U7.heap[w.heap.size]? = _ := (w7.block _ (by omega)).trans b6
    have r7 : U7.heap[w.heap.size + 1]? = some (.cells #[.int .i64 0, .slice none 0 0, .string ⟨#[]⟩, .bool false, .int .i64 0] 50) := (w7.block _ (by omega)).trans r6
    have n7 : U7.heap[U3.heap.size]? = _ := (w7.block _ (by omega)).trans n6
    have hSU7 : (∀ j, U7.cell? ⟨w.heap.size, j, none⟩ = (#[.string ⟨#[65]⟩, .slice none 0 0, .bool false, .bool false] : Array Value)[j]?) ∧ (∀ j, U7.cell? ⟨U3.heap.size, j, none⟩ = (#[.bool true, .int .i64 0, .bool false, .int .i64 0] : Array Value)[j]?) := ⟨(cells_of b7).1, (cells_of n7).1⟩
    refine hK _ _ ⟨hSU7, ?_⟩
    clear hK K hS
    have hS := hSU7
    clear hSU7
    try simp only [Act.put, List.setIfInBounds_toArray, List.set_cons_succ, List.set_cons_zero]
    refine wpAnyH_take (i := 7) (v := .agg #[.int .i64 1, .slice (some ⟨pg, 0, none⟩) 1 pc, .string ⟨#[]⟩, .bool false, .int .i64 0]) rfl (by kernel_rfl) (by kernel_rfl) (by kernel_rfl) (fun _ _ _ h => h) (Or.inl ⟨by rfl, ?r⟩) hS ?_
    case r => intro W hW; simp [go_sem, execOp, Act.eval]
    simp only [List.getElem_toArray, List.getElem_cons_zero, List.getElem_cons_succ, Act.put, List.setIfInBounds_toArray, List.set_cons_succ, List.set_cons_zero]
    obtain ⟨rc7, rf7⟩ := cells_of r7
    refine wpAnyH_all (rs := [8]) (by kernel_rfl) (by simp) (fun i2 hi2 => ?_)
    obtain rfl : i2 = 8 := by simpa using hi2
    clear hi2
    refine wpOp_step rfl (fun K hK => ite_yes rfl ?_)
    simp only [List.getElem_toArray, List.getElem_cons_zero, List.getElem_cons_succ]
    go_simp
    obtain ⟨U8, hU8⟩ : ∃ W, W = ((((U7.setCell ⟨w.heap.size + 1, 0, none⟩ (.int .i64 1)).setCell ⟨w.heap.size + 1, 1, none⟩ (.slice (some ⟨pg, 0, none⟩) 1 pc)).setCell ⟨w.heap.size + 1, 2, none⟩ (.string ⟨#[]⟩)).setCell ⟨w.heap.size + 1, 3, none⟩ (.bool false)).setCell ⟨w.heap.size + 1, 4, none⟩ (.int .i64 0) := ⟨_, rfl⟩
    rw [← hU8]
    have k8 : Kp (· = w.heap.size + 1) U7 U8 := by rw [hU8]; exact kp_set5 _ _ _ _ _ _ _
    have r8 : U8.heap[w.heap.size + 1]? = some (.cells #[.int .i64 1, .slice (some ⟨pg, 0, none⟩) 1 pc, .string ⟨#[]⟩, .bool false, .int .i64 0] 50) := by rw [hU8]; exact heap_set (heap_set (heap_set (heap_set (heap_set r7 0 _) 1 _) 2 _) 3 _) 4 _
    clear hU8
    have y8 := k8.size
    have b8 : U8.heap[w.heap.size]? = _ := (k8.block _ (by omega) (by omega)).trans b7
    have n8 : U8.heap[U3.heap.size]? = _ := (k8.block _ (by omega) (by omega)).trans n7
    have p8 := (k8.cell (o := 0) hghi (by omega)).trans p7
    have hSU8 : (∀ j, U8.cell? ⟨w.heap.size, j, none⟩ = (#[.string ⟨#[65]⟩, .slice none 0 0, .bool false, .bool false] : Array Value)[j]?) ∧ (∀ j, U8.cell? ⟨U3.heap.size, j, none⟩ = (#[.bool true, .int .i64 0, .bool false, .int .i64 0] : Array Value)[j]?) := ⟨(cells_of b8).1, (cells_of n8).1⟩
    refine hK _ _ ⟨hSU8, ?_⟩
    clear hK K hS
    have hS := hSU8
    clear hSU8
    try simp only [Act.put, List.setIfInBounds_toArray, List.set_cons_succ, List.set_cons_zero]
    refine wpAnyH_done (by kernel_rfl) ?_ _
    refine NoPanic.normal ?_
    try simp only [Act.put]
    go_wp2_with fail
    have rc8 := (cells_of r8).1
    refine bodyPost_ret (v := fndX pg pc) (by simp [results, Tryz.results72, go_sem, rc8]) rfl ⟨⟨pg, pc, rfl, by omega, by omega, hpc, p8⟩, ?_⟩
    exact w5.trans ((w6.mono (by omega)).trans ((w7.mono (by omega)).trans (k8.below (by omega) fun i hi h => by omega)))
  )

end Go.Proofs.YtaboeocgoocgfaaGreatDoor
