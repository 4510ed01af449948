/-
  copied, behind, Of, of data without Items.
-/
import Derived.Test.YtnhbpcmiolkllabDoorG
namespace Go.Proofs.YtnhbpcmiolkllabDoor
open Go.RowKit
attribute [local go_sem] refold2 cell3_0 cell3_1 b28_0 b28_01

theorem row_ltT {W : World} {b : Nat} {o : Obj} (h : W.heap[b]? = some o) : b < W.heap.size := (Array.getElem?_eq_some_iff.1 h).1
theorem box_keptD {W : World} {b : Nat} (h : W.heap[b]? = some (.cells zeros 32 (0, 0))) :
    (W.cell? ⟨b, 0, none⟩ = some (.int .i64 0) ∧ W.cell? ⟨b, 1, none⟩ = some (.string ⟨#[]⟩) ∧ W.cell? ⟨b, 2, none⟩ = some (.int .i64 0) ∧ W.cell? ⟨b, 3, none⟩ = some (.int .u64 0) ∧ W.cell? ⟨b, 4, none⟩ = some (.string ⟨#[]⟩) ∧ W.cell? ⟨b, 5, none⟩ = some (.int .i64 0) ∧ W.cell? ⟨b, 6, none⟩ = some (.int .i64 0) ∧ W.cell? ⟨b, 7, none⟩ = some (.int .i64 0) ∧ W.cell? ⟨b, 8, none⟩ = some (.int .i64 0) ∧ W.cell? ⟨b, 9, none⟩ = some (.slice none 0 0) ∧ W.cell? ⟨b, 10, none⟩ = some (.slice none 0 0)) ∧ ∀ j, W.frozen? ⟨b, j, none⟩ = false :=
  ⟨⟨row_at h 0, row_at h 1, row_at h 2, row_at h 3, row_at h 4, row_at h 5, row_at h 6, row_at h 7, row_at h 8, row_at h 9, row_at h 10⟩, fun j => fz _ _ _ _ j h⟩
theorem set_same {w : World} {b o : Nat} {v : Value} {cs : Array Value} (h : ∀ j, w.cell? ⟨b, j, none⟩ = cs[j]?) (ho : cs[o]? = some v) : ∀ j, (w.setCell ⟨b, o, none⟩ v).cell? ⟨b, j, none⟩ = cs[j]? := fun j => by
  by_cases e : j = o
  · subst e
    have := h j
    rw [ho] at this
    rw [ho]; simp [go_sem, this]
  · rw [World.cell?_setCell_other _ _ _ _ (fun q => e (by cases q; rfl))]; exact h j

set_option maxRecDepth 100000 in
set_option maxHeartbeats 4000000 in
theorem copied_flat (k : Int) (t : ByteArray) (a f : Int) (s : ByteArray) (r0 r1 r2 r3 : Int) (w : World) (ht : t.size ≤ 140737488351232) (hs : s.size ≤ 140737488351232) :
    Calls Tryd.prog 32 #[D k t a f s r0 r1 r2 r3 (.slice none 0 0) (.slice none 0 0)] w fun r w' => r = .returned (D k t a f s r0 r1 r2 r3 (.slice none 0 0) (.slice none 0 0)) ∧ Below w.heap.size w w' := by
  simp only [D]
  obtain ⟨W2, hW2⟩ : ∃ W2, W2 = (w.alloc (.cells #[.int .i64 k, .string t, .int .i64 a, .int .u64 f, .string s, .int .i64 r0, .int .i64 r1, .int .i64 r2, .int .i64 r3, .slice none 0 0, .slice none 0 0] 32)).alloc (.cells #[.int .i64 0, .string ⟨#[]⟩, .int .i64 0, .int .u64 0, .string ⟨#[]⟩, .int .i64 0, .int .i64 0, .int .i64 0, .int .i64 0, .slice none 0 0, .slice none 0 0] 32) := ⟨_, rfl⟩
  have hB2 : Below w.heap.size w W2 := by rw [hW2]; exact below2 _ _ _
  have hz2 : W2.heap.size = w.heap.size + 2 := by rw [hW2]; simp
  have hrow0 : Hid (W2.heap[w.heap.size]? = some (.cells #[.int .i64 k, .string t, .int .i64 a, .int .u64 f, .string s, .int .i64 r0, .int .i64 r1, .int .i64 r2, .int .i64 r3, .slice none 0 0, .slice none 0 0] 32 (0, 0))) := by rw [hW2, Below.heap_alloc _ _ _ (by simp)]; exact heap_alloc_new _ _
  have hrow1 : Hid (W2.heap[w.heap.size + 1]? = some (.cells zeros 32 (0, 0))) := by rw [hW2]; exact heap2_1 _ _ _
  have HK : Hid (∀ W, Below W2.heap.size W2 W → (∀ j, W.cell? ⟨w.heap.size, j, none⟩ = (#[.int .i64 k, .string t, .int .i64 a, .int .u64 f, .string s, .int .i64 r0, .int .i64 r1, .int .i64 r2, .int .i64 r3, .slice none 0 0, .slice none 0 0] : Array Value)[j]?)) := fun W hW j => row_at ((hW.block w.heap.size (by omega)).trans hrow0.out) j
  have HC : Hid (∀ (u : ByteArray) (W : World), u.size ≤ 140737488351232 → Calls Tryd.prog 47 #[.string u] W fun r w' => r = .returned (.string u) ∧ Below W.heap.size W w') := fun u W h => clone_any u W h
  go_enter Tryd.func32, Tryd.ntmps32
  go_wp2_with fail
  rw [← hW2]
  clear hW2
  refine wp_region_noPanic ?_
  refine wp_region_held (S := fun W => ∀ j, W.cell? ⟨w.heap.size, j, none⟩ = (#[.int .i64 k, .string t, .int .i64 a, .int .u64 f, .string s, .int .i64 r0, .int .i64 r1, .int .i64 r2, .int .i64 r3, .slice none 0 0, .slice none 0 0] : Array Value)[j]?) (by kernel_rfl) ?_
  obtain ⟨W4, hW4⟩ : ∃ W4, W4 = W2.drew := ⟨_, rfl⟩
  have e4 : ({ W2 with drawn := W2.drawn + 1 } : World) = W4 := hW4.symm
  rw [e4]
  have hB4 : Below W2.heap.size W2 W4 := by rw [hW4]; exact (Below.refl _ _).drew
  have hS := HK.out W4 hB4
  clear e4 hW4
  refine wpAnyH_take (i := 0) (v := .pointer (some ⟨w.heap.size, 1, none⟩)) rfl (by kernel_rfl) (by kernel_rfl) (by kernel_rfl) (fun _ _ _ h => h) (Or.inl ⟨by rfl, ?r⟩) hS ?_
  case r => intro W hW; simp [go_sem, execOp, Act.eval]
  simp only [List.getElem_toArray, List.getElem_cons_zero, Act.put, List.setIfInBounds_toArray, List.set_cons_succ, List.set_cons_zero]
  refine wpAnyH_take (i := 1) (v := .string t) rfl (by kernel_rfl) (by kernel_rfl) (by kernel_rfl) (fun _ _ _ h => h) (Or.inl ⟨by rfl, ?r⟩) hS ?_
  case r => intro W hW; simp [go_sem, execOp, Act.eval, hW]
  simp only [List.getElem_toArray, List.getElem_cons_zero, List.getElem_cons_succ, Act.put, List.setIfInBounds_toArray, List.set_cons_succ, List.set_cons_zero]
  refine wpAnyH_take (i := 3) (v := .pointer (some ⟨w.heap.size, 4, none⟩)) rfl (by kernel_rfl) (by kernel_rfl) (by kernel_rfl) (fun _ _ _ h => h) (Or.inl ⟨by rfl, ?r⟩) hS ?_
  case r => intro W hW; simp [go_sem, execOp, Act.eval]
  simp only [List.getElem_toArray, List.getElem_cons_zero, List.getElem_cons_succ, Act.put, List.setIfInBounds_toArray, List.set_cons_succ, List.set_cons_zero]
  refine wpAnyH_take (i := 4) (v := .string s) rfl (by kernel_rfl) (by kernel_rfl) (by kernel_rfl) (fun _ _ _ h => h) (Or.inl ⟨by rfl, ?r⟩) hS ?_
  case r => intro W hW; simp [go_sem, execOp, Act.eval, hW]
  simp only [List.getElem_toArray, List.getElem_cons_zero, List.getElem_cons_succ, Act.put, List.setIfInBounds_toArray, List.set_cons_succ, List.set_cons_zero]
  refine wpAnyH_all (rs := [2]) (by kernel_rfl) (by simp) (fun i2 hi2 => ?_)
  obtain rfl : i2 = 2 := by simpa using hi2
  clear hi2
  refine wpOp_step rfl (fun K hK => ite_yes rfl ?_)
  simp only [List.getElem_toArray, List.getElem_cons_zero, List.getElem_cons_succ]
  go_simp
  refine (HC.out _ _ ht).mono ?_
  rintro e w5 ⟨rfl, b5⟩
  have hb5 : Below W2.heap.size W2 w5 := hB4.trans (b5.mono hB4.size)
  go_simp
  refine hK _ _ ⟨HK.out _ hb5, ?_⟩
  clear hK K hS
  have hS := HK.out _ hb5
  refine wpAnyH_take (i := 6) (v := .pointer (some ⟨w.heap.size, 1, none⟩)) rfl (by kernel_rfl) (by kernel_rfl) (by kernel_rfl) (fun _ _ _ h => h) (Or.inl ⟨by rfl, ?r⟩) hS ?_
  case r => intro W hW; simp [go_sem, execOp, Act.eval]
  simp only [List.getElem_toArray, List.getElem_cons_zero, List.getElem_cons_succ, Act.put, List.setIfInBounds_toArray, List.set_cons_succ, List.set_cons_zero]
  refine wpAnyH_all (rs := [5]) (by kernel_rfl) (by simp) (fun i2 hi2 => ?_)
  obtain rfl : i2 = 5 := by simpa using hi2
  clear hi2
  refine wpOp_step rfl (fun K hK => ite_yes rfl ?_)
  simp only [List.getElem_toArray, List.getElem_cons_zero, List.getElem_cons_succ]
  go_simp
  refine (HC.out _ _ hs).mono ?_
  rintro e w6 ⟨rfl, b6⟩
  have hb6 : Below W2.heap.size W2 w6 := hb5.trans (b6.mono hb5.size)
  go_simp
  refine hK _ _ ⟨HK.out _ hb6, ?_⟩
  clear hK K hS
  have hS := HK.out _ hb6
  have hfr : ∀ j, w6.frozen? ⟨w.heap.size, j, none⟩ = false := fun j => fz _ _ _ _ j ((hb6.block w.heap.size (by omega)).trans hrow0.out)
  refine wpAnyH_all (rs := [7]) (by kernel_rfl) (by simp) (fun i2 hi2 => ?_)
  obtain rfl : i2 = 7 := by simpa using hi2
  clear hi2
  refine wpOp_step rfl (fun K hK => ite_yes rfl ?_)
  simp only [List.getElem_toArray, List.getElem_cons_zero, List.getElem_cons_succ]
  have c1 : w6.cell? ⟨w.heap.size, 1, none⟩ = some (.string t) := hS 1
  go_simp
  have hS7 := set_same (o := 1) (v := .string t) hS rfl
  refine hK _ _ ⟨hS7, ?_⟩
  clear hK K hS
  have hS := hS7
  refine wpAnyH_take (i := 8) (v := .pointer (some ⟨w.heap.size, 4, none⟩)) rfl (by kernel_rfl) (by kernel_rfl) (by kernel_rfl) (fun _ _ _ h => h) (Or.inl ⟨by rfl, ?r⟩) hS ?_
  case r => intro W hW; simp [go_sem, execOp, Act.eval]
  simp only [List.getElem_toArray, List.getElem_cons_zero, List.getElem_cons_succ, Act.put, List.setIfInBounds_toArray, List.set_cons_succ, List.set_cons_zero]
  refine wpAnyH_all (rs := [9]) (by kernel_rfl) (by simp) (fun i2 hi2 => ?_)
  obtain rfl : i2 = 9 := by simpa using hi2
  clear hi2
  refine wpOp_step rfl (fun K hK => ite_yes rfl ?_)
  simp only [List.getElem_toArray, List.getElem_cons_zero, List.getElem_cons_succ]
  have c4 : w6.cell? ⟨w.heap.size, 4, none⟩ = some (.string s) := HK.out _ hb6 4
  go_simp
  have hS9 := set_same (o := 4) (v := .string s) hS7 rfl
  refine hK _ _ ⟨hS9, ?_⟩
  clear hK K hS
  refine wpAnyH_done (by kernel_rfl) ?_ _
  refine NoPanic.normal ?_
  try simp only [Act.put]
  obtain ⟨W9, hW9⟩ : ∃ W9, W9 = ((w6.setCell ⟨w.heap.size, 1, none⟩ (.string t)).setCell ⟨w.heap.size, 4, none⟩ (.string s)) := ⟨_, rfl⟩
  have hB9 : Below w.heap.size w W9 := by rw [hW9]; exact ((hB2.trans (hb6.mono (by omega))).setCell (p := ⟨w.heap.size, 1, none⟩) (Nat.le_refl _) _).setCell (p := ⟨w.heap.size, 4, none⟩) (Nat.le_refl _) _
  have hf9 : ∀ j, W9.frozen? ⟨w.heap.size, j, none⟩ = false := fun j => by rw [hW9]; simp [go_sem, hfr]
  have hr9 : W9.heap[w.heap.size + 1]? = some (.cells zeros 32 (0, 0)) := by
    rw [hW9, Below.heap_setCell _ _ _ _ (by simp), Below.heap_setCell _ _ _ _ (by simp)]; exact (hb6.block (w.heap.size + 1) (by omega)).trans hrow1.out
  have hz9 : w.heap.size + 1 < W9.heap.size := row_ltT hr9
  rw [← hW9] at hS9 ⊢
  obtain ⟨⟨d0, d1, d2, d3, d4, d5, d6, d7, d8, d9, d10⟩, hf2⟩ := box_keptD hr9
  clear hW9 hfr c1 c4 hS7 HK HC hrow0 hrow1 hr9
  go_wp2_with fail
  go_rounds 1
  refine bodyPost_ret (v := .agg #[.int .i64 k, .string t, .int .i64 a, .int .u64 f, .string s, .int .i64 r0, .int .i64 r1, .int .i64 r2, .int .i64 r3, .slice none 0 0, .slice none 0 0]) (by simp [results, Tryd.results32, go_sem, d0, d1, d2, d3, d4, d5, d6, d7, d8, d9, d10]) rfl ⟨rfl, ?_⟩
  exact bset ((hB9.setCell (p := ⟨w.heap.size, 9, none⟩) (Nat.le_refl _) _).setCell (p := ⟨w.heap.size, 10, none⟩) (Nat.le_refl _) _) (by omega) _ _ _ _ _ _ _ _ _ _ _

set_option maxRecDepth 100000 in
set_option maxHeartbeats 1000000 in
theorem behind_0 (b : Nat) (w : World) (h : w.cell? ⟨b, 0, none⟩ = some (.int .i64 0)) (hb : b < w.heap.size) :
    Calls Tryd.prog 33 #[.pointer (some ⟨b, 0, none⟩)] w fun r w' => r = .returned (.nilIface) ∧ Below w.heap.size w w' := by
  go_enter Tryd.func33, Tryd.ntmps33
  go_wp2_with fail
  go_ret
  exact ⟨rfl, below1 _ _⟩

set_option maxRecDepth 100000 in
set_option maxHeartbeats 1000000 in
theorem behind_1 (b : Nat) (w : World) (h : w.cell? ⟨b, 0, none⟩ = some (.int .i64 1)) (hb : b < w.heap.size) :
    Calls Tryd.prog 33 #[.pointer (some ⟨b, 0, none⟩)] w fun r w' => r = .returned (.iface 121 (.agg #[.pointer (some ⟨b, 0, none⟩)])) ∧ Below w.heap.size w w' := by
  go_enter Tryd.func33, Tryd.ntmps33
  go_wp2_with fail
  go_ret
  exact ⟨rfl, below1 _ _⟩

set_option maxRecDepth 100000 in
set_option maxHeartbeats 1000000 in
theorem behind_2 (b : Nat) (w : World) (h : w.cell? ⟨b, 0, none⟩ = some (.int .i64 2)) (hb : b < w.heap.size) :
    Calls Tryd.prog 33 #[.pointer (some ⟨b, 0, none⟩)] w fun r w' => r = .returned (.iface 122 (.agg #[.pointer (some ⟨b, 0, none⟩)])) ∧ Below w.heap.size w w' := by
  go_enter Tryd.func33, Tryd.ntmps33
  go_wp2_with fail
  go_ret
  exact ⟨rfl, below1 _ _⟩

set_option maxRecDepth 100000 in
set_option maxHeartbeats 1000000 in
theorem behind_3 (b : Nat) (w : World) (h : w.cell? ⟨b, 0, none⟩ = some (.int .i64 3)) (hb : b < w.heap.size) :
    Calls Tryd.prog 33 #[.pointer (some ⟨b, 0, none⟩)] w fun r w' => r = .returned (.iface 111 (.agg #[.pointer (some ⟨b, 0, none⟩)])) ∧ Below w.heap.size w w' := by
  go_enter Tryd.func33, Tryd.ntmps33
  go_wp2_with fail
  go_ret
  exact ⟨rfl, below1 _ _⟩

set_option maxRecDepth 100000 in
set_option maxHeartbeats 1000000 in
theorem behind_4 (b : Nat) (w : World) (h : w.cell? ⟨b, 0, none⟩ = some (.int .i64 4)) (hb : b < w.heap.size) :
    Calls Tryd.prog 33 #[.pointer (some ⟨b, 0, none⟩)] w fun r w' => r = .returned (.iface 123 (.agg #[.pointer (some ⟨b, 0, none⟩)])) ∧ Below w.heap.size w w' := by
  go_enter Tryd.func33, Tryd.ntmps33
  go_wp2_with fail
  go_ret
  exact ⟨rfl, below1 _ _⟩

set_option maxRecDepth 100000 in
set_option maxHeartbeats 1000000 in
theorem behind_5 (b : Nat) (w : World) (h : w.cell? ⟨b, 0, none⟩ = some (.int .i64 5)) (hb : b < w.heap.size) :
    Calls Tryd.prog 33 #[.pointer (some ⟨b, 0, none⟩)] w fun r w' => r = .returned (.iface 126 (.agg #[.pointer (some ⟨b, 0, none⟩)])) ∧ Below w.heap.size w w' := by
  go_enter Tryd.func33, Tryd.ntmps33
  go_wp2_with fail
  go_ret
  exact ⟨rfl, below1 _ _⟩

set_option maxRecDepth 100000 in
set_option maxHeartbeats 1000000 in
theorem behind_6 (b : Nat) (w : World) (h : w.cell? ⟨b, 0, none⟩ = some (.int .i64 6)) (hb : b < w.heap.size) :
    Calls Tryd.prog 33 #[.pointer (some ⟨b, 0, none⟩)] w fun r w' => r = .returned (.iface 127 (.agg #[.pointer (some ⟨b, 0, none⟩)])) ∧ Below w.heap.size w w' := by
  go_enter Tryd.func33, Tryd.ntmps33
  go_wp2_with fail
  go_ret
  exact ⟨rfl, below1 _ _⟩

set_option maxRecDepth 100000 in
set_option maxHeartbeats 1000000 in
theorem behind_7 (b : Nat) (w : World) (h : w.cell? ⟨b, 0, none⟩ = some (.int .i64 7)) (hb : b < w.heap.size) :
    Calls Tryd.prog 33 #[.pointer (some ⟨b, 0, none⟩)] w fun r w' => r = .returned (.iface 128 (.agg #[.pointer (some ⟨b, 0, none⟩)])) ∧ Below w.heap.size w w' := by
  go_enter Tryd.func33, Tryd.ntmps33
  go_wp2_with fail
  go_ret
  exact ⟨rfl, below1 _ _⟩

set_option maxRecDepth 100000 in
set_option maxHeartbeats 1000000 in
theorem behind_8 (b : Nat) (w : World) (h : w.cell? ⟨b, 0, none⟩ = some (.int .i64 8)) (hb : b < w.heap.size) :
    Calls Tryd.prog 33 #[.pointer (some ⟨b, 0, none⟩)] w fun r w' => r = .returned (.iface 92 (.agg #[.pointer (some ⟨b, 0, none⟩)])) ∧ Below w.heap.size w w' := by
  go_enter Tryd.func33, Tryd.ntmps33
  go_wp2_with fail
  go_ret
  exact ⟨rfl, below1 _ _⟩

set_option maxRecDepth 100000 in
set_option maxHeartbeats 1000000 in
theorem behind_9 (b : Nat) (w : World) (h : w.cell? ⟨b, 0, none⟩ = some (.int .i64 9)) (hb : b < w.heap.size) :
    Calls Tryd.prog 33 #[.pointer (some ⟨b, 0, none⟩)] w fun r w' => r = .returned (.iface 129 (.agg #[.pointer (some ⟨b, 0, none⟩)])) ∧ Below w.heap.size w w' := by
  go_enter Tryd.func33, Tryd.ntmps33
  go_wp2_with fail
  go_ret
  exact ⟨rfl, below1 _ _⟩
end Go.Proofs.YtnhbpcmiolkllabDoor
