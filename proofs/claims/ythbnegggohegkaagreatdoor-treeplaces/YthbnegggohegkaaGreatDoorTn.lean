/-
  What tree.Right asks of a name's text.
-/
import Derived.Test.YthbnegggohegkaaGreatDoorGiJ
import Derived.Deep.RegionHeld3
namespace Go.Proofs.YthbnegggohegkaaGreatDoor
open Go.RowKit

theorem ite_yes {c p q : Prop} [Decidable c] (h : c) (hp : p) : if c then p else q := by rw [if_pos h]; exact hp

set_option maxRecDepth 100000 in
set_option maxHeartbeats 1000000 in
theorem text_name {gw ow gs os : Nat} (s : ByteArray) (hs : Abc s) (a r : Int) (p : Option Addr) (c : Nat) (w : World) (ht : TabsAt gw ow gs os w) :
    Calls Tryz.prog 90 #[.agg (leafN 14 s a p c), .int .i64 r] w fun e w' => e = .returned (.bool true) ∧ Below w.heap.size w w' := by
  have HN : Hid (∀ W, Below w.heap.size w W → Calls Tryz.prog 121 #[.string s] W fun e w' => e = .returned (.bool true) ∧ Below W.heap.size W w') := fun W hW =>
    treeName_abc s hs W (ht.below (Nat.le_refl _) hW)
  go_enter Tryz.func90, Tryz.ntmps90
  go_wp2_with fail
  refine wp_region_any (by kernel_rfl) ?_
  obtain ⟨W0, hW0⟩ : ∃ W0, W0 = (w.alloc (.cells (leafN 14 s a p c) 24)).drew := ⟨_, rfl⟩
  have hb0 : Below w.heap.size w W0 := by rw [hW0]; exact (below1 _ _).drew
  have hc1 : W0.cell? ⟨w.heap.size, 1, none⟩ = some (.string s) := by rw [hW0]; simp
  have e0 : ({ (w.alloc (.cells (leafN 14 s a p c) 24)) with drawn := (w.alloc (.cells (leafN 14 s a p c) 24)).drawn + 1 } : World) = W0 := hW0.symm
  rw [e0]
  clear e0 hW0
  refine wpAny_take (i := 0) (v := .pointer (some ⟨w.heap.size, 1, none⟩)) rfl (by kernel_rfl) (by kernel_rfl) (by kernel_rfl) ?q0 (Or.inl ⟨rfl, fun W => ?r0⟩) ?_
  case q0 => intro c a w h; exact h
  case r0 => simp [go_sem, execOp, Act.eval]
  simp only [List.getElem_toArray, List.getElem_cons_zero, Act.put, List.setIfInBounds_toArray, List.set_cons_succ, List.set_cons_zero]
  refine wpAny_all (rs := [1]) (by kernel_rfl) (by simp) (fun i hi => ?_)
  obtain rfl : i = 1 := by simpa using hi
  clear hi
  refine wpOp_step rfl (fun K hK => ite_yes rfl ?_)
  simp only [List.getElem_toArray, List.getElem_cons_zero, List.getElem_cons_succ]
  go_simp
  refine hK _ _ ?_
  clear hK K
  refine wpAny_all (rs := [2]) (by kernel_rfl) (by simp) (fun i hi => ?_)
  obtain rfl : i = 2 := by simpa using hi
  clear hi
  refine wpOp_step rfl (fun K hK => ite_yes rfl ?_)
  simp only [List.getElem_toArray, List.getElem_cons_zero, List.getElem_cons_succ]
  go_simp
  refine (HN.out _ hb0).mono ?_
  rintro e w1 ⟨rfl, hb1⟩
  go_simp
  refine hK _ _ ?_
  clear hK K
  refine wpAny_take (i := 3) (v := .bool true) rfl (by kernel_rfl) (by kernel_rfl) (by kernel_rfl) ?q3 (Or.inl ⟨rfl, fun W => ?r3⟩) ?_
  case q3 => intro c a w h; exact h
  case r3 => simp [go_sem, execOp, Act.eval]
  refine wpAny_take (i := 4) (v := undef) rfl (by kernel_rfl) (by kernel_rfl) (by kernel_rfl) ?q4 (Or.inr ⟨rfl, rfl⟩) ?_
  case q4 => intro c a w h; exact h
  refine wpAny_take (i := 5) (v := undef) rfl (by kernel_rfl) (by kernel_rfl) (by kernel_rfl) ?q5 (Or.inr ⟨rfl, rfl⟩) ?_
  case q5 => intro c a w h; exact h
  refine wpAny_take (i := 6) (v := undef) rfl (by kernel_rfl) (by kernel_rfl) (by kernel_rfl) ?q6 (Or.inr ⟨rfl, rfl⟩) ?_
  case q6 => intro c a w h; exact h
  refine wpAny_take (i := 7) (v := undef) rfl (by kernel_rfl) (by kernel_rfl) (by kernel_rfl) ?q7 (Or.inr ⟨rfl, rfl⟩) ?_
  case q7 => intro c a w h; exact h
  refine wpAny_take (i := 8) (v := undef) rfl (by kernel_rfl) (by kernel_rfl) (by kernel_rfl) ?q8 (Or.inr ⟨rfl, rfl⟩) ?_
  case q8 => intro c a w h; exact h
  refine wpAny_take (i := 9) (v := .bool true) rfl (by kernel_rfl) (by kernel_rfl) (by kernel_rfl) ?q9 (Or.inl ⟨rfl, fun W => ?r9⟩) ?_
  case q9 => intro c a w h; exact h
  case r9 => simp [go_sem, execOp, Act.eval, Act.put]
  refine wpAny_take (i := 10) (v := .bool true) rfl (by kernel_rfl) (by kernel_rfl) (by kernel_rfl) ?q10 (Or.inl ⟨rfl, fun W => ?r10⟩) ?_
  case q10 => intro c a w h; exact h
  case r10 => simp [go_sem, execOp, Act.eval, Act.put]
  refine wpAny_done (by kernel_rfl) ?_ _
  simp only [List.getElem_toArray, List.getElem_cons_zero, List.getElem_cons_succ, Act.put, List.setIfInBounds_toArray, List.set_cons_succ, List.set_cons_zero]
  go_wp2_with fail
  go_ret
  exact ⟨rfl, hb0.trans (hb1.mono hb0.size)⟩
end Go.Proofs.YthbnegggohegkaaGreatDoor
