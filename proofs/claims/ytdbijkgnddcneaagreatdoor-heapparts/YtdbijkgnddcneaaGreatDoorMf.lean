/-
  .
-/
import Derived.Test.YtdbijkgnddcneaaGreatDoorMhJ
import Derived.Deep.RegionWith
import Derived.BigRegion
import Derived.Laws.MakeOwn
namespace Go.Proofs.YtdbijkgnddcneaaGreatDoor
open Go.RowKit
set_option maxRecDepth 100000
set_option maxHeartbeats 4000000
theorem mk1 (w : World) : (Instr.makeSlice 160 (.int .i64 1) (.int .i64 1)).run Tryz.prog w = .ok (.slice (some ⟨w.heap.size, 0, none⟩) 1 1) (w.alloc (.cells #[.pointer none, .pointer none, .pointer none, .pointer none, .pointer none, .pointer none, .pointer none, .pointer none] 254)) := by kernel_rfl
attribute [local go_sem] mk1
theorem heap3 (w : World) (a b c : Obj) : (((w.alloc a).alloc b).alloc c).heap[w.heap.size]? = some a ∧ (((w.alloc a).alloc b).alloc c).heap[w.heap.size + 1]? = some b ∧ (((w.alloc a).alloc b).alloc c).heap[w.heap.size + 2]? = some c := by
 refine ⟨?_, ?_, ?_⟩
 ·exact ((below2 (w.alloc a) b c).block _ (by simp)).trans (heap_alloc_new w a)
 ·exact ((below1 ((w.alloc a).alloc b) c).block _ (by simp)).trans (heap2_1 w a b)
 ·have := heap_alloc_new ((w.alloc a).alloc b) c
  simpa using this
def G0 (hb rb : Nat) : KG := ⟨hb, rb, 1, 1, fun _ => none, fun _ => none, fun _ => rb, fun _ => rb, fun _ => []⟩
theorem new_done (n : Nat) (w : World) : KM n (((w.alloc (.cells #[.pointer none, .pointer none, .int .u64 0, .pointer none, .pointer (some ⟨w.heap.size, 0, none⟩), .pointer (some ⟨w.heap.size, 0, none⟩), .bool false] 159)).alloc (.cells #[.pointer none, .pointer none, .pointer none, .pointer none, .pointer none, .pointer none, .pointer none, .pointer none] 254)).alloc (.cells #[.slice (some ⟨w.heap.size + 1, 0, none⟩) 1 1, .pointer (some ⟨w.heap.size, 0, none⟩), .int .i64 0] 162)) (w.heap.size + 2) [] (G0 (w.heap.size + 1) w.heap.size) := by
 obtain ⟨h1, h2, h3⟩ := heap3 w (.cells #[.pointer none, .pointer none, .int .u64 0, .pointer none, .pointer (some ⟨w.heap.size, 0, none⟩), .pointer (some ⟨w.heap.size, 0, none⟩), .bool false] 159) (.cells #[.pointer none, .pointer none, .pointer none, .pointer none, .pointer none, .pointer none, .pointer none, .pointer none] 254) (.cells #[.slice (some ⟨w.heap.size + 1, 0, none⟩) 1 1, .pointer (some ⟨w.heap.size, 0, none⟩), .int .i64 0] 162)
 refine ⟨h3, Nat.le_refl _, Nat.le_refl _, show (1 : Nat) ≤ 1099511627776 by decide, show (1 : Nat) ≤ maxLen by unfold maxLen; decide, ⟨_, h2, rfl, fun i hi => ?_⟩, h1, by simp, by simp, ⟨rfl, rfl, trivial⟩, by simp, fun i _ => ⟨rfl, by simp [G0], by simp [G0]⟩, by simp, by simp, by simp⟩
 have : i < 8 := hi
 match i, this with
 | 0, _ => rfl
 | 1, _ => rfl
 | 2, _ => rfl
 | 3, _ => rfl
 | 4, _ => rfl
 | 5, _ => rfl
 | 6, _ => rfl
 | 7, _ => rfl
theorem new_any (n : Nat) (w : World) :
  Calls Tryz.prog 54 #[] w fun r w' => ∃ m G, r = .returned (.pointer (some ⟨m, 0, none⟩)) ∧ KM n w' m [] G ∧ Below w.heap.size w w' ∧ (∀ b, KM.own m [] G b → w.heap.size ≤ b) := by
 have HD : Hid (∀ N, KM N _ _ _ _) := fun N => new_done N w
 go_enter Tryz.func54, Tryz.ntmps54
 go_wp2_with fail
 go_ret
 exact ⟨_, _, rfl, HD.out n, ((Below.refl _ _).alloc (Nat.le_refl _) _ |>.alloc (by simp) _ |>.alloc (by simp; omega) _), fun b hb => by
  rcases hb with rfl | rfl | rfl | hb
  ·omega
  ·exact Nat.le_succ _
  ·exact Nat.le_refl _
  ·simp at hb⟩
end Go.Proofs.YtdbijkgnddcneaaGreatDoor
