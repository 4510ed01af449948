/-
  The walk of secondDefault at a node whose Kids are no cases.
-/
import Derived.Test.YthbnegggohegkaaGreatDoorRc
namespace Go.Proofs.YthbnegggohegkaaGreatDoor
open Go.RowKit

set_option maxRecDepth 100000 in
set_option maxHeartbeats 2000000 in
theorem second_any (k : Int) (s : ByteArray) (n a : Int) (p : Option Addr) (c : Nat) (ks : List MT) (w : World) (hin : (MT.node k s n a p c ks).In w.heap.size w) (hk : ∀ x ∈ ks, (x.kind == 27) = false) :
    Calls Tryz.prog 52 #[.agg #[.int .i64 k, .string s, .int .i64 n, .int .i64 a, .slice p ks.length c]] w fun e w' => e = .returned (.int .i64 (-1)) ∧ Below w.heap.size w w' := by
  have hcap := hin.cap_le
  have hlc := hin.len_le
  have hL := hin.kidsL
  simp only [MT.cap_node, MT.kids_node, MT.ptr_node] at hcap hlc hL
  unfold maxLen at hcap
  have HK : Hid (∀ x ∈ ks, (x.kind == 27) = false) := hk
  clear hk hin
  have hb1 := below1 w (.cells #[.int .i64 k, .string s, .int .i64 n, .int .i64 a, .slice p ks.length c] 24)
  go_enter Tryz.func52, Tryz.ntmps52
  go_wp2_with fail
  go_loopg [3, 9] ks.length (fun gk d i wr => ∃ j : Nat, gk + j = ks.length ∧ d = .int .i64 0 ∧ i = .int .i64 j ∧ Below w.heap.size w wr ∧ w.heap.size + 1 ≤ wr.heap.size)
  case atStart => exact ⟨0, rfl, rfl, rfl, hb1, by simp⟩
  case round =>
    obtain ⟨j, hj, rfl, rfl, hb, hz⟩ := hrel
    by_cases hlt : j < ks.length
    · obtain ⟨b, o, rfl, hbB, hL0⟩ := hL.resolve_left (fun h => by rw [h] at hlt; simp at hlt)
      obtain ⟨⟨c0, c1, c2, c3, c4⟩, _⟩ := (MT.InL.below hb b o hbB ks hL0).get j hlt
      have hkk := HK.out ks[j] (List.getElem_mem hlt)
      generalize ks[j] = x at c0 c1 c2 c3 c4 hkk
      have hb' : b < wr.heap.size := by omega
      have HJ : Hid (gk + j = ks.length) := hj
      clear hj hL0 hL hb1
      go_wp2_with fail
      go_roundg (ks.length - (j + 1))
      case measure => have := HJ.out; omega
      case rel => exact ⟨j + 1, by omega, rfl, by go_num, hb.alloc (by omega) _, by simp; omega⟩
    · clear hL hb1 hj
      go_wp2_with fail
      go_ret
      exact ⟨rfl, hb⟩
end Go.Proofs.YthbnegggohegkaaGreatDoor
