/-
  Two data that are alike, with paths of one content.
-/
import Derived.Test.YtoplmbboaobahaaDoorLn
import Derived.Test.YtoplmbboaobahaaDoorPt
namespace Go.Proofs.YtoplmbboaobahaaDoor
open Go.RowKit
attribute [local go_sem] refold2 cell3_0 cell3_1 cell4_0 cell4_1 cell4_2 frozen4_1 frozen4_2 b28_0 b28_01 b28_012 b28_013 b28_014 b35_01 b35_0 b35 mkI69

set_option maxRecDepth 100000 in
set_option maxHeartbeats 4000000 in
/-- Two data that are alike, with paths of one content. -/
theorem same_rows {B1 B2 : Nat} (k : Int) (t : ByteArray) (n f : Int) (s : ByteArray) (r0 r1 r2 r3 : Int) (v1 v2 : Value) (m : Nat) (zs : List Int) (w : World) (hl : zs.length = m) (hm : m ≤ 1048576)
    (h1 : w.ownsRow B1 3 1 v1 m (nums zs)) (h2 : w.ownsRow B2 3 1 v2 m (nums zs)) :
    Calls Tryd.prog 12 #[D k t n f s r0 r1 r2 r3 v1 (.slice none 0 0), D k t n f s r0 r1 r2 r3 v2 (.slice none 0 0)] w fun r w' => r = .returned (.bool true) ∧ Below w.heap.size w w' := by
  obtain ⟨p1, c1, rfl⟩ := row_form h1
  obtain ⟨p2, c2, rfl⟩ := row_form h2
  have hcell : Hid (∀ j, j < m → ∃ (g1 g2 : Nat) (z : Int), p1 = some ⟨g1, 0, none⟩ ∧ p2 = some ⟨g2, 0, none⟩ ∧ w.cell? ⟨g1, j, none⟩ = some (.int .i64 z) ∧ w.cell? ⟨g2, j, none⟩ = some (.int .i64 z) ∧ g1 < w.heap.size ∧ g2 < w.heap.size) := fun j hj => by
    obtain ⟨g1, rfl, _, q1, _⟩ := row_some h1 (by omega)
    obtain ⟨g2, rfl, _, q2, _⟩ := row_some h2 (by omega)
    have hz : (nums zs)[j]? = some (.int .i64 (zs[j]'(by omega))) := by unfold nums; rw [List.getElem?_map, List.getElem?_eq_getElem (by omega)]; rfl
    exact ⟨g1, g2, _, rfl, rfl, (h1.cellAt j (by omega)).trans hz, (h2.cellAt j (by omega)).trans hz, q1, q2⟩
  clear h1 h2
  simp only [D]
  go_enter Tryd.func12, Tryd.ntmps12
  go_wp2_with fail
  obtain ⟨W3, hW3⟩ : ∃ W3 : World, W3 = (((w.alloc (.cells #[.int .i64 k, .string t, .int .i64 n, .int .u64 f, .string s, .int .i64 r0, .int .i64 r1, .int .i64 r2, .int .i64 r3, .slice p1 m c1, .slice none 0 0] 28)).alloc (.cells #[.int .i64 k, .string t, .int .i64 n, .int .u64 f, .string s, .int .i64 r0, .int .i64 r1, .int .i64 r2, .int .i64 r3, .slice p2 m c2, .slice none 0 0] 28)).alloc (.cells #[.int .i64 r0, .int .i64 r1, .int .i64 r2, .int .i64 r3, .slice p1 m c1] 25)).alloc (.cells #[.int .i64 r0, .int .i64 r1, .int .i64 r2, .int .i64 r3, .slice p2 m c2] 25) := ⟨_, rfl⟩
  rw [← hW3]
  have hB3 : Below w.heap.size w W3 := by rw [hW3]; exact below4 _ _ _ _ _
  have hx : ∀ j, W3.cell? ⟨w.heap.size + 1 + 1, j, none⟩ = (#[.int .i64 r0, .int .i64 r1, .int .i64 r2, .int .i64 r3, .slice p1 m c1] : Array Value)[j]? := fun j => by rw [hW3]; exact cell4_2 _ _ _ _ _ _ _
  have hy : ∀ j, W3.cell? ⟨w.heap.size + 1 + 1 + 1, j, none⟩ = (#[.int .i64 r0, .int .i64 r1, .int .i64 r2, .int .i64 r3, .slice p2 m c2] : Array Value)[j]? := fun j => by
    rw [hW3, show w.heap.size + 1 + 1 + 1 = (((w.alloc (.cells #[.int .i64 k, .string t, .int .i64 n, .int .u64 f, .string s, .int .i64 r0, .int .i64 r1, .int .i64 r2, .int .i64 r3, .slice p1 m c1, .slice none 0 0] 28)).alloc (.cells #[.int .i64 k, .string t, .int .i64 n, .int .u64 f, .string s, .int .i64 r0, .int .i64 r1, .int .i64 r2, .int .i64 r3, .slice p2 m c2, .slice none 0 0] 28)).alloc (.cells #[.int .i64 r0, .int .i64 r1, .int .i64 r2, .int .i64 r3, .slice p1 m c1] 25)).heap.size by simp, World.cell?_alloc_new]
  clear hW3
  go_loopw [7] (fun i wi => ∃ j : Nat, j ≤ m ∧ i = .int .i64 j ∧ ∃ nd, wi = W3.drewN nd) (fun i _ => m - (intOf i).toNat)
  case atStart => exact ⟨0, by omega, rfl, 0, rfl⟩
  case round =>
    obtain ⟨j, hj, rfl, nd, rfl⟩ := hrel
    by_cases hlt : j < m
    · obtain ⟨g1, g2, z, rfl, rfl, d1, d2, q1, q2⟩ := hcell.out j hlt
      have e1 := (hB3.cell (p := ⟨g1, j, none⟩) q1).trans d1
      have e2 := (hB3.cell (p := ⟨g2, j, none⟩) q2).trans d2
      have i1 : (j : Int) < m := by omega
      clear d1 d2
      go_wp2_with fail
      go_quiet (fail)
      go_wp2
      refine ⟨⟨j + 1, by omega, by go_num, ⟨_, by first | rfl | simp⟩⟩, by simp [intOf]; omega⟩
    · obtain rfl : j = m := by omega
      go_wp2_with fail
      go_ret
      exact ⟨rfl, hB3.trans ⟨rfl, rfl, rfl, Nat.le_refl _, fun _ _ => rfl⟩⟩
end Go.Proofs.YtoplmbboaobahaaDoor
