/-
  What is wrong with one node, at the nodes of the chapter's examples: the walks of (*checker).fault and secondDefault.
  The walk of secondDefault at a node whose Kids are no cases.
-/
import Derived.Test.YthbnegggohegkaaGreatDoorTn
import Derived.Deep.LoopGhost
namespace Go.Proofs.YthbnegggohegkaaGreatDoor
open Go.RowKit

/-- A block's cells. -/
def CellsOf (w : World) (b : Nat) (cs : Array Value) : Prop := ∀ i v, cs[i]? = some v → w.cell? ⟨b, i, none⟩ = some v
theorem CellsOf.new (w : World) (cs : Array Value) (t : TypeId) : CellsOf (w.alloc (.cells cs t)) w.heap.size cs := fun i v h => by rw [World.cell?_alloc_new]; exact h
theorem CellsOf.below {w w' : World} {b B : Nat} {cs : Array Value} (h : CellsOf w b cs) (hB : b < B) (hb : Below B w w') : CellsOf w' b cs := fun i v hi => (hb.cell (p := ⟨b, i, none⟩) hB).trans (h i v hi)

set_option maxRecDepth 100000 in
set_option maxHeartbeats 2000000 in
theorem fault_name {gw ow gs os : Nat} (s : ByteArray) (hs : Abc s) (cb : Nat) (ahead deep a r : Int) (hr : r = 0 ∨ r = 18) (p : Option Addr) (c : Nat) (w : World) (ht : TabsAt gw ow gs os w)
    (hcb : cb < w.heap.size) (hc : w.cell? ⟨cb, 0, none⟩ = some (.int .i64 ahead)) (ha : ahead < 20000) (hd : deep ≤ 60) :
    Calls Tryz.prog 50 #[.pointer (some ⟨cb, 0, none⟩), .agg (leafN 14 s a p c), .int .i64 r, .int .i64 deep, .agg leafR] w fun e w' => e = .returned (.int .i64 0) ∧ Below w.heap.size w w' := by
  have hT : ∀ W, Calls Tryz.prog 66 #[.int .i64 r, .int .i64 14] W fun e w' => e = .returned (.bool true) ∧ w' = W := by
    rcases hr with rfl | rfl
    · exact takes_0_14
    · exact takes_18_14
  have HT : Hid _ := hT
  clear hT hr
  have hb2 := below2 w (.cells (leafN 14 s a p c) 24) (.cells leafR 94)
  have N0 := (CellsOf.new w (leafN 14 s a p c) 24).below (Nat.lt_succ_self _) ((Below.refl _ _).alloc (by simp) (.cells leafR 94))
  have S0 := CellsOf.new (w.alloc (.cells (leafN 14 s a p c) 24)) leafR 94
  rw [World.size_alloc] at S0
  go_enter Tryz.func50, Tryz.ntmps50
  go_wp2_with fail
  refine (HT.out _).mono ?_
  rintro e w0 ⟨rfl, rfl⟩
  go_wp2_with fail
  refine (text_name s hs a r p c _ (ht.below (Nat.le_refl _) hb2)).mono ?_
  rintro e w1 ⟨rfl, hb1⟩
  have hB1 := hb2.trans (hb1.mono (by simp; omega))
  have hz1 := hb1.size
  simp only [World.size_alloc] at hz1
  have N1 := N0.below (by simp; omega) hb1
  have S1 := S0.below (by simp) hb1
  have n0 := N1 0 _ rfl
  have n1 := N1 1 _ rfl
  have n2 := N1 2 _ rfl
  have n3 := N1 3 _ rfl
  have n4 := N1 4 _ rfl
  go_wp2_with fail
  refine (number_any 14 s a p 0 c _).mono ?_
  rintro e w2 ⟨rfl, hb3⟩
  have hB2 := hB1.trans (hb3.mono hB1.size)
  have m4 := (N1.below (by omega) hb3) 4 _ rfl
  have S2 := S1.below (by omega) hb3
  have s0 := S2 0 _ rfl
  have s1 := S2 1 _ rfl
  have s2 := S2 2 _ rfl
  have s3 := S2 3 _ rfl
  clear n0 n1 n2 n3 n4
  go_wp2_with fail
  refine (fits_leaf _).mono ?_
  rintro e w3 ⟨rfl, hb4⟩
  go_wp2_with fail
  go_ret
  exact ⟨rfl, hB2.trans (hb4.mono hB2.size)⟩
set_option maxRecDepth 100000 in
set_option maxHeartbeats 2000000 in
theorem fault_bin (s : ByteArray) (hs : Sgn s) (cb g : Nat) (ahead deep a r : Int) (hr : r = 0 ∨ r = 18) (p : Option Addr) (c : Nat) (w : World)
    (hcb : cb < w.heap.size) (hc : w.cell? ⟨cb, 0, none⟩ = some (.int .i64 ahead)) (ha : ahead < 20000) (hd : deep ≤ 60) :
    Calls Tryz.prog 50 #[.pointer (some ⟨cb, 0, none⟩), .agg (binN s a p c), .int .i64 r, .int .i64 deep, .agg (binR g)] w fun e w' => e = .returned (.int .i64 0) ∧ Below w.heap.size w w' := by
  have hT : ∀ W, Calls Tryz.prog 66 #[.int .i64 r, .int .i64 51] W fun e w' => e = .returned (.bool true) ∧ w' = W := by
    rcases hr with rfl | rfl
    · exact takes_0_51
    · exact takes_18_51
  have HT : Hid _ := hT
  clear hT hr
  have hb2 := below2 w (.cells (binN s a p c) 24) (.cells (binR g) 94)
  have N0 := (CellsOf.new w (binN s a p c) 24).below (Nat.lt_succ_self _) ((Below.refl _ _).alloc (by simp) (.cells (binR g) 94))
  have S0 := CellsOf.new (w.alloc (.cells (binN s a p c) 24)) (binR g) 94
  rw [World.size_alloc] at S0
  go_enter Tryz.func50, Tryz.ntmps50
  go_wp2_with fail
  refine (HT.out _).mono ?_
  rintro e w0 ⟨rfl, rfl⟩
  go_wp2_with fail
  refine (text_bin s hs a r p c _).mono ?_
  rintro e w1 ⟨rfl, hb1⟩
  have hB1 := hb2.trans (hb1.mono (by simp; omega))
  have hz1 := hb1.size
  simp only [World.size_alloc] at hz1
  have N1 := N0.below (by simp; omega) hb1
  have S1 := S0.below (by simp) hb1
  have n0 := N1 0 _ rfl
  have n1 := N1 1 _ rfl
  have n2 := N1 2 _ rfl
  have n3 := N1 3 _ rfl
  have n4 := N1 4 _ rfl
  go_wp2_with fail
  refine (number_any 51 s a p 2 c _).mono ?_
  rintro e w2 ⟨rfl, hb3⟩
  have hB2 := hB1.trans (hb3.mono hB1.size)
  have m4 := (N1.below (by omega) hb3) 4 _ rfl
  have S2 := S1.below (by omega) hb3
  have s0 := S2 0 _ rfl
  have s1 := S2 1 _ rfl
  have s2 := S2 2 _ rfl
  have s3 := S2 3 _ rfl
  clear n0 n1 n2 n3 n4
  go_wp2_with fail
  refine (fits_bin g _).mono ?_
  rintro e w3 ⟨rfl, hb4⟩
  go_wp2_with fail
  go_ret
  exact ⟨rfl, hB2.trans (hb4.mono hB2.size)⟩

set_option maxRecDepth 100000 in
set_option maxHeartbeats 2000000 in
theorem fault_int {gw ow gs os : Nat} (cb : Nat) (ahead deep a : Int) (p : Option Addr) (c : Nat) (w : World) (ht : TabsAt gw ow gs os w)
    (hcb : cb < w.heap.size) (hc : w.cell? ⟨cb, 0, none⟩ = some (.int .i64 ahead)) (ha : ahead < 20000) (hd : deep ≤ 60) :
    Calls Tryz.prog 50 #[.pointer (some ⟨cb, 0, none⟩), .agg (leafN 35 ⟨#[48, 49]⟩ a p c), .int .i64 0, .int .i64 deep, .agg leafR] w fun e w' => e = .returned (.int .i64 20) ∧ Below w.heap.size w w' := by
  have hb2 := below2 w (.cells (leafN 35 ⟨#[48, 49]⟩ a p c) 24) (.cells leafR 94)
  go_enter Tryz.func50, Tryz.ntmps50
  go_wp2_with fail
  refine (takes_0_35 _).mono ?_
  rintro e w0 ⟨rfl, rfl⟩
  go_wp2_with fail
  refine (text_int a 0 p c _ (ht.below (Nat.le_refl _) hb2)).mono ?_
  rintro e w1 ⟨rfl, hb1⟩
  go_wp2_with fail
  go_ret
  exact ⟨rfl, hb2.trans (hb1.mono (by simp; omega))⟩

set_option maxHeartbeats 1000000 in
theorem second_leaf (k : Int) (s : ByteArray) (a : Int) (p : Option Addr) (c : Nat) (w : World) :
    Calls Tryz.prog 52 #[.agg (leafN k s a p c)] w fun e w' => e = .returned (.int .i64 (-1)) ∧ Below w.heap.size w w' := by
  go_enter Tryz.func52, Tryz.ntmps52
  go_wp2_with fail
  go_loopg [9] 0 (fun gk i wr => i = .int .i64 0 ∧ Below w.heap.size w wr)
  case atStart => exact ⟨rfl, below1 _ _⟩
  case round =>
    obtain ⟨rfl, hb⟩ := hrel
    go_wp2_with fail
    go_ret
    exact ⟨rfl, hb⟩
end Go.Proofs.YthbnegggohegkaaGreatDoor
namespace Go.Proofs.YthbnegggohegkaaGreatDoor
open Go.RowKit

set_option maxRecDepth 100000 in
set_option maxHeartbeats 2000000 in
theorem second_any (k : Int) (s : ByteArray) (n a : Int) (p : Option Addr) (c : Nat) (ks : List MT) (w : World) (hin : (MT.node k s n a p c ks).In w.heap.size w) (hk : ∀ x ∈ ks, (x.kind == 27) = false) :
    Calls Tryz.prog 52 #[.agg #[.int .i64 k, .string s, .int .i64 n, .int .i64 a, .slice p ks.length c]] w fun e w' => e = .returned (.int .i64 (-1)) ∧ Below w.heap.size w w' := by
  have hcap := hin.cap_le
  have hlc := hin.len_le
  have hL := hin.kidsL
  simp only [MT.cap_node, MT.kids_node, MT.ptr_node] at hcap hlc hL
  unfold maxLen at hcap
  have HK : Hid (∀ x ∈ ks, (x.kind == 27) = false) := hk
  clear hk hin
  have hb1 := below1 w (.cells #[.int .i64 k, .string s, .int .i64 n, .int .i64 a, .slice p ks.length c] 24)
  go_enter Tryz.func52, Tryz.ntmps52
  go_wp2_with fail
  go_loopg [3, 9] ks.length (fun gk d i wr => ∃ j : Nat, gk + j = ks.length ∧ d = .int .i64 0 ∧ i = .int .i64 j ∧ Below w.heap.size w wr ∧ w.heap.size + 1 ≤ wr.heap.size)
  case atStart => exact ⟨0, rfl, rfl, rfl, hb1, by simp⟩
  case round =>
    obtain ⟨j, hj, rfl, rfl, hb, hz⟩ := hrel
    by_cases hlt : j < ks.length
    · obtain ⟨b, o, rfl, hbB, hL0⟩ := hL.resolve_left (fun h => by rw [h] at hlt; simp at hlt)
      obtain ⟨⟨c0, c1, c2, c3, c4⟩, _⟩ := (MT.InL.below hb b o hbB ks hL0).get j hlt
      have hkk := HK.out ks[j] (List.getElem_mem hlt)
      generalize ks[j] = x at c0 c1 c2 c3 c4 hkk
      have hb' : b < wr.heap.size := by omega
      have HJ : Hid (gk + j = ks.length) := hj
      clear hj hL0 hL hb1
      go_wp2_with fail
      go_roundg (ks.length - (j + 1))
      case measure => have := HJ.out; omega
      case rel => exact ⟨j + 1, by omega, rfl, by go_num, hb.alloc (by omega) _, by simp; omega⟩
    · clear hL hb1 hj
      go_wp2_with fail
      go_ret
      exact ⟨rfl, hb⟩
end Go.Proofs.YthbnegggohegkaaGreatDoor
