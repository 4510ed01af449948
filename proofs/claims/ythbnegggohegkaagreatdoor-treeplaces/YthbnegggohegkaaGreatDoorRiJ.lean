/-
  What is wrong with one node, at the nodes of the chapter's examples: the walks of (*checker).fault and secondDefault.
  The walk of secondDefault at a node whose Kids are no cases.
  The walk of (*checker).check at names, sums and products.
  The walk of tree.Right at names, sums and products, and at the int 01.
-/
import Derived.Test.YthbnegggohegkaaGreatDoorTn
import Derived.Deep.LoopGhost
import Derived.Deep.RegionHeld3
namespace Go.Proofs.YthbnegggohegkaaGreatDoor
open Go.RowKit

/-- A block's cells. -/
def CellsOf (w : World) (b : Nat) (cs : Array Value) : Prop := ∀ i v, cs[i]? = some v → w.cell? ⟨b, i, none⟩ = some v
theorem CellsOf.new (w : World) (cs : Array Value) (t : TypeId) : CellsOf (w.alloc (.cells cs t)) w.heap.size cs := fun i v h => by rw [World.cell?_alloc_new]; exact h
theorem CellsOf.below {w w' : World} {b B : Nat} {cs : Array Value} (h : CellsOf w b cs) (hB : b < B) (hb : Below B w w') : CellsOf w' b cs := fun i v hi => (hb.cell (p := ⟨b, i, none⟩) hB).trans (h i v hi)

set_option maxRecDepth 100000 in
set_option maxHeartbeats 2000000 in
theorem fault_name {gw ow gs os : Nat} (s : ByteArray) (hs : Abc s) (cb : Nat) (ahead deep a r : Int) (hr : r = 0 ∨ r = 18) (p : Option Addr) (c : Nat) (w : World) (ht : TabsAt gw ow gs os w)
    (hcb : cb < w.heap.size) (hc : w.cell? ⟨cb, 0, none⟩ = some (.int .i64 ahead)) (ha : ahead < 20000) (hd : deep ≤ 60) :
    Calls Tryz.prog 50 #[.pointer (some ⟨cb, 0, none⟩), .agg (leafN 14 s a p c), .int .i64 r, .int .i64 deep, .agg leafR] w fun e w' => e = .returned (.int .i64 0) ∧ Below w.heap.size w w' := by
  have hT : ∀ W, Calls Tryz.prog 66 #[.int .i64 r, .int .i64 14] W fun e w' => e = .returned (.bool true) ∧ w' = W := by
    rcases hr with rfl | rfl
    · exact takes_0_14
    · exact takes_18_14
  have HT : Hid _ := hT
  clear hT hr
  have hb2 := below2 w (.cells (leafN 14 s a p c) 24) (.cells leafR 94)
  have N0 := (CellsOf.new w (leafN 14 s a p c) 24).below (Nat.lt_succ_self _) ((Below.refl _ _).alloc (by simp) (.cells leafR 94))
  have S0 := CellsOf.new (w.alloc (.cells (leafN 14 s a p c) 24)) leafR 94
  rw [World.size_alloc] at S0
  go_enter Tryz.func50, Tryz.ntmps50
  go_wp2_with fail
  refine (HT.out _).mono ?_
  rintro e w0 ⟨rfl, rfl⟩
  go_wp2_with fail
  refine (text_name s hs a r p c _ (ht.below (Nat.le_refl _) hb2)).mono ?_
  rintro e w1 ⟨rfl, hb1⟩
  have hB1 := hb2.trans (hb1.mono (by simp; omega))
  have hz1 := hb1.size
  simp only [World.size_alloc] at hz1
  have N1 := N0.below (by simp; omega) hb1
  have S1 := S0.below (by simp) hb1
  have n0 := N1 0 _ rfl
  have n1 := N1 1 _ rfl
  have n2 := N1 2 _ rfl
  have n3 := N1 3 _ rfl
  have n4 := N1 4 _ rfl
  go_wp2_with fail
  refine (number_any 14 s a p 0 c _).mono ?_
  rintro e w2 ⟨rfl, hb3⟩
  have hB2 := hB1.trans (hb3.mono hB1.size)
  have m4 := (N1.below (by omega) hb3) 4 _ rfl
  have S2 := S1.below (by omega) hb3
  have s0 := S2 0 _ rfl
  have s1 := S2 1 _ rfl
  have s2 := S2 2 _ rfl
  have s3 := S2 3 _ rfl
  clear n0 n1 n2 n3 n4
  go_wp2_with fail
  refine (fits_leaf _).mono ?_
  rintro e w3 ⟨rfl, hb4⟩
  go_wp2_with fail
  go_ret
  exact ⟨rfl, hB2.trans (hb4.mono hB2.size)⟩
set_option maxRecDepth 100000 in
set_option maxHeartbeats 2000000 in
theorem fault_bin (s : ByteArray) (hs : Sgn s) (cb g : Nat) (ahead deep a r : Int) (hr : r = 0 ∨ r = 18) (p : Option Addr) (c : Nat) (w : World)
    (hcb : cb < w.heap.size) (hc : w.cell? ⟨cb, 0, none⟩ = some (.int .i64 ahead)) (ha : ahead < 20000) (hd : deep ≤ 60) :
    Calls Tryz.prog 50 #[.pointer (some ⟨cb, 0, none⟩), .agg (binN s a p c), .int .i64 r, .int .i64 deep, .agg (binR g)] w fun e w' => e = .returned (.int .i64 0) ∧ Below w.heap.size w w' := by
  have hT : ∀ W, Calls Tryz.prog 66 #[.int .i64 r, .int .i64 51] W fun e w' => e = .returned (.bool true) ∧ w' = W := by
    rcases hr with rfl | rfl
    · exact takes_0_51
    · exact takes_18_51
  have HT : Hid _ := hT
  clear hT hr
  have hb2 := below2 w (.cells (binN s a p c) 24) (.cells (binR g) 94)
  have N0 := (CellsOf.new w (binN s a p c) 24).below (Nat.lt_succ_self _) ((Below.refl _ _).alloc (by simp) (.cells (binR g) 94))
  have S0 := CellsOf.new (w.alloc (.cells (binN s a p c) 24)) (binR g) 94
  rw [World.size_alloc] at S0
  go_enter Tryz.func50, Tryz.ntmps50
  go_wp2_with fail
  refine (HT.out _).mono ?_
  rintro e w0 ⟨rfl, rfl⟩
  go_wp2_with fail
  refine (text_bin s hs a r p c _).mono ?_
  rintro e w1 ⟨rfl, hb1⟩
  have hB1 := hb2.trans (hb1.mono (by simp; omega))
  have hz1 := hb1.size
  simp only [World.size_alloc] at hz1
  have N1 := N0.below (by simp; omega) hb1
  have S1 := S0.below (by simp) hb1
  have n0 := N1 0 _ rfl
  have n1 := N1 1 _ rfl
  have n2 := N1 2 _ rfl
  have n3 := N1 3 _ rfl
  have n4 := N1 4 _ rfl
  go_wp2_with fail
  refine (number_any 51 s a p 2 c _).mono ?_
  rintro e w2 ⟨rfl, hb3⟩
  have hB2 := hB1.trans (hb3.mono hB1.size)
  have m4 := (N1.below (by omega) hb3) 4 _ rfl
  have S2 := S1.below (by omega) hb3
  have s0 := S2 0 _ rfl
  have s1 := S2 1 _ rfl
  have s2 := S2 2 _ rfl
  have s3 := S2 3 _ rfl
  clear n0 n1 n2 n3 n4
  go_wp2_with fail
  refine (fits_bin g _).mono ?_
  rintro e w3 ⟨rfl, hb4⟩
  go_wp2_with fail
  go_ret
  exact ⟨rfl, hB2.trans (hb4.mono hB2.size)⟩

set_option maxRecDepth 100000 in
set_option maxHeartbeats 2000000 in
theorem fault_int {gw ow gs os : Nat} (cb : Nat) (ahead deep a : Int) (p : Option Addr) (c : Nat) (w : World) (ht : TabsAt gw ow gs os w)
    (hcb : cb < w.heap.size) (hc : w.cell? ⟨cb, 0, none⟩ = some (.int .i64 ahead)) (ha : ahead < 20000) (hd : deep ≤ 60) :
    Calls Tryz.prog 50 #[.pointer (some ⟨cb, 0, none⟩), .agg (leafN 35 ⟨#[48, 49]⟩ a p c), .int .i64 0, .int .i64 deep, .agg leafR] w fun e w' => e = .returned (.int .i64 20) ∧ Below w.heap.size w w' := by
  have hb2 := below2 w (.cells (leafN 35 ⟨#[48, 49]⟩ a p c) 24) (.cells leafR 94)
  go_enter Tryz.func50, Tryz.ntmps50
  go_wp2_with fail
  refine (takes_0_35 _).mono ?_
  rintro e w0 ⟨rfl, rfl⟩
  go_wp2_with fail
  refine (text_int a 0 p c _ (ht.below (Nat.le_refl _) hb2)).mono ?_
  rintro e w1 ⟨rfl, hb1⟩
  go_wp2_with fail
  go_ret
  exact ⟨rfl, hb2.trans (hb1.mono (by simp; omega))⟩

set_option maxHeartbeats 1000000 in
theorem second_leaf (k : Int) (s : ByteArray) (a : Int) (p : Option Addr) (c : Nat) (w : World) :
    Calls Tryz.prog 52 #[.agg (leafN k s a p c)] w fun e w' => e = .returned (.int .i64 (-1)) ∧ Below w.heap.size w w' := by
  go_enter Tryz.func52, Tryz.ntmps52
  go_wp2_with fail
  go_loopg [9] 0 (fun gk i wr => i = .int .i64 0 ∧ Below w.heap.size w wr)
  case atStart => exact ⟨rfl, below1 _ _⟩
  case round =>
    obtain ⟨rfl, hb⟩ := hrel
    go_wp2_with fail
    go_ret
    exact ⟨rfl, hb⟩
end Go.Proofs.YthbnegggohegkaaGreatDoor
namespace Go.Proofs.YthbnegggohegkaaGreatDoor
open Go.RowKit

set_option maxRecDepth 100000 in
set_option maxHeartbeats 2000000 in
theorem second_any (k : Int) (s : ByteArray) (n a : Int) (p : Option Addr) (c : Nat) (ks : List MT) (w : World) (hin : (MT.node k s n a p c ks).In w.heap.size w) (hk : ∀ x ∈ ks, (x.kind == 27) = false) :
    Calls Tryz.prog 52 #[.agg #[.int .i64 k, .string s, .int .i64 n, .int .i64 a, .slice p ks.length c]] w fun e w' => e = .returned (.int .i64 (-1)) ∧ Below w.heap.size w w' := by
  have hcap := hin.cap_le
  have hlc := hin.len_le
  have hL := hin.kidsL
  simp only [MT.cap_node, MT.kids_node, MT.ptr_node] at hcap hlc hL
  unfold maxLen at hcap
  have HK : Hid (∀ x ∈ ks, (x.kind == 27) = false) := hk
  clear hk hin
  have hb1 := below1 w (.cells #[.int .i64 k, .string s, .int .i64 n, .int .i64 a, .slice p ks.length c] 24)
  go_enter Tryz.func52, Tryz.ntmps52
  go_wp2_with fail
  go_loopg [3, 9] ks.length (fun gk d i wr => ∃ j : Nat, gk + j = ks.length ∧ d = .int .i64 0 ∧ i = .int .i64 j ∧ Below w.heap.size w wr ∧ w.heap.size + 1 ≤ wr.heap.size)
  case atStart => exact ⟨0, rfl, rfl, rfl, hb1, by simp⟩
  case round =>
    obtain ⟨j, hj, rfl, rfl, hb, hz⟩ := hrel
    by_cases hlt : j < ks.length
    · obtain ⟨b, o, rfl, hbB, hL0⟩ := hL.resolve_left (fun h => by rw [h] at hlt; simp at hlt)
      obtain ⟨⟨c0, c1, c2, c3, c4⟩, _⟩ := (MT.InL.below hb b o hbB ks hL0).get j hlt
      have hkk := HK.out ks[j] (List.getElem_mem hlt)
      generalize ks[j] = x at c0 c1 c2 c3 c4 hkk
      have hb' : b < wr.heap.size := by omega
      have HJ : Hid (gk + j = ks.length) := hj
      clear hj hL0 hL hb1
      go_wp2_with fail
      go_roundg (ks.length - (j + 1))
      case measure => have := HJ.out; omega
      case rel => exact ⟨j + 1, by omega, rfl, by go_num, hb.alloc (by omega) _, by simp; omega⟩
    · clear hL hb1 hj
      go_wp2_with fail
      go_ret
      exact ⟨rfl, hb⟩
end Go.Proofs.YthbnegggohegkaaGreatDoor
namespace Go.Proofs.YthbnegggohegkaaGreatDoor
open Go.RowKit

/-- Names, sums and products. -/
inductive Sim : MT → Prop
  | name (s : ByteArray) (a : Int) (p : Option Addr) (c : Nat) (hs : Abc s) : Sim (.node 14 s 0 a p c [])
  | bin (s : ByteArray) (a : Int) (p : Option Addr) (c : Nat) (x y : MT) (hs : Sgn s) (hx : Sim x) (hy : Sim y) : Sim (.node 51 s 0 a p c [x, y])

/-- Nothing has turned but the block cb, and new ones. -/
structure Chk (cb : Nat) (w w' : World) : Prop where
  below : Below cb w w'
  rest : ∀ k, cb < k → k < w.heap.size → w'.heap[k]? = w.heap[k]?
  size : w.heap.size ≤ w'.heap.size

theorem Chk.of {cb : Nat} {w w' : World} (hb : Below w.heap.size w w') (hcb : cb ≤ w.heap.size) : Chk cb w w' := ⟨hb.mono hcb, fun k _ hk => hb.block k hk, hb.size⟩
theorem Chk.trans {cb : Nat} {A B C : World} (h : Chk cb A B) (k : Chk cb B C) : Chk cb A C := ⟨h.below.trans k.below, fun i hi hz => (k.rest i hi (Nat.lt_of_lt_of_le hz h.size)).trans (h.rest i hi hz), Nat.le_trans h.size k.size⟩
theorem Chk.set (cb : Nat) (w : World) (v : Value) : Chk cb w (w.setCell ⟨cb, 0, none⟩ v) :=
  ⟨(Below.refl cb w).setCell (p := ⟨cb, 0, none⟩) (Nat.le_refl _) _, fun k hk _ => Below.heap_setCell w ⟨cb, 0, none⟩ v k (by show k ≠ cb; omega), by simp⟩
theorem Chk.cell {cb : Nat} {w w' : World} (h : Chk cb w w') {b o : Nat} (hb : b ≠ cb) (hz : b < w.heap.size) : w'.cell? ⟨b, o, none⟩ = w.cell? ⟨b, o, none⟩ := by
  rcases Nat.lt_or_gt_of_ne hb with h1 | h1
  · exact h.below.cell (p := ⟨b, o, none⟩) h1
  · exact World.cell?_of_block (a := ⟨b, o, none⟩) (h.rest b h1 hz)
theorem Chk.cells {cb : Nat} {w w' : World} {b : Nat} {cs : Array Value} (h : Chk cb w w') (hc : CellsOf w b cs) (hb : b ≠ cb) (hz : b < w.heap.size) : CellsOf w' b cs :=
  fun i v hi => (h.cell hb hz).trans (hc i v hi)

theorem TabsAt.under {gw ow gs os cb : Nat} {w w' : World} (h : TabsAt gw ow gs os w) (h6 : 6 ≤ cb) (hw : gw < cb) (hs : gs < cb) (hb : Below cb w w') : TabsAt gw ow gs os w' :=
  ⟨(hb.cell (p := ⟨1, 0, none⟩) (by show 1 < cb; omega)).trans h.words, (hb.cell (p := ⟨3, 0, none⟩) (by show 3 < cb; omega)).trans h.signs,
   fun k hk => ⟨(hb.cell (p := ⟨gw, ow + k * 2, none⟩) hw).trans (h.word k hk).1, (hb.cell (p := ⟨gw, ow + k * 2 + 1, none⟩) hw).trans (h.word k hk).2⟩,
   fun k hk => (hb.cell (p := ⟨gs, os + k, none⟩) hs).trans (h.sign k hk), by have := h.two; have := hb.size; omega, by have := h.gwLt; have := hb.size; omega, by have := h.gsLt; have := hb.size; omega⟩

set_option maxRecDepth 100000 in
set_option maxHeartbeats 2000000 in
theorem check_name {gw ow gs os : Nat} (s : ByteArray) (hs : Abc s) (cb : Nat) (ahead deep a r : Int) (hr : r = 0 ∨ r = 18) (p : Option Addr) (c : Nat) (w : World) (ht : TabsAt gw ow gs os w)
    (hcb : cb < w.heap.size) (hc : w.cell? ⟨cb, 0, none⟩ = some (.int .i64 ahead)) (hf : w.frozen? ⟨cb, 0, none⟩ = false) (ha0 : 0 ≤ ahead) (ha : ahead < 20000) (hd : deep ≤ 60) :
    Calls Tryz.prog 31 #[.pointer (some ⟨cb, 0, none⟩), .agg (leafN 14 s a p c), .int .i64 r, .int .i64 deep] w fun e w' => e = .returned .nilIface ∧ w'.cell? ⟨cb, 0, none⟩ = some (.int .i64 (ahead + 1)) ∧ w'.frozen? ⟨cb, 0, none⟩ = false ∧ Chk cb w w' := by
  have N0 := CellsOf.new w (leafN 14 s a p c) 24
  have hb0 := below1 w (.cells (leafN 14 s a p c) 24)
  go_enter Tryz.func31, Tryz.ntmps31
  go_wp2_with fail
  refine (shape_leaf 14 (.inl rfl) s a r p c _).mono ?_
  rintro e w1 ⟨rfl, hb1⟩
  have hz1 := hb1.size
  simp only [World.size_alloc] at hz1
  have hB1 := hb0.trans (hb1.mono (by simp))
  have N1 := N0.below (by simp) hb1
  have N2 := N1.below (by omega : w.heap.size < w1.heap.size) (below1 w1 (.cells leafR 94))
  have hB2 := hB1.trans ((below1 w1 (.cells leafR 94)).mono (by omega))
  have S2 := CellsOf.new w1 leafR 94
  have n0 := N2 0 _ rfl
  have n1 := N2 1 _ rfl
  have n2 := N2 2 _ rfl
  have n3 := N2 3 _ rfl
  have n4 := N2 4 _ rfl
  go_wp2_with fail
  refine (fault_name s hs cb ahead deep a r hr p c _ (ht.below (Nat.le_refl _) hB2) (by simp; omega) ((hB2.cell (p := ⟨cb, 0, none⟩) hcb).trans hc) ha hd).mono ?_
  rintro e w2 ⟨rfl, hb3⟩
  have hz3 := hb3.size
  simp only [World.size_alloc] at hz3
  have hB3 := hB2.trans (hb3.mono (by simp; omega))
  have hc3 := (hB3.cell (p := ⟨cb, 0, none⟩) hcb).trans hc
  have hf3 := (hB3.frozen (p := ⟨cb, 0, none⟩) hcb).trans hf
  have N3 := N2.below (by simp; omega) hb3
  have hK3 := Chk.of hB3 (Nat.le_of_lt hcb)
  have hK4 := Chk.set cb w2 (.int .i64 (ahead + 1))
  have N4 := hK4.cells N3 (by omega) (by omega)
  have hz4 := hK4.size
  have hc4 : (w2.setCell ⟨cb, 0, none⟩ (.int .i64 (ahead + 1))).cell? ⟨cb, 0, none⟩ = some (.int .i64 (ahead + 1)) := World.cell?_setCell_same' _ _ _ (by rw [hc3]; rfl)
  have hf4 : (w2.setCell ⟨cb, 0, none⟩ (.int .i64 (ahead + 1))).frozen? ⟨cb, 0, none⟩ = false := by rw [World.frozen?_setCell]; exact hf3
  have HK4 : Hid (Chk cb w (w2.setCell ⟨cb, 0, none⟩ (.int .i64 (ahead + 1)))) := hK3.trans hK4
  have hcb4 : cb < (w2.setCell ⟨cb, 0, none⟩ (.int .i64 (ahead + 1))).heap.size := by simp; omega
  have q0 := N4 0 _ rfl
  have q1 := N4 1 _ rfl
  have q2 := N4 2 _ rfl
  have q3 := N4 3 _ rfl
  have q4 := N4 4 _ rfl
  clear n0 n1 n2 n3 n4 hK3 hK4
  go_wp2_with fail
  refine (second_leaf 14 s a p c _).mono ?_
  rintro e w5 ⟨rfl, hb5⟩
  have HC5 : Hid (w5.cell? ⟨cb, 0, none⟩ = some (.int .i64 (ahead + 1)) ∧ w5.frozen? ⟨cb, 0, none⟩ = false ∧ Chk cb w w5) :=
    ⟨(hb5.cell (p := ⟨cb, 0, none⟩) hcb4).trans hc4, (hb5.frozen (p := ⟨cb, 0, none⟩) hcb4).trans hf4, HK4.out.trans (Chk.of hb5 (by omega))⟩
  have r4 := (N4.below (by simp; omega) hb5) 4 _ rfl
  clear q0 q1 q2 q3 q4 hc4 hf4 hc3 hf3
  go_wp2_with fail
  go_loopg [42] 0 (fun gk i wr => i = .int .i64 0 ∧ wr = w5)
  case atStart => exact ⟨rfl, rfl⟩
  case round =>
    obtain ⟨rfl, rfl⟩ := hrel
    go_wp2_with fail
    go_ret
    exact ⟨rfl, HC5.out⟩

/-- What holds between two rounds of check over a sum's or product's Kids. -/
structure CkRel (cb : Nat) (w : World) (g sb : Nat) (s : ByteArray) (a : Int) (b o c : Nat) (x y : MT) (ahead : Int) (j : Nat) (wr : World) : Prop where
  cell : wr.cell? ⟨cb, 0, none⟩ = some (.int .i64 (ahead + 1 + MT.sizeL ([x, y].take j)))
  frozen : wr.frozen? ⟨cb, 0, none⟩ = false
  chk : Chk cb w wr
  node : CellsOf wr w.heap.size (binN s a (some ⟨b, o, none⟩) c)
  shape : CellsOf wr sb (binR g)
  role : CellsOf wr g #[.int .i64 18, .int .i64 18]
  big : w.heap.size < wr.heap.size ∧ sb < wr.heap.size ∧ g < wr.heap.size ∧ cb < w.heap.size ∧ w.heap.size < sb ∧ w.heap.size < g

theorem Sim.kind {t : MT} (h : Sim t) : (t.kind == 27) = false := by cases h <;> rfl

set_option maxRecDepth 100000 in
set_option maxHeartbeats 4000000 in
theorem check_sim {gw ow gs os : Nat} (N cb : Nat) (h6 : 6 ≤ cb) (hgw : gw < cb) (hgs : gs < cb) : ∀ (t : MT) (ahead deep r : Int) (w : World), t.size ≤ N → Sim t → r = 0 ∨ r = 18 → TabsAt gw ow gs os w → t.In cb w →
    cb < w.heap.size → w.cell? ⟨cb, 0, none⟩ = some (.int .i64 ahead) → w.frozen? ⟨cb, 0, none⟩ = false → 0 ≤ ahead → ahead + t.size ≤ 20000 → 0 ≤ deep → deep + t.size ≤ 61 →
    Calls Tryz.prog 31 #[.pointer (some ⟨cb, 0, none⟩), nodeV t, .int .i64 r, .int .i64 deep] w fun e w' => e = .returned .nilIface ∧ w'.cell? ⟨cb, 0, none⟩ = some (.int .i64 (ahead + t.size)) ∧ w'.frozen? ⟨cb, 0, none⟩ = false ∧ Chk cb w w' := by
  induction N with
  | zero => intro t _ _ _ _ h; have := t.size_pos; omega
  | succ N ih =>
    intro t ahead deep r w hN hS hr ht hin hcb hc hf ha0 ha hd0 hd
    cases hS with
    | name s a p c hs =>
      have e1 : (MT.node 14 s 0 a p c []).size = 1 := by rw [MT.size, MT.sizeL]
      rw [e1] at ha hd ⊢
      exact check_name s hs cb ahead deep a r hr p c w ht hcb hc hf ha0 (by omega) (by omega)
    | bin s a p c x y hs hx hy =>
      have e1 : (MT.node 51 s 0 a p c [x, y]).size = 1 + (x.size + y.size) := by rw [MT.size, MT.sizeL, MT.sizeL, MT.sizeL]; omega
      have HI : Hid _ := ih
      clear ih
      have hxp := x.size_pos
      have hyp := y.size_pos
      rw [e1] at hN ha hd
      have HE : Hid ((MT.node 51 s 0 a p c [x, y]).size = 1 + (x.size + y.size)) := e1
      clear e1
      have hkids := hin.kidsL
      simp only [MT.kids_node, MT.ptr_node] at hkids
      obtain ⟨b, o, rfl, hbB, hL⟩ := hkids.resolve_left (by simp)
      clear hkids
      have N0 := CellsOf.new w (binN s a (some ⟨b, o, none⟩) c) 24
      have hb0 := below1 w (.cells (binN s a (some ⟨b, o, none⟩) c) 24)
      simp only [nodeV, MT.kind_node, MT.text_node, MT.num_node, MT.at_node, MT.ptr_node, MT.cap_node, MT.kids_node, List.length_cons, List.length_nil, Nat.zero_add, Nat.reduceAdd]
      go_enter Tryz.func31, Tryz.ntmps31
      go_wp2_with fail
      refine (shape_bin s a r _ c _).mono ?_
      rintro e w1 ⟨g, rfl, hg1, hg2, hs0, hs1, hb1⟩
      have hz1 := hb1.size
      simp only [World.size_alloc] at hz1 hg1
      have hB1 := hb0.trans (hb1.mono (by simp))
      have N1 := N0.below (by simp) hb1
      have N2 := N1.below (by omega : w.heap.size < w1.heap.size) (below1 w1 (.cells (binR g) 94))
      have hB2 := hB1.trans ((below1 w1 (.cells (binR g) 94)).mono (by omega))
      have S2 := CellsOf.new w1 (binR g) 94
      have n0 := N2 0 _ rfl
      have n1 := N2 1 _ rfl
      have n2 := N2 2 _ rfl
      have n3 := N2 3 _ rfl
      have n4 := N2 4 _ rfl
      go_wp2_with fail
      refine (fault_bin s hs cb g ahead deep a r hr _ c _ (by simp; omega) ((hB2.cell (p := ⟨cb, 0, none⟩) hcb).trans hc) (by omega) (by omega)).mono ?_
      rintro e w2 ⟨rfl, hb3⟩
      have hz3 := hb3.size
      simp only [World.size_alloc] at hz3
      have hB3 := hB2.trans (hb3.mono (by simp; omega))
      have hc3 := (hB3.cell (p := ⟨cb, 0, none⟩) hcb).trans hc
      have hf3 := (hB3.frozen (p := ⟨cb, 0, none⟩) hcb).trans hf
      have N3 := N2.below (by simp; omega) hb3
      have S3 := S2.below (by simp) hb3
      have G3 : CellsOf w2 g #[.int .i64 18, .int .i64 18] := by
        have G1 : CellsOf w1 g #[.int .i64 18, .int .i64 18] := fun i v hi => by
          match i, hi with
          | 0, hi => cases hi; exact hs0
          | 1, hi => cases hi; exact hs1
          | i + 2, hi => simp at hi
        exact (G1.below (by omega) (below1 w1 (.cells (binR g) 94))).below (by simp; omega) hb3
      have hK3 := Chk.of hB3 (Nat.le_of_lt hcb)
      have hK4 := Chk.set cb w2 (.int .i64 (ahead + 1))
      have N4 := hK4.cells N3 (by omega) (by omega)
      have S4 := hK4.cells S3 (by omega) (by omega)
      have G4 := hK4.cells G3 (by omega) (by omega)
      have hz4 := hK4.size
      have hc4 : (w2.setCell ⟨cb, 0, none⟩ (.int .i64 (ahead + 1))).cell? ⟨cb, 0, none⟩ = some (.int .i64 (ahead + 1)) := World.cell?_setCell_same' _ _ _ (by rw [hc3]; rfl)
      have hf4 : (w2.setCell ⟨cb, 0, none⟩ (.int .i64 (ahead + 1))).frozen? ⟨cb, 0, none⟩ = false := by rw [World.frozen?_setCell]; exact hf3
      have HK4 : Hid (Chk cb w (w2.setCell ⟨cb, 0, none⟩ (.int .i64 (ahead + 1)))) := hK3.trans hK4
      have q0 := N4 0 _ rfl
      have q1 := N4 1 _ rfl
      have q2 := N4 2 _ rfl
      have q3 := N4 3 _ rfl
      have q4 := N4 4 _ rfl
      clear n0 n1 n2 n3 n4 hK3 hK4
      have HS : Hid (∀ W, Chk cb w W → Calls Tryz.prog 52 #[.agg (binN s a (some ⟨b, o, none⟩) c)] W fun e w' => e = .returned (.int .i64 (-1)) ∧ Below W.heap.size W w') := fun W hW =>
        second_any 51 s 0 a (some ⟨b, o, none⟩) c [x, y] W (MT.In.mono (by have := hW.size; omega) _ (MT.In.below hW.below _ hin)) (by
          intro z hz
          simp only [List.mem_cons, List.not_mem_nil, or_false] at hz
          rcases hz with rfl | rfl
          · exact hx.kind
          · exact hy.kind)
      go_wp2_with fail
      refine (HS.out _ HK4.out).mono ?_
      rintro e w5 ⟨rfl, hb5⟩
      have hz5 := hb5.size
      have h5 : CkRel cb w g w1.heap.size s a b o c x y ahead 0 w5 := by
        refine ⟨?_, (hb5.frozen (p := ⟨cb, 0, none⟩) (by show cb < _; omega)).trans hf4, HK4.out.trans (Chk.of hb5 (by omega)), N4.below (by omega) hb5, S4.below (by omega) hb5, G4.below (by omega) hb5, by omega⟩
        rw [(hb5.cell (p := ⟨cb, 0, none⟩) (by show cb < _; omega)).trans hc4]; simp [MT.sizeL]
      have r4 := h5.node 4 _ rfl
      have HL : Hid (MT.InL cb w b o [x, y]) := hL
      have HX : Hid (Sim x ∧ Sim y) := ⟨hx, hy⟩
      have HT : Hid (TabsAt gw ow gs os w) := ht
      clear q0 q1 q2 q3 q4 hc4 hf4 hc3 hf3 N0 N1 N2 N3 N4 S2 S3 S4 G3 G4 hb0 hb1 hb3 hb5 hB1 hB2 hB3 hs0 hs1 HS hL hx hy ht hin HK4
      go_wp2_with fail
      clear r4
      go_loopg [42] 2 (fun gk i wr => ∃ j : Nat, gk + j = 2 ∧ i = .int .i64 j ∧ CkRel cb w g w1.heap.size s a b o c x y ahead j wr)
      case atStart => exact ⟨0, rfl, rfl, h5⟩
      case round =>
        obtain ⟨j, hj, rfl, hR⟩ := hrel
        clear h5
        by_cases hlt : j < 2
        · have hl2 : j < [x, y].length := hlt
          obtain ⟨⟨c0, c1, c2, c3, c4⟩, hkin⟩ := (MT.InL.below hR.chk.below b o hbB [x, y] HL.out).get j hl2
          have hks : Sim [x, y][j] := by
            match j, hlt with
            | 0, _ => exact HX.out.1
            | 1, _ => exact HX.out.2
          have hsz : MT.sizeL ([x, y].take (j + 1)) = MT.sizeL ([x, y].take j) + [x, y][j].size := MT.sizeL_take_succ [x, y] j hl2
          have hsl : MT.sizeL ([x, y].take (j + 1)) ≤ x.size + y.size := by
            have := MT.sizeL_take_le [x, y] (j + 1)
            simp only [MT.sizeL] at this; omega
          have hci := hR.cell
          have hfi := hR.frozen
          have hbig := hR.big
          have g0 := hR.role 0 _ rfl
          have g1 := hR.role 1 _ rfl
          have s0 := hR.shape 0 _ rfl
          have s1 := hR.shape 1 _ rfl
          have s2 := hR.shape 2 _ rfl
          have s3 := hR.shape 3 _ rfl
          generalize [x, y][j] = kid at c0 c1 c2 c3 c4 hkin hks hsz
          have hbw : b < wr.heap.size := by omega
          have hbK := below1 wr (nodeO kid)
          have K0 := BoxAt.new wr kid
          go_wp2_with fail
          refine (role_bin g (j : Int) (by omega) _ (by simp; omega) ((hbK.cell (p := ⟨g, 0, none⟩) (by show g < _; omega)).trans g0) ((hbK.cell (p := ⟨g, 1, none⟩) (by show g < _; omega)).trans g1)).mono ?_
          rintro e w6 ⟨rfl, hb6⟩
          have hz6 := hb6.size
          simp only [World.size_alloc] at hz6
          have hB6 := hbK.trans (hb6.mono (by simp))
          obtain ⟨k0, k1, k2, k3, k4⟩ := K0.below (by simp) hb6
          have hC6 := hR.chk.trans (Chk.of hB6 (by omega))
          have hne : ((j : Int) == -1) = false := by simp
          have HC : Hid (Calls Tryz.prog 31 #[.pointer (some ⟨cb, 0, none⟩), nodeV kid, .int .i64 18, .int .i64 (deep + 1)] w6 fun e w' => e = .returned .nilIface ∧ w'.cell? ⟨cb, 0, none⟩ = some (.int .i64 (ahead + 1 + MT.sizeL ([x, y].take j) + kid.size)) ∧ w'.frozen? ⟨cb, 0, none⟩ = false ∧ Chk cb w6 w') :=
            HI.out kid (ahead + 1 + MT.sizeL ([x, y].take j)) (deep + 1) 18 w6 (by omega) hks (.inr rfl) (HT.out.under h6 hgw hgs hC6.below) (MT.In.below (hB6.mono (by omega)) kid hkin) (by omega)
              ((hB6.cell (p := ⟨cb, 0, none⟩) (by show cb < _; omega)).trans hci) ((hB6.frozen (p := ⟨cb, 0, none⟩) (by show cb < _; omega)).trans hfi) (by omega) (by omega) (by omega) (by omega)
          have HB6 : Hid (Below wr.heap.size wr w6) := hB6
          clear c0 c1 c2 c3 c4 g0 g1 s0 s1 s2 s3 hci hfi hb6 hB6 hbK K0
          go_wp2_with fail
          refine HC.out.mono ?_
          rintro e w7 ⟨rfl, hc7, hf7, hk7⟩
          have hz7 := hk7.size
          go_wp2_with fail
          go_roundg (2 - (j + 1))
          case measure => omega
          case rel =>
            refine ⟨j + 1, by omega, by go_num, ⟨?_, hf7, hC6.trans hk7, hk7.cells (hR.node.below (by omega) HB6.out) (by omega) (by omega), hk7.cells (hR.shape.below (by omega) HB6.out) (by omega) (by omega), hk7.cells (hR.role.below (by omega) HB6.out) (by omega) (by omega), by omega⟩⟩
            rw [hc7, hsz]; simp [Int.add_assoc]
        · have hj2 : j = 2 := by omega
          subst hj2
          clear hj hlt
          go_wp2_with fail
          go_ret
          refine ⟨rfl, ?_, hR.frozen, hR.chk⟩
          rw [hR.cell, HE.out]
          simp [MT.sizeL]; omega
end Go.Proofs.YthbnegggohegkaaGreatDoor
namespace Go.Proofs.YthbnegggohegkaaGreatDoor
open Go.RowKit

set_option maxHeartbeats 400000 in
theorem ownRole_any (k : Int) (h40 : (k == 40) = false) (h27 : (k == 27) = false) (s : ByteArray) (n a : Int) (p : Option Addr) (m c : Nat) (w : World) :
    Calls Tryz.prog 32 #[.agg #[.int .i64 k, .string s, .int .i64 n, .int .i64 a, .slice p m c]] w fun e w' => e = .returned (.int .i64 0) ∧ Below w.heap.size w w' := by
  go_enter Tryz.func32, Tryz.ntmps32
  go_wp2_with fail
  go_ret
  exact ⟨rfl, below1 _ _⟩

theorem Sim.kind40 {t : MT} (h : Sim t) : (t.kind == 40) = false := by cases h <;> rfl

set_option maxRecDepth 100000 in
set_option maxHeartbeats 2000000 in
theorem right_sim {gw ow gs os : Nat} (t : MT) (hS : Sim t) (hsz : t.size ≤ 60) (w : World) (ht : TabsAt gw ow gs os w) (hin : t.In w.heap.size w) :
    Calls Tryz.prog 13 #[nodeV t] w fun e w' => e = .returned .nilIface ∧ Below w.heap.size w w' := by
  have h6 := ht.two
  have hgw := ht.gwLt
  have hgs := ht.gsLt
  have hB2 := below2 w (nodeO t) (.cells #[.int .i64 0] 63)
  have K2 := (BoxAt.new w t).below (Nat.lt_succ_self _) ((Below.refl _ _).alloc (by simp) (.cells #[.int .i64 0] 63))
  have hcc : ((w.alloc (nodeO t)).alloc (.cells #[.int .i64 0] 63)).cell? ⟨w.heap.size + 1, 0, none⟩ = some (.int .i64 0) ∧ ((w.alloc (nodeO t)).alloc (.cells #[.int .i64 0] 63)).frozen? ⟨w.heap.size + 1, 0, none⟩ = false := by simp
  have HO : Hid (∀ W, Calls Tryz.prog 32 #[nodeV t] W fun e w' => e = .returned (.int .i64 0) ∧ Below W.heap.size W w') := fun W => ownRole_any t.kind hS.kind40 hS.kind t.text t.num t.at_ t.ptr t.kids.length t.cap W
  have HC : Hid (∀ W, Below (w.heap.size + 2) ((w.alloc (nodeO t)).alloc (.cells #[.int .i64 0] 63)) W → Calls Tryz.prog 31 #[.pointer (some ⟨w.heap.size + 1, 0, none⟩), nodeV t, .int .i64 0, .int .i64 1] W fun e w' => e = .returned .nilIface ∧ Below (w.heap.size + 1) ((w.alloc (nodeO t)).alloc (.cells #[.int .i64 0] 63)) w') := fun W hW =>
    (check_sim t.size (w.heap.size + 1) (by omega) (by omega) (by omega) t 0 1 0 W (Nat.le_refl _) hS (.inl rfl) (ht.below (Nat.le_refl _) (hB2.trans (hW.mono (by omega)))) (MT.In.mono (by omega) t (MT.In.below (hB2.trans (hW.mono (by omega))) t hin)) (by have := hW.size; simp at this; omega)
      ((hW.cell (p := ⟨w.heap.size + 1, 0, none⟩) (by simp)).trans hcc.1) ((hW.frozen (p := ⟨w.heap.size + 1, 0, none⟩) (by simp)).trans hcc.2) (by omega) (by omega) (by omega) (by omega)).mono
      fun _ _ ⟨h1, _, _, h4⟩ => ⟨h1, (hW.mono (by omega)).trans h4.below⟩
  have HK : Hid (∀ W, Below (w.heap.size + 1) ((w.alloc (nodeO t)).alloc (.cells #[.int .i64 0] 63)) W → (W.cell? ⟨w.heap.size, 0, none⟩ = some (.int .i64 t.kind) ∧ W.cell? ⟨w.heap.size, 1, none⟩ = some (.string t.text) ∧ W.cell? ⟨w.heap.size, 2, none⟩ = some (.int .i64 t.num) ∧ W.cell? ⟨w.heap.size, 3, none⟩ = some (.int .i64 t.at_) ∧ W.cell? ⟨w.heap.size, 4, none⟩ = some (.slice t.ptr t.kids.length t.cap))) := fun W hW => by
    obtain ⟨k0, k1, k2, k3, k4⟩ := K2.below (Nat.lt_succ_self _) hW
    exact ⟨k0, k1, k2, k3, k4⟩
  clear hcc hin K2
  go_enter Tryz.func13, Tryz.ntmps13
  go_wp2_with fail
  go_region_held3 (fun W => W.cell? ⟨w.heap.size, 0, none⟩ = some (.int .i64 t.kind) ∧ W.cell? ⟨w.heap.size, 1, none⟩ = some (.string t.text) ∧ W.cell? ⟨w.heap.size, 2, none⟩ = some (.int .i64 t.num) ∧ W.cell? ⟨w.heap.size, 3, none⟩ = some (.int .i64 t.at_) ∧ W.cell? ⟨w.heap.size, 4, none⟩ = some (.slice t.ptr t.kids.length t.cap))
    (first | exact HK.out _ hbF | exact HK.out _ (hbA.mono (by omega)) | (simp; done))
    (first
      | (go_at_call 32; refine (HO.out _).mono ?_; rintro e w1 ⟨rfl, hb0⟩; have hbA : Below (w.heap.size + 2) ((w.alloc (nodeO t)).alloc (.cells #[.int .i64 0] 63)) w1 := ((Below.refl _ _).drew).trans (hb0.mono (by simp)))
      | (go_at_call 31; refine (HC.out _ hbA).mono ?_; rintro e w2 ⟨rfl, hbF⟩))
  go_wp2_with fail
  go_ret
  exact ⟨rfl, hB2.trans (hbF.mono (by omega))⟩

theorem heap_set {w : World} {g : Nat} {cur : Array Value} {e : TypeId} {fr : Nat × Nat} (hg : w.heap[g]? = some (.cells cur e fr)) (j : Nat) (v : Value) : (w.setCell ⟨g, j, none⟩ v).heap[g]? = some (.cells (cur.setIfInBounds j v) e fr) := by
  have hlt := (Array.getElem?_eq_some_iff.1 hg).1
  show (w.heap.modify g _)[g]? = _
  rw [Array.getElem?_eq_getElem (by rw [Array.size_modify]; exact hlt), Array.getElem_modify_self, (Array.getElem?_eq_some_iff.1 hg).2]
  rfl

set_option maxRecDepth 100000 in
set_option maxHeartbeats 1000000 in
theorem treeWrong_any (code k : Int) (s : ByteArray) (hs : s.size ≤ 40) (n a : Int) (p : Option Addr) (m c : Nat) (w : World) :
    Calls Tryz.prog 51 #[.int .i64 code, .agg #[.int .i64 k, .string s, .int .i64 n, .int .i64 a, .slice p m c]] w fun e w' => ∃ B, e = .returned (.iface 67 (.pointer (some ⟨B, 0, none⟩))) ∧ w.heap.size ≤ B ∧ w'.heap[B]? = some (.cells #[.int .i64 code, .int .i64 a, .string s] 28 (0, 0)) ∧ Below w.heap.size w w' := by
  have hB2 := below2 w (.cells #[.int .i64 k, .string s, .int .i64 n, .int .i64 a, .slice p m c] 24) (.cells #[.int .i64 code, .int .i64 a, .string ⟨#[]⟩] 28)
  go_enter Tryz.func51, Tryz.ntmps51
  go_wp2_with fail
  refine (clone_any s _ (by omega)).mono ?_
  rintro e w1 ⟨rfl, hb1⟩
  have hz1 := hb1.size
  simp only [World.size_alloc] at hz1
  have hrow : w1.heap[w.heap.size + 1]? = some (.cells #[.int .i64 code, .int .i64 a, .string ⟨#[]⟩] 28 (0, 0)) := by
    rw [hb1.block _ (by simp)]
    have := heap_alloc_new (w.alloc (.cells #[.int .i64 k, .string s, .int .i64 n, .int .i64 a, .slice p m c] 24)) (.cells #[.int .i64 code, .int .i64 a, .string ⟨#[]⟩] 28)
    rwa [World.size_alloc] at this
  have hc2 : w1.cell? ⟨w.heap.size + 1, 2, none⟩ = some (.string ⟨#[]⟩) := by simp [World.cell?, hrow]
  have hf2 : w1.frozen? ⟨w.heap.size + 1, 2, none⟩ = false := by simp [World.frozen?, hrow]
  have HR : Hid (w1.heap[w.heap.size + 1]? = some (.cells #[.int .i64 code, .int .i64 a, .string ⟨#[]⟩] 28 (0, 0))) := hrow
  clear hrow
  go_wp2_with fail
  go_ret
  refine ⟨w.heap.size + 1, rfl, by omega, ?_, (hB2.trans (hb1.mono (by simp; omega))).setCell (p := ⟨w.heap.size + 1, 2, none⟩) (by show w.heap.size ≤ w.heap.size + 1; omega) _⟩
  exact heap_set HR.out 2 (.string s)

set_option maxRecDepth 100000 in
set_option maxHeartbeats 2000000 in
theorem check_int {gw ow gs os : Nat} (cb : Nat) (a : Int) (p : Option Addr) (c : Nat) (w : World) (ht : TabsAt gw ow gs os w)
    (hcb : cb < w.heap.size) (hc : w.cell? ⟨cb, 0, none⟩ = some (.int .i64 0)) :
    Calls Tryz.prog 31 #[.pointer (some ⟨cb, 0, none⟩), .agg (leafN 35 ⟨#[48, 49]⟩ a p c), .int .i64 0, .int .i64 1] w fun e w' => ∃ B, e = .returned (.iface 67 (.pointer (some ⟨B, 0, none⟩))) ∧ w.heap.size ≤ B ∧ w'.heap[B]? = some (.cells #[.int .i64 20, .int .i64 a, .string ⟨#[48, 49]⟩] 28 (0, 0)) ∧ Below w.heap.size w w' := by
  have N0 := CellsOf.new w (leafN 35 ⟨#[48, 49]⟩ a p c) 24
  have hb0 := below1 w (.cells (leafN 35 ⟨#[48, 49]⟩ a p c) 24)
  go_enter Tryz.func31, Tryz.ntmps31
  go_wp2_with fail
  refine (shape_leaf 35 (.inr rfl) ⟨#[48, 49]⟩ a 0 p c _).mono ?_
  rintro e w1 ⟨rfl, hb1⟩
  have hz1 := hb1.size
  simp only [World.size_alloc] at hz1
  have hB1 := hb0.trans (hb1.mono (by simp))
  have N1 := N0.below (by simp) hb1
  have N2 := N1.below (by omega : w.heap.size < w1.heap.size) (below1 w1 (.cells leafR 94))
  have hB2 := hB1.trans ((below1 w1 (.cells leafR 94)).mono (by omega))
  have n0 := N2 0 _ rfl
  have n1 := N2 1 _ rfl
  have n2 := N2 2 _ rfl
  have n3 := N2 3 _ rfl
  have n4 := N2 4 _ rfl
  go_wp2_with fail
  refine (fault_int cb 0 1 a p c _ (ht.below (Nat.le_refl _) hB2) (by simp; omega) ((hB2.cell (p := ⟨cb, 0, none⟩) hcb).trans hc) (by omega) (by omega)).mono ?_
  rintro e w2 ⟨rfl, hb3⟩
  have hz3 := hb3.size
  simp only [World.size_alloc] at hz3
  have hB3 := hB2.trans (hb3.mono (by simp; omega))
  have N3 := N2.below (by simp; omega) hb3
  have q0 := N3 0 _ rfl
  have q1 := N3 1 _ rfl
  have q2 := N3 2 _ rfl
  have q3 := N3 3 _ rfl
  have q4 := N3 4 _ rfl
  clear n0 n1 n2 n3 n4
  go_wp2_with fail
  refine (treeWrong_any 20 35 ⟨#[48, 49]⟩ (by decide) 0 a p 0 c _).mono ?_
  rintro e w4 ⟨B, rfl, hB, hrow, hb4⟩
  go_wp2_with fail
  go_ret
  exact ⟨B, rfl, by have := hB3.size; omega, hrow, hB3.trans (hb4.mono hB3.size)⟩

set_option maxRecDepth 100000 in
set_option maxHeartbeats 2000000 in
theorem right_int {gw ow gs os : Nat} (a : Int) (w : World) (ht : TabsAt gw ow gs os w) :
    Calls Tryz.prog 13 #[.agg (leafN 35 ⟨#[48, 49]⟩ a none 0)] w fun e w' => ∃ B, e = .returned (.iface 67 (.pointer (some ⟨B, 0, none⟩))) ∧ w.heap.size ≤ B ∧ w'.heap[B]? = some (.cells #[.int .i64 20, .int .i64 a, .string ⟨#[48, 49]⟩] 28 (0, 0)) ∧ Below w.heap.size w w' := by
  have hB2 := below2 w (.cells (leafN 35 ⟨#[48, 49]⟩ a none 0) 24) (.cells #[.int .i64 0] 63)
  have K2 := (CellsOf.new w (leafN 35 ⟨#[48, 49]⟩ a none 0) 24).below (Nat.lt_succ_self _) ((Below.refl _ _).alloc (by simp) (.cells #[.int .i64 0] 63))
  have hcc : ((w.alloc (.cells (leafN 35 ⟨#[48, 49]⟩ a none 0) 24)).alloc (.cells #[.int .i64 0] 63)).cell? ⟨w.heap.size + 1, 0, none⟩ = some (.int .i64 0) := by simp
  have HO : Hid (∀ W, Calls Tryz.prog 32 #[.agg (leafN 35 ⟨#[48, 49]⟩ a none 0)] W fun e w' => e = .returned (.int .i64 0) ∧ Below W.heap.size W w') := fun W => ownRole_any 35 rfl rfl ⟨#[48, 49]⟩ 0 a none 0 0 W
  have HC : Hid (∀ W, Below (w.heap.size + 2) ((w.alloc (.cells (leafN 35 ⟨#[48, 49]⟩ a none 0) 24)).alloc (.cells #[.int .i64 0] 63)) W → Calls Tryz.prog 31 #[.pointer (some ⟨w.heap.size + 1, 0, none⟩), .agg (leafN 35 ⟨#[48, 49]⟩ a none 0), .int .i64 0, .int .i64 1] W fun e w' => ∃ B, e = .returned (.iface 67 (.pointer (some ⟨B, 0, none⟩))) ∧ w.heap.size ≤ B ∧ w'.heap[B]? = some (.cells #[.int .i64 20, .int .i64 a, .string ⟨#[48, 49]⟩] 28 (0, 0)) ∧ Below (w.heap.size + 2) ((w.alloc (.cells (leafN 35 ⟨#[48, 49]⟩ a none 0) 24)).alloc (.cells #[.int .i64 0] 63)) w') := fun W hW =>
    (check_int (w.heap.size + 1) a none 0 W (ht.below (Nat.le_refl _) (hB2.trans (hW.mono (by omega)))) (by have := hW.size; simp at this; omega) ((hW.cell (p := ⟨w.heap.size + 1, 0, none⟩) (by simp)).trans hcc)).mono
      fun _ _ ⟨B, h1, h2, h3, h4⟩ => ⟨B, h1, by have := hW.size; simp at this; omega, h3, hW.trans (h4.mono (by have := hW.size; simp at this; omega))⟩
  have HK : Hid (∀ W, Below (w.heap.size + 2) ((w.alloc (.cells (leafN 35 ⟨#[48, 49]⟩ a none 0) 24)).alloc (.cells #[.int .i64 0] 63)) W → (W.cell? ⟨w.heap.size, 0, none⟩ = some (.int .i64 35) ∧ W.cell? ⟨w.heap.size, 1, none⟩ = some (.string ⟨#[48, 49]⟩) ∧ W.cell? ⟨w.heap.size, 2, none⟩ = some (.int .i64 0) ∧ W.cell? ⟨w.heap.size, 3, none⟩ = some (.int .i64 a) ∧ W.cell? ⟨w.heap.size, 4, none⟩ = some (.slice none 0 0))) := fun W hW => by
    have K3 := K2.below (by omega : w.heap.size < w.heap.size + 2) hW
    exact ⟨K3 0 _ rfl, K3 1 _ rfl, K3 2 _ rfl, K3 3 _ rfl, K3 4 _ rfl⟩
  clear hcc K2
  go_enter Tryz.func13, Tryz.ntmps13
  go_wp2_with fail
  go_region_held3 (fun W => W.cell? ⟨w.heap.size, 0, none⟩ = some (.int .i64 35) ∧ W.cell? ⟨w.heap.size, 1, none⟩ = some (.string ⟨#[48, 49]⟩) ∧ W.cell? ⟨w.heap.size, 2, none⟩ = some (.int .i64 0) ∧ W.cell? ⟨w.heap.size, 3, none⟩ = some (.int .i64 a) ∧ W.cell? ⟨w.heap.size, 4, none⟩ = some (.slice none 0 0))
    (first | exact HK.out _ hbF | exact HK.out _ hbA | (simp; done))
    (first
      | (go_at_call 32; refine (HO.out _).mono ?_; rintro e w1 ⟨rfl, hb0⟩; have hbA : Below (w.heap.size + 2) ((w.alloc (.cells (leafN 35 ⟨#[48, 49]⟩ a none 0) 24)).alloc (.cells #[.int .i64 0] 63)) w1 := ((Below.refl _ _).drew).trans (hb0.mono (by simp)))
      | (go_at_call 31; refine (HC.out _ hbA).mono ?_; rintro e w2 ⟨B, rfl, hB, hrow, hbF⟩))
  go_wp2_with fail
  go_ret
  exact ⟨B, rfl, hB, hrow, hB2.trans (hbF.mono (by omega))⟩
end Go.Proofs.YthbnegggohegkaaGreatDoor
