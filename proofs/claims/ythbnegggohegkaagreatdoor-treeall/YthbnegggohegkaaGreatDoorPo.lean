/-
  The walks of expression, own and Print at sums and products.
-/
import Derived.Test.YthbnegggohegkaaGreatDoorPn
import Derived.Test.YthbnegggohegkaaGreatDoorRi
namespace Go.Proofs.YthbnegggohegkaaGreatDoor
open Go.RowKit

set_option maxRecDepth 100000 in
set_option maxHeartbeats 1000000 in
theorem expression_any (pb base : Nat) (t : MT) (out bs : List UInt8) (HPl : Plain pb base t out) (v : Value) (w : World) (hP : Pr pb base bs false v w) (hpb : pb < base) (hB : base ≤ w.heap.size) (hin : t.In pb w) (hl : bs.length + out.length ≤ 50000) :
    Calls Tryz.prog 71 #[.pointer (some ⟨pb, 0, none⟩), nodeV t] w fun e w' => (∃ u, e = .returned u) ∧ ∃ v', Pr pb base (bs ++ out) false v' w' ∧ PK pb base w w' := by
  have HP : Hid (Plain pb base t out) := HPl
  clear HPl
  have hb1 := below1 w (nodeO t)
  have hP1 := hP.below hb1
  have hK1 := PK.of (pb := pb) hb1 hB
  have hin1 := In.pk hin hK1 hpb
  go_enter Tryz.func71, Tryz.ntmps71
  go_wp2_with fail
  refine (part_any pb base t out bs HP.out false v _ hP1 hpb (by simp; omega) hin1 hl).mono ?_
  rintro e w3 ⟨⟨u, rfl⟩, v3, hP3, hK3⟩
  have HE : Hid (Pr pb base (bs ++ out) false v3 w3 ∧ PK pb base w w3) := ⟨hP3, hK1.trans hK3⟩
  clear hP3 hK3 hP1 hK1
  go_wp2_with fail
  go_end0
  exact ⟨⟨_, rfl⟩, v3, HE.out⟩

set_option maxRecDepth 100000 in
set_option maxHeartbeats 1000000 in
theorem own_bin (pb base : Nat) (s : ByteArray) (a : Int) (p : Option Addr) (c : Nat) (x y : MT) (out bs : List UInt8) (HPl : Plain pb base (.node 51 s 0 a p c [x, y]) out) (v : Value) (w : World) (hP : Pr pb base bs false v w) (hpb : pb < base) (hB : base ≤ w.heap.size) (hin : (MT.node 51 s 0 a p c [x, y]).In pb w) (hl : bs.length + out.length ≤ 50000) :
    Calls Tryz.prog 41 #[.pointer (some ⟨pb, 0, none⟩), .agg (binN s a p c)] w fun e w' => (∃ u, e = .returned u) ∧ ∃ v', Pr pb base (bs ++ out) false v' w' ∧ PK pb base w w' := by
  have HP : Hid (Plain pb base (.node 51 s 0 a p c [x, y]) out) := HPl
  clear HPl
  have hb2 := below2 w (.cells #[.pointer (some ⟨pb, 0, none⟩)] 114) (.cells (binN s a p c) 24)
  have hP2 := hP.below hb2
  have hK2 := PK.of (pb := pb) hb2 hB
  have hin2 := In.pk hin hK2 hpb
  go_enter Tryz.func41, Tryz.ntmps41
  go_wp2_with fail
  refine (takes_2_51 _).mono ?_
  rintro e w3 ⟨rfl, rfl⟩
  go_wp2_with fail
  refine (takes_3_51 _).mono ?_
  rintro e w3 ⟨rfl, rfl⟩
  go_wp2_with fail
  refine (takes_12_51 _).mono ?_
  rintro e w3 ⟨rfl, rfl⟩
  go_wp2_with fail
  refine (expression_any pb base (.node 51 s 0 a p c [x, y]) out bs HP.out v _ hP2 hpb (by simp; omega) hin2 hl).mono ?_
  rintro e w3 ⟨⟨u, rfl⟩, v3, hP3, hK3⟩
  have HE : Hid (Pr pb base (bs ++ out) false v3 w3 ∧ PK pb base w w3) := ⟨hP3, hK2.trans hK3⟩
  clear hP3 hK3 hP2 hK2
  go_wp2_with fail
  go_end0
  exact ⟨⟨_, rfl⟩, v3, HE.out⟩

set_option maxRecDepth 100000 in
set_option maxHeartbeats 1000000 in
theorem print_bin {gw ow gs os : Nat} (s : ByteArray) (a : Int) (p : Option Addr) (c : Nat) (x y : MT) (out : List UInt8) (hW : Wr (.node 51 s 0 a p c [x, y]) out) (hsz : (MT.node 51 s 0 a p c [x, y]).size ≤ 60) (w : World) (ht : TabsAt gw ow gs os w) (hin : (MT.node 51 s 0 a p c [x, y]).In w.heap.size w) (hl : out.length ≤ 50000) :
    Calls Tryz.prog 26 #[.agg (binN s a p c)] w fun e w' => e = .returned (.tuple #[.string ⟨out.toArray⟩, .nilIface]) ∧ Below w.heap.size w w' := by
  have HR := right_sim (gw := gw) (ow := ow) (gs := gs) (os := os) _ hW.sim hsz
  have hb1 := below1 w (.cells (binN s a p c) 24)
  have ht1 := ht.below (Nat.le_refl _) hb1
  have hin1 := MT.In.mono (B' := (w.alloc (.cells (binN s a p c) 24)).heap.size) (by simp) _ (MT.In.below hb1 _ hin)
  go_enter Tryz.func26, Tryz.ntmps26
  go_wp2_with fail
  refine (HR _ ht1 hin1).mono ?_
  rintro e w2 ⟨rfl, hb2⟩
  have hB2 := hb1.trans (hb2.mono (by simp))
  have hz2 := hb2.size
  simp only [World.size_alloc] at hz2
  have hrow : (w2.alloc (.cells #[.slice none 0 0, .int .i64 0, .bool false] 84)).heap[w.heap.size]? = some (.cells (binN s a p c) 24 (0, 0)) :=
    (Below.heap_alloc _ _ _ (by omega)).trans ((hb2.block w.heap.size (by simp)).trans (heap_alloc_new w _))
  have hP3 : Pr w2.heap.size (w2.heap.size + 1) [] false (.slice none 0 0) (w2.alloc (.cells #[.slice none 0 0, .int .i64 0, .bool false] 84)) := ⟨heap_alloc_new w2 _, World.ownsRow_nil _ _ _ _⟩
  have hb3 := below1 w2 (.cells #[.slice none 0 0, .int .i64 0, .bool false] 84)
  have hin3 := MT.In.mono (B' := w2.heap.size) (by omega) _ (MT.In.below (hB2.trans (hb3.mono (by omega))) _ hin)
  have HPl := plain_wr w2.heap.size (w2.heap.size + 1) (by omega) hW
  obtain ⟨k0, k1, k2, k3, k4⟩ : BoxAt (w2.alloc (.cells #[.slice none 0 0, .int .i64 0, .bool false] 84)) w.heap.size (.node 51 s 0 a p c [x, y]) := ((BoxAt.new w (.node 51 s 0 a p c [x, y])).below (by simp) hb2).below (by omega) hb3
  clear ht1 hin1 hb1 HR
  go_wp2_with fail
  refine (own_bin w2.heap.size (w2.heap.size + 1) s a p c x y out [] HPl _ _ hP3 (by omega) (by simp) hin3 (by simpa using hl)).mono ?_
  rintro e w4 ⟨⟨u, rfl⟩, v4, hP4, hK4⟩
  have hP4' : Pr w2.heap.size (w2.heap.size + 1) out false v4 w4 := hP4
  clear hP4
  go_wp2_with fail
  refine (isFull_any w2.heap.size (w2.heap.size + 1) out false v4 _ hP4' (by omega)).mono ?_
  rintro e w5 ⟨rfl, rfl⟩
  have hc4 := hP4'.cell
  have hcv := conv_own hP4'.own
  have HE : Hid (Below w.heap.size w w5) := (hB2.trans (hb3.mono (by omega))).trans (hK4.below (by omega) (by omega))
  clear hK4 hP4' hb3 hB2 hb2 hP3 hrow k0 k1 k2 k3 k4
  go_wp2_with fail
  go_ret2
  exact ⟨rfl, HE.out⟩
end Go.Proofs.YthbnegggohegkaaGreatDoor
