/-
  The walk of plain at names, sums and products.
  The walks of expression, own and Print at sums and products.
-/
import Derived.Test.YthbnegggohegkaaGreatDoorGmJ
import Derived.Deep.RegionHeld3
import Derived.Test.YthbnegggohegkaaGreatDoorRiJ
namespace Go.Proofs.YthbnegggohegkaaGreatDoor
open Go.RowKit

/-- How a name, a sum or a product is written. -/
inductive Wr : MT → List UInt8 → Prop
  | name (s : ByteArray) (a : Int) (p : Option Addr) (c : Nat) (hs : Abc s) : Wr (.node 14 s 0 a p c []) s.data.toList
  | bin (s : ByteArray) (a : Int) (p : Option Addr) (c : Nat) (x y : MT) (bx bY : List UInt8) (hs : Sgn s) (hx : Wr x bx) (hy : Wr y bY) :
      Wr (.node 51 s 0 a p c [x, y]) (brk (decide (lev x < lev (.node 51 s 0 a p c [x, y]))) bx ++ ([32] ++ s.data.toList ++ [32]) ++ brk (decide (lev y ≤ lev (.node 51 s 0 a p c [x, y]))) bY)

theorem Wr.sim {t : MT} {out : List UInt8} (h : Wr t out) : Sim t := by
  induction h with
  | name s a p c hs => exact .name s a p c hs
  | bin s a p c x y bx bY hs _ _ ihx ihy => exact .bin s a p c x y hs ihx ihy

theorem brk_len (b : Bool) (out : List UInt8) : out.length ≤ (brk b out).length ∧ (brk b out).length ≤ out.length + 2 := by
  cases b <;> simp [brk] <;> omega

set_option maxRecDepth 100000 in
set_option maxHeartbeats 2000000 in
theorem plain_name (pb base : Nat) (hpb : pb < base) (s : ByteArray) (a : Int) (p : Option Addr) (c : Nat) : Plain pb base (.node 14 s 0 a p c []) s.data.toList := by
  intro bs v w hP hB hin hl
  have hb2 := below2 w (.cells #[.pointer (some ⟨pb, 0, none⟩)] 114) (.cells (leafN 14 s a p c) 24)
  have hb3 := hb2.alloc (by simp; omega) (.cells #[.string s] 9)
  have hP3 := hP.below hb3
  have hK3 := PK.of (pb := pb) hb3 hB
  have hr3 := heap_alloc_new ((w.alloc (.cells #[.pointer (some ⟨pb, 0, none⟩)] 114)).alloc (.cells (leafN 14 s a p c) 24)) (.cells #[.string s] 9)
  simp only [World.size_alloc] at hr3
  simp only [nodeV, MT.kind_node, MT.text_node, MT.num_node, MT.at_node, MT.ptr_node, MT.cap_node, MT.kids_node, List.length_nil]
  go_enter Tryz.func132, Tryz.ntmps132
  go_wp2_with fail
  refine (put_any pb base (w.heap.size + 1 + 1) [s] bs false v _ hP3 hpb (by simp; omega) (by omega) hr3 (by simp [joinAll] at hl ⊢; omega) (by simp)).mono ?_
  rintro e w4 ⟨⟨u, rfl⟩, v4, hP4, hK4⟩
  have HE : Hid (Pr pb base (bs ++ s.data.toList) false v4 w4 ∧ PK pb base w w4) := ⟨by simpa [joinAll] using hP4, hK3.trans hK4⟩
  clear hP4 hK4 hP3 hK3 hr3 hb2 hb3
  go_wp2_with fail
  go_end0
  exact ⟨⟨_, rfl⟩, v4, HE.out⟩

theorem PK.drew (pb base : Nat) (w : World) : PK pb base w w.drew := ⟨rfl, rfl, rfl, Nat.le_refl _, fun _ _ _ => rfl, fun _ _ _ _ _ h _ => h⟩

set_option maxRecDepth 100000 in
set_option maxHeartbeats 4000000 in
theorem plain_bin (pb base : Nat) (hpb : pb < base) (s : ByteArray) (a : Int) (b o c : Nat) (x y : MT) (bx bY : List UInt8) (hs : Sgn s) (hx : Wr x bx) (hy : Wr y bY) (HX : Plain pb base x bx) (HY : Plain pb base y bY)
    (bs : List UInt8) (v : Value) (w : World) (hP : Pr pb base bs false v w) (hB : base ≤ w.heap.size) (hb : b < pb) (hL : MT.InL pb w b o [x, y])
    (hl : bs.length + (brk (decide (lev x < lev (.node 51 s 0 a (some ⟨b, o, none⟩) c [x, y]))) bx ++ ([32] ++ s.data.toList ++ [32]) ++ brk (decide (lev y ≤ lev (.node 51 s 0 a (some ⟨b, o, none⟩) c [x, y]))) bY).length ≤ 50000) :
    Calls Tryz.prog 132 #[.pointer (some ⟨pb, 0, none⟩), .agg (binN s a (some ⟨b, o, none⟩) c)] w fun e w' => (∃ u, e = .returned u) ∧ ∃ v', Pr pb base (bs ++ (brk (decide (lev x < lev (.node 51 s 0 a (some ⟨b, o, none⟩) c [x, y]))) bx ++ ([32] ++ s.data.toList ++ [32]) ++ brk (decide (lev y ≤ lev (.node 51 s 0 a (some ⟨b, o, none⟩) c [x, y]))) bY)) false v' w' ∧ PK pb base w w' := by
  have HLt : Hid (∀ W, Calls Tryz.prog 147 #[.agg (binN s a (some ⟨b, o, none⟩) c)] W fun e w' => e = .returned (.int .i64 (lev (.node 51 s 0 a (some ⟨b, o, none⟩) c [x, y]))) ∧ Below W.heap.size W w') := fun W => level_sim _ (.bin s a _ c x y hs hx.sim hy.sim) W
  generalize lev (.node 51 s 0 a (some ⟨b, o, none⟩) c [x, y]) = lt at HLt hl ⊢
  have hlx := (brk_len (decide (lev x < lt)) bx).1
  have hly := (brk_len (decide (lev y ≤ lt)) bY).1
  simp only [List.length_append, List.length_cons, List.length_nil] at hl
  have hsz : s.data.toList.length = s.size := rfl
  have HLx : Hid (∀ W, Calls Tryz.prog 147 #[nodeV x] W fun e w' => e = .returned (.int .i64 (lev x)) ∧ Below W.heap.size W w') := fun W => level_sim x hx.sim W
  have HLy : Hid (∀ W, Calls Tryz.prog 147 #[nodeV y] W fun e w' => e = .returned (.int .i64 (lev y)) ∧ Below W.heap.size W w') := fun W => level_sim y hy.sim W
  have h2 : Two pb w.heap.size (w.heap.size + 1) (.node 51 s 0 a (some ⟨b, o, none⟩) c [x, y]) ((w.alloc (.cells #[.pointer (some ⟨pb, 0, none⟩)] 114)).alloc (.cells (binN s a (some ⟨b, o, none⟩) c) 24)) := by
    refine ⟨?_, ?_⟩
    · exact (Below.heap_alloc _ _ _ (by simp)).trans (heap_alloc_new w _)
    · have := heap_alloc_new (w.alloc (.cells #[.pointer (some ⟨pb, 0, none⟩)] 114)) (.cells (binN s a (some ⟨b, o, none⟩) c) 24)
      rwa [World.size_alloc] at this
  have hb2 := below2 w (.cells #[.pointer (some ⟨pb, 0, none⟩)] 114) (.cells (binN s a (some ⟨b, o, none⟩) c) 24)
  have hP2 := hP.below hb2
  have hz2 : ((w.alloc (.cells #[.pointer (some ⟨pb, 0, none⟩)] 114)).alloc (.cells (binN s a (some ⟨b, o, none⟩) c) 24)).heap.size = w.heap.size + 2 := by simp
  have hK2 := PK.of (pb := pb) hb2 hB
  have HL2 : Hid (MT.InL pb ((w.alloc (.cells #[.pointer (some ⟨pb, 0, none⟩)] 114)).alloc (.cells (binN s a (some ⟨b, o, none⟩) c) 24)) b o [x, y]) := MT.InL.below (hb2.mono (by omega)) b o hb [x, y] hL
  go_enter Tryz.func132, Tryz.ntmps132
  go_wp2_with fail
  have HW : ∃ W2, W2 = ((w.alloc (.cells #[.pointer (some ⟨pb, 0, none⟩)] 114)).alloc (.cells (binN s a (some ⟨b, o, none⟩) c) 24)) := ⟨_, rfl⟩
  obtain ⟨W2, hW2⟩ := HW
  rw [← hW2] at h2 hb2 hP2 hz2 hK2 HL2 ⊢
  clear hW2 hL hP
  have HB : Hid (∀ W, PK pb base W2 W → (W.cell? ⟨w.heap.size, 0, none⟩ = some (.pointer (some ⟨pb, 0, none⟩)) ∧ W.cell? ⟨w.heap.size + 1, 0, none⟩ = some (.int .i64 51) ∧ W.cell? ⟨w.heap.size + 1, 1, none⟩ = some (.string s) ∧ W.cell? ⟨w.heap.size + 1, 2, none⟩ = some (.int .i64 0) ∧ W.cell? ⟨w.heap.size + 1, 3, none⟩ = some (.int .i64 a) ∧ W.cell? ⟨w.heap.size + 1, 4, none⟩ = some (.slice (some ⟨b, o, none⟩) 2 c))) := fun W hW => by
    have h3 := h2.keep hW (by omega) (by omega)
    obtain ⟨k0, k1, k2, k3, k4⟩ := h3.cn
    exact ⟨h3.cp, k0, k1, k2, k3, k4⟩
  have HK : Hid (∀ W, PK pb base W2 W → (W.cell? ⟨w.heap.size, 0, none⟩ = some (.pointer (some ⟨pb, 0, none⟩)) ∧ W.cell? ⟨w.heap.size + 1, 0, none⟩ = some (.int .i64 51) ∧ W.cell? ⟨w.heap.size + 1, 1, none⟩ = some (.string s) ∧ W.cell? ⟨w.heap.size + 1, 2, none⟩ = some (.int .i64 0) ∧ W.cell? ⟨w.heap.size + 1, 3, none⟩ = some (.int .i64 a) ∧ W.cell? ⟨w.heap.size + 1, 4, none⟩ = some (.slice (some ⟨b, o, none⟩) 2 c) ∧ W.cell? ⟨b, o, none⟩ = some (.int .i64 x.kind) ∧ W.cell? ⟨b, o + 1, none⟩ = some (.string x.text) ∧ W.cell? ⟨b, o + 2, none⟩ = some (.int .i64 x.num) ∧ W.cell? ⟨b, o + 3, none⟩ = some (.int .i64 x.at_) ∧ W.cell? ⟨b, o + 4, none⟩ = some (.slice x.ptr x.kids.length x.cap))) := fun W hW => by
    obtain ⟨p0, k0, k1, k2, k3, k4⟩ := HB.out W hW
    obtain ⟨⟨c0, c1, c2, c3, c4⟩, _⟩ := (MT.InL.below (hW.below (by omega) (Nat.le_refl _)) b o hb [x, y] HL2.out).get 0 (by simp)
    simp only [Nat.zero_mul, Nat.add_zero] at c0 c1 c2 c3 c4
    exact ⟨p0, k0, k1, k2, k3, k4, c0, c1, c2, c3, c4⟩
  obtain ⟨p0, k0, k1, k2, k3, k4, c0, c1, c2, c3, c4⟩ := HK.out W2 (PK.refl _ _ _)
  have HXP : Hid (∀ W, Below W2.heap.size W2 W → Calls Tryz.prog 101 #[.pointer (some ⟨pb, 0, none⟩), nodeV x, .bool (decide (lev x < lt))] W fun e w' => (∃ u, e = .returned u) ∧ ∃ v', Pr pb base (bs ++ brk (decide (lev x < lt)) bx) false v' w' ∧ PK pb base W2 w') := fun W hW =>
    (part_any pb base x bx bs HX (decide (lev x < lt)) v W (hP2.below hW) hpb (by have := hW.size; omega) (MT.In.below (hW.mono (by omega)) x (HL2.out.get 0 (by simp)).2) (by omega)).mono
      fun _ _ ⟨h1, v', h3, h4⟩ => ⟨h1, v', h3, (PK.of hW (by omega)).trans h4⟩
  have HS : Hid (Two pb w.heap.size (w.heap.size + 1) (.node 51 s 0 a (some ⟨b, o, none⟩) c [x, y]) W2 ∧ Pr pb base bs false v W2 ∧ PK pb base w W2) := ⟨h2, hP2, hK2⟩
  have hBW : base ≤ W2.heap.size := by omega
  have hbW : b < W2.heap.size := by omega
  clear h2 hP2 hK2 hb2
  go_region_held3 (fun W => W.cell? ⟨w.heap.size, 0, none⟩ = some (.pointer (some ⟨pb, 0, none⟩)) ∧ W.cell? ⟨w.heap.size + 1, 0, none⟩ = some (.int .i64 51) ∧ W.cell? ⟨w.heap.size + 1, 1, none⟩ = some (.string s) ∧ W.cell? ⟨w.heap.size + 1, 2, none⟩ = some (.int .i64 0) ∧ W.cell? ⟨w.heap.size + 1, 3, none⟩ = some (.int .i64 a) ∧ W.cell? ⟨w.heap.size + 1, 4, none⟩ = some (.slice (some ⟨b, o, none⟩) 2 c) ∧ W.cell? ⟨b, o, none⟩ = some (.int .i64 x.kind) ∧ W.cell? ⟨b, o + 1, none⟩ = some (.string x.text) ∧ W.cell? ⟨b, o + 2, none⟩ = some (.int .i64 x.num) ∧ W.cell? ⟨b, o + 3, none⟩ = some (.int .i64 x.at_) ∧ W.cell? ⟨b, o + 4, none⟩ = some (.slice x.ptr x.kids.length x.cap))
    (first | exact HK.out _ hkF | exact HK.out _ (PK.of hbB hBW) | exact HK.out _ (PK.of hbA hBW) | exact HK.out _ (PK.drew _ _ _))
    (first
      | (go_at_call_of 147 (MT.kind x); refine (HLx.out _).mono ?_; rintro e w1 ⟨rfl, hb0⟩; have hbA : Below W2.heap.size W2 w1 := ((Below.refl _ _).drew).trans (hb0.mono (by simp)))
      | (go_at_call 147; refine (HLt.out _).mono ?_; rintro e w2 ⟨rfl, hb1⟩; have hbB : Below W2.heap.size W2 w2 := hbA.trans (hb1.mono hbA.size))
      | (go_at_call 101; refine (HXP.out _ hbB).mono ?_; rintro e w3 ⟨⟨u, rfl⟩, v3, hP3, hkF⟩))
  clear p0 k0 k1 k2 k3 k4 c0 c1 c2 c3 c4 hb0 hb1 hbA hbB
  obtain ⟨p0, k0, k1, k2, k3, k4⟩ := HB.out w3 hkF
  have hz3 := hkF.size
  have hb4 := below1 w3 (.cells #[.string ⟨#[32]⟩, .string s, .string ⟨#[32]⟩] 9)
  have hP4 := hP3.below hb4
  have hK4 := hkF.trans (PK.of (pb := pb) hb4 (by omega))
  have hr4 := heap_alloc_new w3 (.cells #[.string ⟨#[32]⟩, .string s, .string ⟨#[32]⟩] 9)
  have HX4 : Hid (Pr pb base (bs ++ brk (decide (lev x < lt)) bx) false v3 (w3.alloc (.cells #[.string ⟨#[32]⟩, .string s, .string ⟨#[32]⟩] 9)) ∧ PK pb base W2 (w3.alloc (.cells #[.string ⟨#[32]⟩, .string s, .string ⟨#[32]⟩] 9)) ∧ (w3.alloc (.cells #[.string ⟨#[32]⟩, .string s, .string ⟨#[32]⟩] 9)).heap[w3.heap.size]? = some (.cells #[.string ⟨#[32]⟩, .string s, .string ⟨#[32]⟩] 9 (0, 0))) := ⟨hP4, hK4, hr4⟩
  clear hP3 hkF hb4 hP4 hK4 hr4 HXP HK
  go_wp2_with fail
  refine (put_any pb base w3.heap.size [⟨#[32]⟩, s, ⟨#[32]⟩] (bs ++ brk (decide (lev x < lt)) bx) false v3 _ HX4.out.1 hpb (by simp; omega) (by omega) HX4.out.2.2 (by simp [joinAll]; omega) (by simp)).mono ?_
  rintro e w5 ⟨⟨u5, rfl⟩, v5, hP5, hK5⟩
  have hK6 := HX4.out.2.1.trans hK5
  have hz5 := hK6.size
  have e5 : bs ++ brk (decide (lev x < lt)) bx ++ joinAll [⟨#[32]⟩, s, ⟨#[32]⟩] = bs ++ brk (decide (lev x < lt)) bx ++ ([32] ++ s.data.toList ++ [32]) := by simp [joinAll]
  rw [e5] at hP5
  have HK : Hid (∀ W, PK pb base w5 W → (W.cell? ⟨w.heap.size, 0, none⟩ = some (.pointer (some ⟨pb, 0, none⟩)) ∧ W.cell? ⟨w.heap.size + 1, 0, none⟩ = some (.int .i64 51) ∧ W.cell? ⟨w.heap.size + 1, 1, none⟩ = some (.string s) ∧ W.cell? ⟨w.heap.size + 1, 2, none⟩ = some (.int .i64 0) ∧ W.cell? ⟨w.heap.size + 1, 3, none⟩ = some (.int .i64 a) ∧ W.cell? ⟨w.heap.size + 1, 4, none⟩ = some (.slice (some ⟨b, o, none⟩) 2 c) ∧ W.cell? ⟨b, o + 5, none⟩ = some (.int .i64 y.kind) ∧ W.cell? ⟨b, o + 5 + 1, none⟩ = some (.string y.text) ∧ W.cell? ⟨b, o + 5 + 2, none⟩ = some (.int .i64 y.num) ∧ W.cell? ⟨b, o + 5 + 3, none⟩ = some (.int .i64 y.at_) ∧ W.cell? ⟨b, o + 5 + 4, none⟩ = some (.slice y.ptr y.kids.length y.cap))) := fun W hW => by
    obtain ⟨p0, k0, k1, k2, k3, k4⟩ := HB.out W (hK6.trans hW)
    obtain ⟨⟨c0, c1, c2, c3, c4⟩, _⟩ := (MT.InL.below ((hK6.trans hW).below (by omega) (Nat.le_refl _)) b o hb [x, y] HL2.out).get 1 (by simp)
    simp only [Nat.one_mul] at c0 c1 c2 c3 c4
    exact ⟨p0, k0, k1, k2, k3, k4, c0, c1, c2, c3, c4⟩
  have HYP : Hid (∀ W, Below w5.heap.size w5 W → Calls Tryz.prog 101 #[.pointer (some ⟨pb, 0, none⟩), nodeV y, .bool (decide (lev y ≤ lt))] W fun e w' => (∃ u, e = .returned u) ∧ ∃ v', Pr pb base (bs ++ brk (decide (lev x < lt)) bx ++ ([32] ++ s.data.toList ++ [32]) ++ brk (decide (lev y ≤ lt)) bY) false v' w' ∧ PK pb base w5 w') := fun W hW =>
    (part_any pb base y bY (bs ++ brk (decide (lev x < lt)) bx ++ ([32] ++ s.data.toList ++ [32])) HY (decide (lev y ≤ lt)) v5 W (hP5.below hW) hpb (by have := hW.size; omega) (MT.In.below ((hK6.below (by omega) (Nat.le_refl _)).trans (hW.mono (by omega))) y (HL2.out.get 1 (by simp)).2) (by simp only [List.length_append, List.length_cons, List.length_nil]; omega)).mono
      fun _ _ ⟨h1, v', h3, h4⟩ => ⟨h1, v', h3, (PK.of hW (by omega)).trans h4⟩
  have HS6 : Hid (PK pb base w w5) := HS.out.2.2.trans hK6
  have hBW5 : base ≤ w5.heap.size := by omega
  have hbW5 : b < w5.heap.size := by omega
  clear p0 k0 k1 k2 k3 k4 hP5 hK5 hK6 HX4 HB e5
  go_wp2_with fail
  obtain ⟨p0, k0, k1, k2, k3, k4, c0, c1, c2, c3, c4⟩ := HK.out w5 (PK.refl _ _ _)
  go_region_held3 (fun W => W.cell? ⟨w.heap.size, 0, none⟩ = some (.pointer (some ⟨pb, 0, none⟩)) ∧ W.cell? ⟨w.heap.size + 1, 0, none⟩ = some (.int .i64 51) ∧ W.cell? ⟨w.heap.size + 1, 1, none⟩ = some (.string s) ∧ W.cell? ⟨w.heap.size + 1, 2, none⟩ = some (.int .i64 0) ∧ W.cell? ⟨w.heap.size + 1, 3, none⟩ = some (.int .i64 a) ∧ W.cell? ⟨w.heap.size + 1, 4, none⟩ = some (.slice (some ⟨b, o, none⟩) 2 c) ∧ W.cell? ⟨b, o + 5, none⟩ = some (.int .i64 y.kind) ∧ W.cell? ⟨b, o + 5 + 1, none⟩ = some (.string y.text) ∧ W.cell? ⟨b, o + 5 + 2, none⟩ = some (.int .i64 y.num) ∧ W.cell? ⟨b, o + 5 + 3, none⟩ = some (.int .i64 y.at_) ∧ W.cell? ⟨b, o + 5 + 4, none⟩ = some (.slice y.ptr y.kids.length y.cap))
    (first | exact HK.out _ hkG | exact HK.out _ (PK.of hbD hBW5) | exact HK.out _ (PK.of hbC hBW5) | exact HK.out _ (PK.drew _ _ _))
    (first
      | (go_at_call_of 147 (MT.kind y); refine (HLy.out _).mono ?_; rintro e w6 ⟨rfl, hb0⟩; have hbC : Below w5.heap.size w5 w6 := ((Below.refl _ _).drew).trans (hb0.mono (by simp)))
      | (go_at_call 147; refine (HLt.out _).mono ?_; rintro e w7 ⟨rfl, hb1⟩; have hbD : Below w5.heap.size w5 w7 := hbC.trans (hb1.mono hbC.size))
      | (go_at_call 101; refine (HYP.out _ hbD).mono ?_; rintro e w8 ⟨⟨u8, rfl⟩, v8, hP8, hkG⟩))
  have HE : Hid (Pr pb base (bs ++ (brk (decide (lev x < lt)) bx ++ 32 :: (s.data.toList ++ [32]) ++ brk (decide (lev y ≤ lt)) bY)) false v8 w8 ∧ PK pb base w w8) := ⟨by simpa using hP8, HS6.out.trans hkG⟩
  clear hP8 hkG
  go_wp2_with fail
  go_end0
  exact ⟨⟨_, rfl⟩, v8, HE.out⟩

theorem plain_wr (pb base : Nat) (hpb : pb < base) {t : MT} {out : List UInt8} (h : Wr t out) : Plain pb base t out := by
  induction h with
  | name s a p c hs => exact plain_name pb base hpb s a p c
  | bin s a p c x y bx bY hs hx hy ihx ihy =>
    intro bs v w hP hB hin hl
    have hk := hin.kidsL
    simp only [MT.kids_node, MT.ptr_node] at hk
    rcases hk with hk | ⟨b, o, rfl, hb, hL⟩
    · cases hk
    · exact plain_bin pb base hpb s a b o c x y bx bY hs hx hy ihx ihy bs v w hP hB hb hL hl
end Go.Proofs.YthbnegggohegkaaGreatDoor
namespace Go.Proofs.YthbnegggohegkaaGreatDoor
open Go.RowKit

set_option maxRecDepth 100000 in
set_option maxHeartbeats 1000000 in
theorem expression_any (pb base : Nat) (t : MT) (out bs : List UInt8) (HPl : Plain pb base t out) (v : Value) (w : World) (hP : Pr pb base bs false v w) (hpb : pb < base) (hB : base ≤ w.heap.size) (hin : t.In pb w) (hl : bs.length + out.length ≤ 50000) :
    Calls Tryz.prog 71 #[.pointer (some ⟨pb, 0, none⟩), nodeV t] w fun e w' => (∃ u, e = .returned u) ∧ ∃ v', Pr pb base (bs ++ out) false v' w' ∧ PK pb base w w' := by
  have HP : Hid (Plain pb base t out) := HPl
  clear HPl
  have hb1 := below1 w (nodeO t)
  have hP1 := hP.below hb1
  have hK1 := PK.of (pb := pb) hb1 hB
  have hin1 := In.pk hin hK1 hpb
  go_enter Tryz.func71, Tryz.ntmps71
  go_wp2_with fail
  refine (part_any pb base t out bs HP.out false v _ hP1 hpb (by simp; omega) hin1 hl).mono ?_
  rintro e w3 ⟨⟨u, rfl⟩, v3, hP3, hK3⟩
  have HE : Hid (Pr pb base (bs ++ out) false v3 w3 ∧ PK pb base w w3) := ⟨hP3, hK1.trans hK3⟩
  clear hP3 hK3 hP1 hK1
  go_wp2_with fail
  go_end0
  exact ⟨⟨_, rfl⟩, v3, HE.out⟩

set_option maxRecDepth 100000 in
set_option maxHeartbeats 1000000 in
theorem own_bin (pb base : Nat) (s : ByteArray) (a : Int) (p : Option Addr) (c : Nat) (x y : MT) (out bs : List UInt8) (HPl : Plain pb base (.node 51 s 0 a p c [x, y]) out) (v : Value) (w : World) (hP : Pr pb base bs false v w) (hpb : pb < base) (hB : base ≤ w.heap.size) (hin : (MT.node 51 s 0 a p c [x, y]).In pb w) (hl : bs.length + out.length ≤ 50000) :
    Calls Tryz.prog 41 #[.pointer (some ⟨pb, 0, none⟩), .agg (binN s a p c)] w fun e w' => (∃ u, e = .returned u) ∧ ∃ v', Pr pb base (bs ++ out) false v' w' ∧ PK pb base w w' := by
  have HP : Hid (Plain pb base (.node 51 s 0 a p c [x, y]) out) := HPl
  clear HPl
  have hb2 := below2 w (.cells #[.pointer (some ⟨pb, 0, none⟩)] 114) (.cells (binN s a p c) 24)
  have hP2 := hP.below hb2
  have hK2 := PK.of (pb := pb) hb2 hB
  have hin2 := In.pk hin hK2 hpb
  go_enter Tryz.func41, Tryz.ntmps41
  go_wp2_with fail
  refine (takes_2_51 _).mono ?_
  rintro e w3 ⟨rfl, rfl⟩
  go_wp2_with fail
  refine (takes_3_51 _).mono ?_
  rintro e w3 ⟨rfl, rfl⟩
  go_wp2_with fail
  refine (takes_12_51 _).mono ?_
  rintro e w3 ⟨rfl, rfl⟩
  go_wp2_with fail
  refine (expression_any pb base (.node 51 s 0 a p c [x, y]) out bs HP.out v _ hP2 hpb (by simp; omega) hin2 hl).mono ?_
  rintro e w3 ⟨⟨u, rfl⟩, v3, hP3, hK3⟩
  have HE : Hid (Pr pb base (bs ++ out) false v3 w3 ∧ PK pb base w w3) := ⟨hP3, hK2.trans hK3⟩
  clear hP3 hK3 hP2 hK2
  go_wp2_with fail
  go_end0
  exact ⟨⟨_, rfl⟩, v3, HE.out⟩

set_option maxRecDepth 100000 in
set_option maxHeartbeats 1000000 in
theorem print_bin {gw ow gs os : Nat} (s : ByteArray) (a : Int) (p : Option Addr) (c : Nat) (x y : MT) (out : List UInt8) (hW : Wr (.node 51 s 0 a p c [x, y]) out) (hsz : (MT.node 51 s 0 a p c [x, y]).size ≤ 60) (w : World) (ht : TabsAt gw ow gs os w) (hin : (MT.node 51 s 0 a p c [x, y]).In w.heap.size w) (hl : out.length ≤ 50000) :
    Calls Tryz.prog 26 #[.agg (binN s a p c)] w fun e w' => e = .returned (.tuple #[.string ⟨out.toArray⟩, .nilIface]) ∧ Below w.heap.size w w' := by
  have HR := right_sim (gw := gw) (ow := ow) (gs := gs) (os := os) _ hW.sim hsz
  have hb1 := below1 w (.cells (binN s a p c) 24)
  have ht1 := ht.below (Nat.le_refl _) hb1
  have hin1 := MT.In.mono (B' := (w.alloc (.cells (binN s a p c) 24)).heap.size) (by simp) _ (MT.In.below hb1 _ hin)
  go_enter Tryz.func26, Tryz.ntmps26
  go_wp2_with fail
  refine (HR _ ht1 hin1).mono ?_
  rintro e w2 ⟨rfl, hb2⟩
  have hB2 := hb1.trans (hb2.mono (by simp))
  have hz2 := hb2.size
  simp only [World.size_alloc] at hz2
  have hrow : (w2.alloc (.cells #[.slice none 0 0, .int .i64 0, .bool false] 84)).heap[w.heap.size]? = some (.cells (binN s a p c) 24 (0, 0)) :=
    (Below.heap_alloc _ _ _ (by omega)).trans ((hb2.block w.heap.size (by simp)).trans (heap_alloc_new w _))
  have hP3 : Pr w2.heap.size (w2.heap.size + 1) [] false (.slice none 0 0) (w2.alloc (.cells #[.slice none 0 0, .int .i64 0, .bool false] 84)) := ⟨heap_alloc_new w2 _, World.ownsRow_nil _ _ _ _⟩
  have hb3 := below1 w2 (.cells #[.slice none 0 0, .int .i64 0, .bool false] 84)
  have hin3 := MT.In.mono (B' := w2.heap.size) (by omega) _ (MT.In.below (hB2.trans (hb3.mono (by omega))) _ hin)
  have HPl := plain_wr w2.heap.size (w2.heap.size + 1) (by omega) hW
  obtain ⟨k0, k1, k2, k3, k4⟩ : BoxAt (w2.alloc (.cells #[.slice none 0 0, .int .i64 0, .bool false] 84)) w.heap.size (.node 51 s 0 a p c [x, y]) := ((BoxAt.new w (.node 51 s 0 a p c [x, y])).below (by simp) hb2).below (by omega) hb3
  clear ht1 hin1 hb1 HR
  go_wp2_with fail
  refine (own_bin w2.heap.size (w2.heap.size + 1) s a p c x y out [] HPl _ _ hP3 (by omega) (by simp) hin3 (by simpa using hl)).mono ?_
  rintro e w4 ⟨⟨u, rfl⟩, v4, hP4, hK4⟩
  have hP4' : Pr w2.heap.size (w2.heap.size + 1) out false v4 w4 := hP4
  clear hP4
  go_wp2_with fail
  refine (isFull_any w2.heap.size (w2.heap.size + 1) out false v4 _ hP4' (by omega)).mono ?_
  rintro e w5 ⟨rfl, rfl⟩
  have hc4 := hP4'.cell
  have hcv := conv_own hP4'.own
  have HE : Hid (Below w.heap.size w w5) := (hB2.trans (hb3.mono (by omega))).trans (hK4.below (by omega) (by omega))
  clear hK4 hP4' hb3 hB2 hb2 hP3 hrow k0 k1 k2 k3 k4
  go_wp2_with fail
  go_ret2
  exact ⟨rfl, HE.out⟩
end Go.Proofs.YthbnegggohegkaaGreatDoor
