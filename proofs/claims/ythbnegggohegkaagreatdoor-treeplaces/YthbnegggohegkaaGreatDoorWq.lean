/-
  The law TreePlaces.
-/
import Derived.Test.YthbnegggohegkaaGreatDoorWoJ
import Derived.Test.YthbnegggohegkaaGreatDoorWp
import Derived.Test.YthbnegggohegkaaGreatDoorEx
import Derived.Test.YthbnegggohegkaaGreatDoorSyJ
namespace Go.Proofs.YthbnegggohegkaaGreatDoor
open Go.RowKit
theorem rowCells3 {w : World} {b : Nat} {v0 v1 v2 : Value} {t : TypeId} (h : w.heap[b]? = some (.cells #[v0, v1, v2] t (0, 0))) : w.cell? ⟨b, 0, none⟩ = some v0 ∧ w.cell? ⟨b, 1, none⟩ = some v1 ∧ w.cell? ⟨b, 2, none⟩ = some v2 ∧ w.frozen? ⟨b, 1, none⟩ = false := by simp [World.cell?, World.frozen?, h]
set_option maxRecDepth 100000 in
set_option maxHeartbeats 4000000 in
theorem told_zero (w : World) : Calls Tryz.prog 25 #[.nilIface] w fun e w' => e = .returned (.tuple #[.agg #[.int .i64 0, .int .i64 0, .string ⟨#[]⟩], .bool true]) ∧ Below w.heap.size w w' := by
  go_enter Tryz.func25, Tryz.ntmps25
  go_wp2_with fail
  refine bodyPost_ret (v := .tuple #[.agg #[.int .i64 0, .int .i64 0, .string ⟨#[]⟩], .bool true]) (by simp [results, Tryz.results25, go_sem]) rfl ⟨rfl, ?_⟩
  first | exact below1 _ _ | exact below2 _ _ _ | exact below3 _ _ _ _ | exact Below.refl _ _
/-- What the law's words lie in, while it runs. -/
structure Pl (w : World) (t : MT) (gw ow gs os : Nat) (W : World) : Prop where
  below : Below w.heap.size w W
  box : W.heap[w.heap.size]? = some (.cells #[.int .i64 t.kind, .string t.text, .int .i64 t.num, .int .i64 t.at_, .slice t.ptr t.kids.length t.cap] 24 (0, 0))
  tabs : TabsAt gw ow gs os W
  hand : W.cell? ⟨0, 0, none⟩ = some (.iface 129 (.agg #[hnd 33]))
  inn : t.In W.heap.size W
theorem Pl.step {w : World} {t : MT} {gw ow gs os : Nat} {W W' : World} (h : Pl w t gw ow gs os W) (hb : Below W.heap.size W W') : Pl w t gw ow gs os W' :=
  ⟨h.below.trans (hb.mono h.below.size), (hb.block _ (lt_of h.box)).trans h.box, h.tabs.below (Nat.le_refl _) hb, (hb.cell (p := ⟨0, 0, none⟩) (by have := lt_of h.box; show 0 < _; omega)).trans h.hand, MT.In.mono hb.size t (MT.In.below hb t h.inn)⟩
/-- Both trees. -/
structure Pm (w : World) (t y : MT) (bx gw ow gs os : Nat) (W : World) : Prop extends Pl w t gw ow gs os W where
  ybox : W.heap[bx]? = some (.cells #[.int .i64 y.kind, .string y.text, .int .i64 y.num, .int .i64 y.at_, .slice y.ptr y.kids.length y.cap] 24 (0, 0))
  yin : y.In W.heap.size W
theorem Pm.step {w : World} {t y : MT} {bx gw ow gs os : Nat} {W W' : World} (h : Pm w t y bx gw ow gs os W) (hb : Below W.heap.size W W') : Pm w t y bx gw ow gs os W' :=
  ⟨h.toPl.step hb, (hb.block _ (lt_of h.ybox)).trans h.ybox, MT.In.mono hb.size y (MT.In.below hb y h.yin)⟩
set_option maxRecDepth 100000 in
set_option maxHeartbeats 8000000 in
theorem places_big {gw ow gs os : Nat} (t : MT) (m : Int) (w : World) (ht : TabsAt gw ow gs os w) (hg : w.cell? ⟨0, 0, none⟩ = some (.iface 129 (.agg #[hnd 33]))) (hin : t.In w.heap.size w) (hs : 30000 < t.size) :
    Calls Tryz.prog 7 #[nodeV t, .int .i64 m] w fun e w' => e = .returned (.bool true) ∧ Below w.heap.size w w' := by
  have HP0 : Hid (Pl w t gw ow gs os (w.alloc (nodeO t))) := by
    have hb := below1 w (nodeO t)
    exact ⟨hb, heap_alloc_new w _, ht.below (Nat.le_refl _) hb, (hb.cell (p := ⟨0, 0, none⟩) (by have := ht.two; show 0 < _; omega)).trans hg, MT.In.mono (by simp) t (MT.In.below hb t hin)⟩
  clear ht hg hin
  go_enter Tryz.func7, Tryz.ntmps7
  go_wp2_with fail
  refine (examples_any _ HP0.out.tabs HP0.out.hand).mono ?_
  rintro e w1 ⟨rfl, hb1⟩
  have HP1 : Hid _ := HP0.out.step hb1
  clear hb1 HP0
  obtain ⟨k0, k1, k2, k3, k4⟩ := cells5 HP1.out.box
  go_wp2_with fail
  refine (refCount_any t w1 HP1.out.inn).mono ?_
  rintro e w2 ⟨r, rfl, hr0, hr1, HRr, hb2⟩
  have hrr : (30000 : Int) < r := by have := HRr.out; omega
  have HE : Hid (Below w.heap.size w w2) := (HP1.out.step hb2).below
  clear hb2 k0 k1 k2 k3 k4
  go_wp2_with fail
  go_ret
  exact ⟨rfl, HE.out⟩
theorem PrintP.short {w w' : World} {out : List UInt8} {e : Ending} (h : PrintP w out e w') (hl : out.length ≤ 60000) : e = .returned (.tuple #[.string ⟨out.toArray⟩, .nilIface]) := by
  rcases h with ⟨_, h⟩ | ⟨h, _⟩
  · exact h
  · omega
theorem PrintP.long {w w' : World} {out : List UInt8} {e : Ending} (h : PrintP w out e w') (hl : 60000 < out.length) : ∃ B, e = .returned (.tuple #[.string ⟨#[]⟩, .iface 67 (.pointer (some ⟨B, 0, none⟩))]) ∧ w'.heap[B]? = some (.cells #[.int .i64 13, .int .i64 0, .string ⟨#[]⟩] 28 (0, 0)) := by
  rcases h with ⟨h, _⟩ | ⟨_, B, h1, _, h3⟩
  · omega
  · exact ⟨B, h1, h3⟩
set_option maxRecDepth 100000 in
set_option maxHeartbeats 8000000 in
theorem places_short {gw ow gs os : Nat} (t : MT) (m : Int) (w : World) (ht : TabsAt gw ow gs os w) (hg : w.cell? ⟨0, 0, none⟩ = some (.iface 129 (.agg #[hnd 33]))) (hin : t.In w.heap.size w) (hs : t.size ≤ 30000) (b : Nat) (hr : rightSpec t = .ok b) (out : List UInt8) (hout : ∀ (x : MT) (b' : Nat), Lk 60 t x → rightSpec x = .ok b' → ∀ (w : World), TabsAt gw ow gs os w → x.In w.heap.size w → Calls Tryz.prog 26 #[nodeV x] w fun e w' => PrintP w out e w' ∧ Below w.heap.size w w') (hlen : out.length ≤ 60000) :
    Calls Tryz.prog 7 #[nodeV t, .int .i64 m] w fun e w' => e = .returned (.bool true) ∧ Below w.heap.size w w' := by
  have HOUT : Hid _ := hout
  clear hout
  have HP0 : Hid (Pl w t gw ow gs os (w.alloc (nodeO t))) := by
    have hb := below1 w (nodeO t)
    exact ⟨hb, heap_alloc_new w _, ht.below (Nat.le_refl _) hb, (hb.cell (p := ⟨0, 0, none⟩) (by have := ht.two; show 0 < _; omega)).trans hg, MT.In.mono (by simp) t (MT.In.below hb t hin)⟩
  have HLT : Hid (Lk 60 t t) := by
    have : ∀ (f : Nat) (x : MT), Lk f x x := fun f => by
      induction f with
      | zero => intro x; exact ⟨⟨rfl, rfl, rfl⟩, rfl⟩
      | succ f ih => intro x; exact ⟨⟨rfl, rfl, rfl⟩, rfl, fun i hi hx => ih _⟩
    exact this 60 t
  clear ht hg hin
  go_enter Tryz.func7, Tryz.ntmps7
  go_wp2_with fail
  refine (examples_any _ HP0.out.tabs HP0.out.hand).mono ?_
  rintro e w1 ⟨rfl, hb1⟩
  have HP1 : Hid _ := HP0.out.step hb1
  clear hb1 HP0
  obtain ⟨k0, k1, k2, k3, k4⟩ := cells5 HP1.out.box
  go_wp2_with fail
  refine (refCount_any t w1 HP1.out.inn).mono ?_
  rintro e w2 ⟨r, rfl, hr0, hr1, HRr, hb2⟩
  have hrr : ¬ (30000 : Int) < r := by have := HRr.out; omega
  have HP2 : Hid _ := HP1.out.step hb2
  clear hb2 k0 k1 k2 k3 k4 HP1
  obtain ⟨k0, k1, k2, k3, k4⟩ := cells5 HP2.out.box
  go_wp2_with fail
  refine (moved_any m 30000 (Nat.le_refl _) t w2 hs HP2.out.inn).mono ?_
  rintro e w3 ⟨y, rfl, HMV, HAT, hb3⟩
  have HP3 : Hid _ := HP2.out.step hb3
  have hiny : y.In w3.heap.size w3 := MT.Atm.toIn (fun q hq => hq.2) y HAT.out
  have HM3 : Hid (Pm w t y w3.heap.size gw ow gs os (w3.alloc (nodeO y))) := ⟨HP3.out.step (below1 _ _), heap_alloc_new w3 _, MT.In.mono (by simp) y (MT.In.below (below1 _ _) y hiny)⟩
  have HRY : Hid (rightSpec y = .ok b) := by
    show rightSpec y = .ok b
    have h9 := right_mv HMV.out
    rw [hr] at h9
    cases h8 : rightSpec y with
    | error e => rw [h8] at h9; exact h9.elim
    | ok b' => rw [h8] at h9; obtain rfl : b = b' := h9; rfl
  have HLY : Hid (Lk 60 t y) := MvA.lk 60 HMV.out
  have HSY : Hid (MT.same t y = true ∧ MT.same y t = true) := by
    have h9 := mv_same HMV.out hs
    exact ⟨h9, by rw [MT.same_comm]; exact h9⟩
  have HRT : Hid (rightSpec t = .ok b) := hr
  clear hb3 k0 k1 k2 k3 k4 HP2 HAT hiny hr
  obtain ⟨k0, k1, k2, k3, k4⟩ := cells5 HP3.out.box
  have hz3 := lt_of HP3.out.box
  go_wp2_with fail
  refine Calls.mono ((by rw [← HRT.out]; exact right_any t _ HM3.out.tabs HM3.out.inn : Calls Tryz.prog 13 #[nodeV t] _ (RightP _ (.ok b)))) ?_
  rintro e w4 ⟨hb, rfl⟩
  have HA4 : Hid (Pm w t y w3.heap.size gw ow gs os w4) := HM3.out.step hb
  clear k0 k1 k2 k3 k4 hz3 HP3 HM3 hb  
  obtain ⟨k0, k1, k2, k3, k4⟩ := cells5 HA4.out.box
  obtain ⟨y0, y1, y2, y3, y4⟩ := cells5 HA4.out.ybox
  have hzk4 := lt_of HA4.out.box
  have hzy4 := lt_of HA4.out.ybox
  have HM4 := HA4
  go_wp2_with fail
  refine Calls.mono (told_zero _) ?_
  rintro e w5 ⟨rfl, hb⟩
  have HA5 : Hid (Pm w t y w3.heap.size gw ow gs os w5) := HM4.out.step hb
  clear k0 k1 k2 k3 k4 y0 y1 y2 y3 y4 HM4 hb  
  obtain ⟨k0, k1, k2, k3, k4⟩ := cells5 HA5.out.box
  obtain ⟨y0, y1, y2, y3, y4⟩ := cells5 HA5.out.ybox
  have hzk5 := lt_of HA5.out.box
  have hzy5 := lt_of HA5.out.ybox
  have HM5 : Hid (Pm w t y w3.heap.size gw ow gs os (w5.alloc (.cells #[.int .i64 0, .int .i64 0, .string ⟨#[]⟩] 28))) := HA5.out.step (below1 _ _)
  have T5e : Hid _ := heap_alloc_new w5 (.cells #[.int .i64 0, .int .i64 0, .string ⟨#[]⟩] 28)
  go_wp2_with fail
  refine Calls.mono ((by rw [← HRY.out]; exact right_any y _ HM5.out.tabs HM5.out.yin : Calls Tryz.prog 13 #[nodeV y] _ (RightP _ (.ok b)))) ?_
  rintro e w6 ⟨hb, rfl⟩
  have HA6 : Hid (Pm w t y w3.heap.size gw ow gs os w6) := HM5.out.step hb
  have T6e : Hid _ := (hb.block _ (lt_of T5e.out)).trans T5e.out
  clear k0 k1 k2 k3 k4 y0 y1 y2 y3 y4 HM5 hb T5e 
  obtain ⟨k0, k1, k2, k3, k4⟩ := cells5 HA6.out.box
  obtain ⟨y0, y1, y2, y3, y4⟩ := cells5 HA6.out.ybox
  have hzk6 := lt_of HA6.out.box
  have hzy6 := lt_of HA6.out.ybox
  have HM6 := HA6
  go_wp2_with fail
  refine Calls.mono (told_zero _) ?_
  rintro e w7 ⟨rfl, hb⟩
  have HA7 : Hid (Pm w t y w3.heap.size gw ow gs os w7) := HM6.out.step hb
  have T7e : Hid _ := (hb.block _ (lt_of T6e.out)).trans T6e.out
  clear k0 k1 k2 k3 k4 y0 y1 y2 y3 y4 HM6 hb T6e 
  obtain ⟨k0, k1, k2, k3, k4⟩ := cells5 HA7.out.box
  obtain ⟨y0, y1, y2, y3, y4⟩ := cells5 HA7.out.ybox
  have hzk7 := lt_of HA7.out.box
  have hzy7 := lt_of HA7.out.ybox
  have HM7 : Hid (Pm w t y w3.heap.size gw ow gs os (w7.alloc (.cells #[.int .i64 0, .int .i64 0, .string ⟨#[]⟩] 28))) := HA7.out.step (below1 _ _)
  have hq7e := lt_of T7e.out
  have T7e : Hid _ := ((below1 w7 (.cells #[.int .i64 0, .int .i64 0, .string ⟨#[]⟩] 28)).block _ (lt_of T7e.out)).trans T7e.out
  have T7f : Hid _ := heap_alloc_new w7 (.cells #[.int .i64 0, .int .i64 0, .string ⟨#[]⟩] 28)
  go_wp2_with fail
  refine Calls.mono (HOUT.out t b HLT.out HRT.out _ HM7.out.tabs HM7.out.inn) ?_
  rintro e w8 ⟨hpr, hb⟩
  obtain rfl := hpr.short hlen
  have HA8 : Hid (Pm w t y w3.heap.size gw ow gs os w8) := HM7.out.step hb
  have T8e : Hid _ := (hb.block _ (lt_of T7e.out)).trans T7e.out
  have T8f : Hid _ := (hb.block _ (lt_of T7f.out)).trans T7f.out
  clear k0 k1 k2 k3 k4 y0 y1 y2 y3 y4 HM7 hb T7e T7f 
  obtain ⟨k0, k1, k2, k3, k4⟩ := cells5 HA8.out.box
  obtain ⟨y0, y1, y2, y3, y4⟩ := cells5 HA8.out.ybox
  have hzk8 := lt_of HA8.out.box
  have hzy8 := lt_of HA8.out.ybox
  have HM8 := HA8
  go_wp2_with fail
  refine Calls.mono (HOUT.out y b HLY.out HRY.out _ HM8.out.tabs HM8.out.yin) ?_
  rintro e w9 ⟨hpr, hb⟩
  obtain rfl := hpr.short hlen
  have HA9 : Hid (Pm w t y w3.heap.size gw ow gs os w9) := HM8.out.step hb
  have T9e : Hid _ := (hb.block _ (lt_of T8e.out)).trans T8e.out
  have T9f : Hid _ := (hb.block _ (lt_of T8f.out)).trans T8f.out
  clear k0 k1 k2 k3 k4 y0 y1 y2 y3 y4 HM8 hb T8e T8f 
  obtain ⟨k0, k1, k2, k3, k4⟩ := cells5 HA9.out.box
  obtain ⟨y0, y1, y2, y3, y4⟩ := cells5 HA9.out.ybox
  have hzk9 := lt_of HA9.out.box
  have hzy9 := lt_of HA9.out.ybox
  have HM9 := HA9
  go_wp2_with fail
  refine Calls.mono (told_zero _) ?_
  rintro e w10 ⟨rfl, hb⟩
  have HA10 : Hid (Pm w t y w3.heap.size gw ow gs os w10) := HM9.out.step hb
  have T10e : Hid _ := (hb.block _ (lt_of T9e.out)).trans T9e.out
  have T10f : Hid _ := (hb.block _ (lt_of T9f.out)).trans T9f.out
  clear k0 k1 k2 k3 k4 y0 y1 y2 y3 y4 HM9 hb T9e T9f 
  obtain ⟨k0, k1, k2, k3, k4⟩ := cells5 HA10.out.box
  obtain ⟨y0, y1, y2, y3, y4⟩ := cells5 HA10.out.ybox
  have hzk10 := lt_of HA10.out.box
  have hzy10 := lt_of HA10.out.ybox
  have HM10 : Hid (Pm w t y w3.heap.size gw ow gs os (w10.alloc (.cells #[.int .i64 0, .int .i64 0, .string ⟨#[]⟩] 28))) := HA10.out.step (below1 _ _)
  have hq10e := lt_of T10e.out
  have hq10f := lt_of T10f.out
  have T10e : Hid _ := ((below1 w10 (.cells #[.int .i64 0, .int .i64 0, .string ⟨#[]⟩] 28)).block _ (lt_of T10e.out)).trans T10e.out
  have T10f : Hid _ := ((below1 w10 (.cells #[.int .i64 0, .int .i64 0, .string ⟨#[]⟩] 28)).block _ (lt_of T10f.out)).trans T10f.out
  have T10i : Hid _ := heap_alloc_new w10 (.cells #[.int .i64 0, .int .i64 0, .string ⟨#[]⟩] 28)
  go_wp2_with fail
  refine Calls.mono (told_zero _) ?_
  rintro e w11 ⟨rfl, hb⟩
  have HA11 : Hid (Pm w t y w3.heap.size gw ow gs os w11) := HM10.out.step hb
  have T11e : Hid _ := (hb.block _ (lt_of T10e.out)).trans T10e.out
  have T11f : Hid _ := (hb.block _ (lt_of T10f.out)).trans T10f.out
  have T11i : Hid _ := (hb.block _ (lt_of T10i.out)).trans T10i.out
  clear k0 k1 k2 k3 k4 y0 y1 y2 y3 y4 HM10 hb T10e T10f T10i 
  obtain ⟨k0, k1, k2, k3, k4⟩ := cells5 HA11.out.box
  obtain ⟨y0, y1, y2, y3, y4⟩ := cells5 HA11.out.ybox
  have hzk11 := lt_of HA11.out.box
  have hzy11 := lt_of HA11.out.ybox
  have HM11 : Hid (Pm w t y w3.heap.size gw ow gs os (w11.alloc (.cells #[.int .i64 0, .int .i64 0, .string ⟨#[]⟩] 28))) := HA11.out.step (below1 _ _)
  have hq11e := lt_of T11e.out
  have hq11f := lt_of T11f.out
  have hq11i := lt_of T11i.out
  have T11e : Hid _ := ((below1 w11 (.cells #[.int .i64 0, .int .i64 0, .string ⟨#[]⟩] 28)).block _ (lt_of T11e.out)).trans T11e.out
  have T11f : Hid _ := ((below1 w11 (.cells #[.int .i64 0, .int .i64 0, .string ⟨#[]⟩] 28)).block _ (lt_of T11f.out)).trans T11f.out
  have T11i : Hid _ := ((below1 w11 (.cells #[.int .i64 0, .int .i64 0, .string ⟨#[]⟩] 28)).block _ (lt_of T11i.out)).trans T11i.out
  have T11k : Hid _ := heap_alloc_new w11 (.cells #[.int .i64 0, .int .i64 0, .string ⟨#[]⟩] 28)
  go_wp2_with fail
  refine Calls.mono (same_any t y _ HM11.out.inn HM11.out.yin) ?_
  rintro e w12 ⟨r1, rfl, HR1, hb⟩
  obtain rfl : r1 = true := by rw [HR1.out]; exact HSY.out.1
  have HA12 : Hid (Pm w t y w3.heap.size gw ow gs os w12) := HM11.out.step hb
  have T12e : Hid _ := (hb.block _ (lt_of T11e.out)).trans T11e.out
  have T12f : Hid _ := (hb.block _ (lt_of T11f.out)).trans T11f.out
  have T12i : Hid _ := (hb.block _ (lt_of T11i.out)).trans T11i.out
  have T12k : Hid _ := (hb.block _ (lt_of T11k.out)).trans T11k.out
  clear k0 k1 k2 k3 k4 y0 y1 y2 y3 y4 HM11 hb T11e T11f T11i T11k 
  obtain ⟨k0, k1, k2, k3, k4⟩ := cells5 HA12.out.box
  obtain ⟨y0, y1, y2, y3, y4⟩ := cells5 HA12.out.ybox
  have hzk12 := lt_of HA12.out.box
  have hzy12 := lt_of HA12.out.ybox
  have HM12 := HA12
  go_wp2_with fail
  refine Calls.mono (same_any y t _ HM12.out.yin HM12.out.inn) ?_
  rintro e w13 ⟨r2, rfl, HR2, hb⟩
  obtain rfl : r2 = true := by rw [HR2.out]; exact HSY.out.2
  have HA13 : Hid (Pm w t y w3.heap.size gw ow gs os w13) := HM12.out.step hb
  have T13e : Hid _ := (hb.block _ (lt_of T12e.out)).trans T12e.out
  have T13f : Hid _ := (hb.block _ (lt_of T12f.out)).trans T12f.out
  have T13i : Hid _ := (hb.block _ (lt_of T12i.out)).trans T12i.out
  have T13k : Hid _ := (hb.block _ (lt_of T12k.out)).trans T12k.out
  clear k0 k1 k2 k3 k4 y0 y1 y2 y3 y4 HM12 hb T12e T12f T12i T12k 
  obtain ⟨k0, k1, k2, k3, k4⟩ := cells5 HA13.out.box
  obtain ⟨y0, y1, y2, y3, y4⟩ := cells5 HA13.out.ybox
  have hzk13 := lt_of HA13.out.box
  have hzy13 := lt_of HA13.out.ybox
  have HM13 := HA13
  obtain ⟨e0, e1, e2, e3⟩ := rowCells3 T13e.out
  have hze := lt_of T13e.out
  obtain ⟨f0, f1, f2, f3⟩ := rowCells3 T13f.out
  have hzf := lt_of T13f.out
  obtain ⟨i0, i1, i2, i3⟩ := rowCells3 T13i.out
  have hzi := lt_of T13i.out
  obtain ⟨k0, k1, k2, k3⟩ := rowCells3 T13k.out
  have hzk := lt_of T13k.out
  go_wp2_with fail
  go_ret
  exact ⟨rfl, HM13.out.below⟩
set_option maxRecDepth 100000 in
set_option maxHeartbeats 8000000 in
theorem places_long {gw ow gs os : Nat} (t : MT) (m : Int) (w : World) (ht : TabsAt gw ow gs os w) (hg : w.cell? ⟨0, 0, none⟩ = some (.iface 129 (.agg #[hnd 33]))) (hin : t.In w.heap.size w) (hs : t.size ≤ 30000) (b : Nat) (hr : rightSpec t = .ok b) (out : List UInt8) (hout : ∀ (x : MT) (b' : Nat), Lk 60 t x → rightSpec x = .ok b' → ∀ (w : World), TabsAt gw ow gs os w → x.In w.heap.size w → Calls Tryz.prog 26 #[nodeV x] w fun e w' => PrintP w out e w' ∧ Below w.heap.size w w') (hlen : 60000 < out.length) :
    Calls Tryz.prog 7 #[nodeV t, .int .i64 m] w fun e w' => e = .returned (.bool true) ∧ Below w.heap.size w w' := by
  have HOUT : Hid _ := hout
  clear hout
  have HP0 : Hid (Pl w t gw ow gs os (w.alloc (nodeO t))) := by
    have hb := below1 w (nodeO t)
    exact ⟨hb, heap_alloc_new w _, ht.below (Nat.le_refl _) hb, (hb.cell (p := ⟨0, 0, none⟩) (by have := ht.two; show 0 < _; omega)).trans hg, MT.In.mono (by simp) t (MT.In.below hb t hin)⟩
  have HLT : Hid (Lk 60 t t) := by
    have : ∀ (f : Nat) (x : MT), Lk f x x := fun f => by
      induction f with
      | zero => intro x; exact ⟨⟨rfl, rfl, rfl⟩, rfl⟩
      | succ f ih => intro x; exact ⟨⟨rfl, rfl, rfl⟩, rfl, fun i hi hx => ih _⟩
    exact this 60 t
  clear ht hg hin
  go_enter Tryz.func7, Tryz.ntmps7
  go_wp2_with fail
  refine (examples_any _ HP0.out.tabs HP0.out.hand).mono ?_
  rintro e w1 ⟨rfl, hb1⟩
  have HP1 : Hid _ := HP0.out.step hb1
  clear hb1 HP0
  obtain ⟨k0, k1, k2, k3, k4⟩ := cells5 HP1.out.box
  go_wp2_with fail
  refine (refCount_any t w1 HP1.out.inn).mono ?_
  rintro e w2 ⟨r, rfl, hr0, hr1, HRr, hb2⟩
  have hrr : ¬ (30000 : Int) < r := by have := HRr.out; omega
  have HP2 : Hid _ := HP1.out.step hb2
  clear hb2 k0 k1 k2 k3 k4 HP1
  obtain ⟨k0, k1, k2, k3, k4⟩ := cells5 HP2.out.box
  go_wp2_with fail
  refine (moved_any m 30000 (Nat.le_refl _) t w2 hs HP2.out.inn).mono ?_
  rintro e w3 ⟨y, rfl, HMV, HAT, hb3⟩
  have HP3 : Hid _ := HP2.out.step hb3
  have hiny : y.In w3.heap.size w3 := MT.Atm.toIn (fun q hq => hq.2) y HAT.out
  have HM3 : Hid (Pm w t y w3.heap.size gw ow gs os (w3.alloc (nodeO y))) := ⟨HP3.out.step (below1 _ _), heap_alloc_new w3 _, MT.In.mono (by simp) y (MT.In.below (below1 _ _) y hiny)⟩
  have HRY : Hid (rightSpec y = .ok b) := by
    show rightSpec y = .ok b
    have h9 := right_mv HMV.out
    rw [hr] at h9
    cases h8 : rightSpec y with
    | error e => rw [h8] at h9; exact h9.elim
    | ok b' => rw [h8] at h9; obtain rfl : b = b' := h9; rfl
  have HLY : Hid (Lk 60 t y) := MvA.lk 60 HMV.out
  have HSY : Hid (MT.same t y = true ∧ MT.same y t = true) := by
    have h9 := mv_same HMV.out hs
    exact ⟨h9, by rw [MT.same_comm]; exact h9⟩
  have HRT : Hid (rightSpec t = .ok b) := hr
  clear hb3 k0 k1 k2 k3 k4 HP2 HAT hiny hr
  obtain ⟨k0, k1, k2, k3, k4⟩ := cells5 HP3.out.box
  have hz3 := lt_of HP3.out.box
  go_wp2_with fail
  refine Calls.mono ((by rw [← HRT.out]; exact right_any t _ HM3.out.tabs HM3.out.inn : Calls Tryz.prog 13 #[nodeV t] _ (RightP _ (.ok b)))) ?_
  rintro e w4 ⟨hb, rfl⟩
  have HA4 : Hid (Pm w t y w3.heap.size gw ow gs os w4) := HM3.out.step hb
  clear k0 k1 k2 k3 k4 hz3 HP3 HM3 hb  
  obtain ⟨k0, k1, k2, k3, k4⟩ := cells5 HA4.out.box
  obtain ⟨y0, y1, y2, y3, y4⟩ := cells5 HA4.out.ybox
  have hzk4 := lt_of HA4.out.box
  have hzy4 := lt_of HA4.out.ybox
  have HM4 := HA4
  go_wp2_with fail
  refine Calls.mono (told_zero _) ?_
  rintro e w5 ⟨rfl, hb⟩
  have HA5 : Hid (Pm w t y w3.heap.size gw ow gs os w5) := HM4.out.step hb
  clear k0 k1 k2 k3 k4 y0 y1 y2 y3 y4 HM4 hb  
  obtain ⟨k0, k1, k2, k3, k4⟩ := cells5 HA5.out.box
  obtain ⟨y0, y1, y2, y3, y4⟩ := cells5 HA5.out.ybox
  have hzk5 := lt_of HA5.out.box
  have hzy5 := lt_of HA5.out.ybox
  have HM5 : Hid (Pm w t y w3.heap.size gw ow gs os (w5.alloc (.cells #[.int .i64 0, .int .i64 0, .string ⟨#[]⟩] 28))) := HA5.out.step (below1 _ _)
  have T5e : Hid _ := heap_alloc_new w5 (.cells #[.int .i64 0, .int .i64 0, .string ⟨#[]⟩] 28)
  go_wp2_with fail
  refine Calls.mono ((by rw [← HRY.out]; exact right_any y _ HM5.out.tabs HM5.out.yin : Calls Tryz.prog 13 #[nodeV y] _ (RightP _ (.ok b)))) ?_
  rintro e w6 ⟨hb, rfl⟩
  have HA6 : Hid (Pm w t y w3.heap.size gw ow gs os w6) := HM5.out.step hb
  have T6e : Hid _ := (hb.block _ (lt_of T5e.out)).trans T5e.out
  clear k0 k1 k2 k3 k4 y0 y1 y2 y3 y4 HM5 hb T5e 
  obtain ⟨k0, k1, k2, k3, k4⟩ := cells5 HA6.out.box
  obtain ⟨y0, y1, y2, y3, y4⟩ := cells5 HA6.out.ybox
  have hzk6 := lt_of HA6.out.box
  have hzy6 := lt_of HA6.out.ybox
  have HM6 := HA6
  go_wp2_with fail
  refine Calls.mono (told_zero _) ?_
  rintro e w7 ⟨rfl, hb⟩
  have HA7 : Hid (Pm w t y w3.heap.size gw ow gs os w7) := HM6.out.step hb
  have T7e : Hid _ := (hb.block _ (lt_of T6e.out)).trans T6e.out
  clear k0 k1 k2 k3 k4 y0 y1 y2 y3 y4 HM6 hb T6e 
  obtain ⟨k0, k1, k2, k3, k4⟩ := cells5 HA7.out.box
  obtain ⟨y0, y1, y2, y3, y4⟩ := cells5 HA7.out.ybox
  have hzk7 := lt_of HA7.out.box
  have hzy7 := lt_of HA7.out.ybox
  have HM7 : Hid (Pm w t y w3.heap.size gw ow gs os (w7.alloc (.cells #[.int .i64 0, .int .i64 0, .string ⟨#[]⟩] 28))) := HA7.out.step (below1 _ _)
  have hq7e := lt_of T7e.out
  have T7e : Hid _ := ((below1 w7 (.cells #[.int .i64 0, .int .i64 0, .string ⟨#[]⟩] 28)).block _ (lt_of T7e.out)).trans T7e.out
  have T7f : Hid _ := heap_alloc_new w7 (.cells #[.int .i64 0, .int .i64 0, .string ⟨#[]⟩] 28)
  go_wp2_with fail
  refine Calls.mono (HOUT.out t b HLT.out HRT.out _ HM7.out.tabs HM7.out.inn) ?_
  rintro e w8 ⟨hpr, hb⟩
  obtain ⟨G0, rfl, hw⟩ := hpr.long hlen
  have HA8 : Hid (Pm w t y w3.heap.size gw ow gs os w8) := HM7.out.step hb
  have T8e : Hid _ := (hb.block _ (lt_of T7e.out)).trans T7e.out
  have T8f : Hid _ := (hb.block _ (lt_of T7f.out)).trans T7f.out
  clear k0 k1 k2 k3 k4 y0 y1 y2 y3 y4 HM7 hb T7e T7f 
  have T8g0 : Hid _ := hw
  clear hw
  obtain ⟨k0, k1, k2, k3, k4⟩ := cells5 HA8.out.box
  obtain ⟨y0, y1, y2, y3, y4⟩ := cells5 HA8.out.ybox
  have hzk8 := lt_of HA8.out.box
  have hzy8 := lt_of HA8.out.ybox
  have HM8 := HA8
  go_wp2_with fail
  refine Calls.mono (HOUT.out y b HLY.out HRY.out _ HM8.out.tabs HM8.out.yin) ?_
  rintro e w9 ⟨hpr, hb⟩
  obtain ⟨G1, rfl, hw⟩ := hpr.long hlen
  have HA9 : Hid (Pm w t y w3.heap.size gw ow gs os w9) := HM8.out.step hb
  have T9e : Hid _ := (hb.block _ (lt_of T8e.out)).trans T8e.out
  have T9f : Hid _ := (hb.block _ (lt_of T8f.out)).trans T8f.out
  have T9g0 : Hid _ := (hb.block _ (lt_of T8g0.out)).trans T8g0.out
  clear k0 k1 k2 k3 k4 y0 y1 y2 y3 y4 HM8 hb T8e T8f T8g0 
  have T9g1 : Hid _ := hw
  clear hw
  obtain ⟨k0, k1, k2, k3, k4⟩ := cells5 HA9.out.box
  obtain ⟨y0, y1, y2, y3, y4⟩ := cells5 HA9.out.ybox
  have hzk9 := lt_of HA9.out.box
  have hzy9 := lt_of HA9.out.ybox
  have HM9 := HA9
  go_wp2_with fail
  refine Calls.mono (told_any G0 13 0 (by decide) ⟨#[]⟩ _ T9g0.out HM9.out.hand (by have := lt_of HM9.out.box; omega)) ?_
  rintro e w10 ⟨rfl, hb⟩
  have HA10 : Hid (Pm w t y w3.heap.size gw ow gs os w10) := HM9.out.step hb
  have T10e : Hid _ := (hb.block _ (lt_of T9e.out)).trans T9e.out
  have T10f : Hid _ := (hb.block _ (lt_of T9f.out)).trans T9f.out
  have T10g0 : Hid _ := (hb.block _ (lt_of T9g0.out)).trans T9g0.out
  have T10g1 : Hid _ := (hb.block _ (lt_of T9g1.out)).trans T9g1.out
  clear k0 k1 k2 k3 k4 y0 y1 y2 y3 y4 HM9 hb T9e T9f T9g0 T9g1 
  clear T10g0
  obtain ⟨k0, k1, k2, k3, k4⟩ := cells5 HA10.out.box
  obtain ⟨y0, y1, y2, y3, y4⟩ := cells5 HA10.out.ybox
  have hzk10 := lt_of HA10.out.box
  have hzy10 := lt_of HA10.out.ybox
  have HM10 : Hid (Pm w t y w3.heap.size gw ow gs os (w10.alloc (.cells #[.int .i64 13, .int .i64 0, .string ⟨#[]⟩] 28))) := HA10.out.step (below1 _ _)
  have hq10e := lt_of T10e.out
  have hq10f := lt_of T10f.out
  have T10e : Hid _ := ((below1 w10 (.cells #[.int .i64 13, .int .i64 0, .string ⟨#[]⟩] 28)).block _ (lt_of T10e.out)).trans T10e.out
  have T10f : Hid _ := ((below1 w10 (.cells #[.int .i64 13, .int .i64 0, .string ⟨#[]⟩] 28)).block _ (lt_of T10f.out)).trans T10f.out
  have T10g1 : Hid _ := ((below1 w10 (.cells #[.int .i64 13, .int .i64 0, .string ⟨#[]⟩] 28)).block _ (lt_of T10g1.out)).trans T10g1.out
  have T10i : Hid _ := heap_alloc_new w10 (.cells #[.int .i64 13, .int .i64 0, .string ⟨#[]⟩] 28)
  go_wp2_with fail
  refine Calls.mono (told_any G1 13 0 (by decide) ⟨#[]⟩ _ T10g1.out HM10.out.hand (by have := lt_of HM10.out.box; omega)) ?_
  rintro e w11 ⟨rfl, hb⟩
  have HA11 : Hid (Pm w t y w3.heap.size gw ow gs os w11) := HM10.out.step hb
  have T11e : Hid _ := (hb.block _ (lt_of T10e.out)).trans T10e.out
  have T11f : Hid _ := (hb.block _ (lt_of T10f.out)).trans T10f.out
  have T11g1 : Hid _ := (hb.block _ (lt_of T10g1.out)).trans T10g1.out
  have T11i : Hid _ := (hb.block _ (lt_of T10i.out)).trans T10i.out
  clear k0 k1 k2 k3 k4 y0 y1 y2 y3 y4 HM10 hb T10e T10f T10g1 T10i 
  clear T11g1
  obtain ⟨k0, k1, k2, k3, k4⟩ := cells5 HA11.out.box
  obtain ⟨y0, y1, y2, y3, y4⟩ := cells5 HA11.out.ybox
  have hzk11 := lt_of HA11.out.box
  have hzy11 := lt_of HA11.out.ybox
  have HM11 : Hid (Pm w t y w3.heap.size gw ow gs os (w11.alloc (.cells #[.int .i64 13, .int .i64 0, .string ⟨#[]⟩] 28))) := HA11.out.step (below1 _ _)
  have hq11e := lt_of T11e.out
  have hq11f := lt_of T11f.out
  have hq11i := lt_of T11i.out
  have T11e : Hid _ := ((below1 w11 (.cells #[.int .i64 13, .int .i64 0, .string ⟨#[]⟩] 28)).block _ (lt_of T11e.out)).trans T11e.out
  have T11f : Hid _ := ((below1 w11 (.cells #[.int .i64 13, .int .i64 0, .string ⟨#[]⟩] 28)).block _ (lt_of T11f.out)).trans T11f.out
  have T11i : Hid _ := ((below1 w11 (.cells #[.int .i64 13, .int .i64 0, .string ⟨#[]⟩] 28)).block _ (lt_of T11i.out)).trans T11i.out
  have T11k : Hid _ := heap_alloc_new w11 (.cells #[.int .i64 13, .int .i64 0, .string ⟨#[]⟩] 28)
  go_wp2_with fail
  refine Calls.mono (same_any t y _ HM11.out.inn HM11.out.yin) ?_
  rintro e w12 ⟨r1, rfl, HR1, hb⟩
  obtain rfl : r1 = true := by rw [HR1.out]; exact HSY.out.1
  have HA12 : Hid (Pm w t y w3.heap.size gw ow gs os w12) := HM11.out.step hb
  have T12e : Hid _ := (hb.block _ (lt_of T11e.out)).trans T11e.out
  have T12f : Hid _ := (hb.block _ (lt_of T11f.out)).trans T11f.out
  have T12i : Hid _ := (hb.block _ (lt_of T11i.out)).trans T11i.out
  have T12k : Hid _ := (hb.block _ (lt_of T11k.out)).trans T11k.out
  clear k0 k1 k2 k3 k4 y0 y1 y2 y3 y4 HM11 hb T11e T11f T11i T11k 
  obtain ⟨k0, k1, k2, k3, k4⟩ := cells5 HA12.out.box
  obtain ⟨y0, y1, y2, y3, y4⟩ := cells5 HA12.out.ybox
  have hzk12 := lt_of HA12.out.box
  have hzy12 := lt_of HA12.out.ybox
  have HM12 := HA12
  go_wp2_with fail
  refine Calls.mono (same_any y t _ HM12.out.yin HM12.out.inn) ?_
  rintro e w13 ⟨r2, rfl, HR2, hb⟩
  obtain rfl : r2 = true := by rw [HR2.out]; exact HSY.out.2
  have HA13 : Hid (Pm w t y w3.heap.size gw ow gs os w13) := HM12.out.step hb
  have T13e : Hid _ := (hb.block _ (lt_of T12e.out)).trans T12e.out
  have T13f : Hid _ := (hb.block _ (lt_of T12f.out)).trans T12f.out
  have T13i : Hid _ := (hb.block _ (lt_of T12i.out)).trans T12i.out
  have T13k : Hid _ := (hb.block _ (lt_of T12k.out)).trans T12k.out
  clear k0 k1 k2 k3 k4 y0 y1 y2 y3 y4 HM12 hb T12e T12f T12i T12k 
  obtain ⟨k0, k1, k2, k3, k4⟩ := cells5 HA13.out.box
  obtain ⟨y0, y1, y2, y3, y4⟩ := cells5 HA13.out.ybox
  have hzk13 := lt_of HA13.out.box
  have hzy13 := lt_of HA13.out.ybox
  have HM13 := HA13
  obtain ⟨e0, e1, e2, e3⟩ := rowCells3 T13e.out
  have hze := lt_of T13e.out
  obtain ⟨f0, f1, f2, f3⟩ := rowCells3 T13f.out
  have hzf := lt_of T13f.out
  obtain ⟨i0, i1, i2, i3⟩ := rowCells3 T13i.out
  have hzi := lt_of T13i.out
  obtain ⟨k0, k1, k2, k3⟩ := rowCells3 T13k.out
  have hzk := lt_of T13k.out
  go_wp2_with fail
  go_ret
  exact ⟨rfl, HM13.out.below⟩
set_option maxRecDepth 100000 in
set_option maxHeartbeats 8000000 in
theorem places_wrong {gw ow gs os : Nat} (t : MT) (m : Int) (w : World) (ht : TabsAt gw ow gs os w) (hg : w.cell? ⟨0, 0, none⟩ = some (.iface 129 (.agg #[hnd 33]))) (hin : t.In w.heap.size w) (hs : t.size ≤ 30000) (cd : Nat) (z : MT) (hr : rightSpec t = .error (cd, z)) :
    Calls Tryz.prog 7 #[nodeV t, .int .i64 m] w fun e w' => e = .returned (.bool true) ∧ Below w.heap.size w w' := by
  have hcd : (((cd : Nat) : Int) == 0) = false := by
    have h9 := chk_code 60 t (ownR t) 0 (cd, z) hr
    simp at h9 ⊢; omega
  have HP0 : Hid (Pl w t gw ow gs os (w.alloc (nodeO t))) := by
    have hb := below1 w (nodeO t)
    exact ⟨hb, heap_alloc_new w _, ht.below (Nat.le_refl _) hb, (hb.cell (p := ⟨0, 0, none⟩) (by have := ht.two; show 0 < _; omega)).trans hg, MT.In.mono (by simp) t (MT.In.below hb t hin)⟩
  have HLT : Hid True := by exact True.intro
  have HLT2 : Hid (Lk 60 t t) := by
    have : ∀ (f : Nat) (x : MT), Lk f x x := fun f => by
      induction f with
      | zero => intro x; exact ⟨⟨rfl, rfl, rfl⟩, rfl⟩
      | succ f ih => intro x; exact ⟨⟨rfl, rfl, rfl⟩, rfl, fun i hi hx => ih _⟩
    exact this 60 t
  clear ht hg hin
  go_enter Tryz.func7, Tryz.ntmps7
  go_wp2_with fail
  refine (examples_any _ HP0.out.tabs HP0.out.hand).mono ?_
  rintro e w1 ⟨rfl, hb1⟩
  have HP1 : Hid _ := HP0.out.step hb1
  clear hb1 HP0
  obtain ⟨k0, k1, k2, k3, k4⟩ := cells5 HP1.out.box
  go_wp2_with fail
  refine (refCount_any t w1 HP1.out.inn).mono ?_
  rintro e w2 ⟨r, rfl, hr0, hr1, HRr, hb2⟩
  have hrr : ¬ (30000 : Int) < r := by have := HRr.out; omega
  have HP2 : Hid _ := HP1.out.step hb2
  clear hb2 k0 k1 k2 k3 k4 HP1
  obtain ⟨k0, k1, k2, k3, k4⟩ := cells5 HP2.out.box
  go_wp2_with fail
  refine (moved_any m 30000 (Nat.le_refl _) t w2 hs HP2.out.inn).mono ?_
  rintro e w3 ⟨y, rfl, HMV, HAT, hb3⟩
  have HP3 : Hid _ := HP2.out.step hb3
  have hiny : y.In w3.heap.size w3 := MT.Atm.toIn (fun q hq => hq.2) y HAT.out
  have HM3 : Hid (Pm w t y w3.heap.size gw ow gs os (w3.alloc (nodeO y))) := ⟨HP3.out.step (below1 _ _), heap_alloc_new w3 _, MT.In.mono (by simp) y (MT.In.below (below1 _ _) y hiny)⟩
  obtain ⟨z', hry, hza, hzt⟩ : ∃ z', rightSpec y = .error (cd, z') ∧ z'.at_ = wrap64 (z.at_ + m) ∧ z'.text = z.text := by
    have h9 := right_mv HMV.out
    rw [hr] at h9
    cases h8 : rightSpec y with
    | error e => rw [h8] at h9; obtain ⟨h1, h2, h3⟩ := h9; obtain ⟨c', z'⟩ := e; simp only at h1 h2 h3; rw [h1]; exact ⟨z', rfl, h2, h3⟩
    | ok b' => rw [h8] at h9; exact h9.elim
  have HRY : Hid (rightSpec y = .error (cd, z')) := hry
  clear hry
  have HLY : Hid (Lk 60 t y) := MvA.lk 60 HMV.out
  have HSY : Hid (MT.same t y = true ∧ MT.same y t = true) := by
    have h9 := mv_same HMV.out hs
    exact ⟨h9, by rw [MT.same_comm]; exact h9⟩
  have HRT : Hid (rightSpec t = .error (cd, z)) := hr
  clear hb3 k0 k1 k2 k3 k4 HP2 HAT hiny hr
  obtain ⟨k0, k1, k2, k3, k4⟩ := cells5 HP3.out.box
  have hz3 := lt_of HP3.out.box
  go_wp2_with fail
  refine Calls.mono ((by rw [← HRT.out]; exact right_any t _ HM3.out.tabs HM3.out.inn : Calls Tryz.prog 13 #[nodeV t] _ (RightP _ (.error (cd, z))))) ?_
  rintro e w4 ⟨hb, B1, rfl, _, hw⟩
  have HA4 : Hid (Pm w t y w3.heap.size gw ow gs os w4) := HM3.out.step hb
  clear k0 k1 k2 k3 k4 hz3 HP3 HM3 hb  
  have T4a : Hid _ := hw
  clear hw
  obtain ⟨k0, k1, k2, k3, k4⟩ := cells5 HA4.out.box
  obtain ⟨y0, y1, y2, y3, y4⟩ := cells5 HA4.out.ybox
  have hzk4 := lt_of HA4.out.box
  have hzy4 := lt_of HA4.out.ybox
  have HM4 := HA4
  go_wp2_with fail
  refine Calls.mono (told_any B1 (cd : Nat) z.at_ hcd (toldName z.text) _ T4a.out HM4.out.hand (by have := lt_of HM4.out.box; omega)) ?_
  rintro e w5 ⟨rfl, hb⟩
  have HA5 : Hid (Pm w t y w3.heap.size gw ow gs os w5) := HM4.out.step hb
  have T5a : Hid _ := (hb.block _ (lt_of T4a.out)).trans T4a.out
  clear k0 k1 k2 k3 k4 y0 y1 y2 y3 y4 HM4 hb T4a 
  clear T5a
  obtain ⟨k0, k1, k2, k3, k4⟩ := cells5 HA5.out.box
  obtain ⟨y0, y1, y2, y3, y4⟩ := cells5 HA5.out.ybox
  have hzk5 := lt_of HA5.out.box
  have hzy5 := lt_of HA5.out.ybox
  have HM5 : Hid (Pm w t y w3.heap.size gw ow gs os (w5.alloc (.cells #[.int .i64 (cd : Nat), .int .i64 z.at_, .string (toldName z.text)] 28))) := HA5.out.step (below1 _ _)
  have T5e : Hid _ := heap_alloc_new w5 (.cells #[.int .i64 (cd : Nat), .int .i64 z.at_, .string (toldName z.text)] 28)
  go_wp2_with fail
  refine Calls.mono ((by rw [← HRY.out]; exact right_any y _ HM5.out.tabs HM5.out.yin : Calls Tryz.prog 13 #[nodeV y] _ (RightP _ ((.error (cd, z')))))) ?_
  rintro e w6 ⟨hb, B2, rfl, _, hw⟩
  rw [hza, hzt] at hw
  have HA6 : Hid (Pm w t y w3.heap.size gw ow gs os w6) := HM5.out.step hb
  have T6e : Hid _ := (hb.block _ (lt_of T5e.out)).trans T5e.out
  clear k0 k1 k2 k3 k4 y0 y1 y2 y3 y4 HM5 hb T5e 
  have T6a : Hid _ := hw
  clear hw
  obtain ⟨k0, k1, k2, k3, k4⟩ := cells5 HA6.out.box
  obtain ⟨y0, y1, y2, y3, y4⟩ := cells5 HA6.out.ybox
  have hzk6 := lt_of HA6.out.box
  have hzy6 := lt_of HA6.out.ybox
  have HM6 := HA6
  go_wp2_with fail
  refine Calls.mono (told_any B2 (cd : Nat) (wrap64 (z.at_ + m)) hcd (toldName z.text) _ T6a.out HM6.out.hand (by have := lt_of HM6.out.box; omega)) ?_
  rintro e w7 ⟨rfl, hb⟩
  have HA7 : Hid (Pm w t y w3.heap.size gw ow gs os w7) := HM6.out.step hb
  have T7e : Hid _ := (hb.block _ (lt_of T6e.out)).trans T6e.out
  have T7a : Hid _ := (hb.block _ (lt_of T6a.out)).trans T6a.out
  clear k0 k1 k2 k3 k4 y0 y1 y2 y3 y4 HM6 hb T6e T6a 
  clear T7a
  obtain ⟨k0, k1, k2, k3, k4⟩ := cells5 HA7.out.box
  obtain ⟨y0, y1, y2, y3, y4⟩ := cells5 HA7.out.ybox
  have hzk7 := lt_of HA7.out.box
  have hzy7 := lt_of HA7.out.ybox
  have HM7 : Hid (Pm w t y w3.heap.size gw ow gs os (w7.alloc (.cells #[.int .i64 (cd : Nat), .int .i64 (wrap64 (z.at_ + m)), .string (toldName z.text)] 28))) := HA7.out.step (below1 _ _)
  have hq7e := lt_of T7e.out
  have T7e : Hid _ := ((below1 w7 (.cells #[.int .i64 (cd : Nat), .int .i64 (wrap64 (z.at_ + m)), .string (toldName z.text)] 28)).block _ (lt_of T7e.out)).trans T7e.out
  have T7f : Hid _ := heap_alloc_new w7 (.cells #[.int .i64 (cd : Nat), .int .i64 (wrap64 (z.at_ + m)), .string (toldName z.text)] 28)
  go_wp2_with fail
  refine Calls.mono (print_wrong t _ HM7.out.tabs HM7.out.inn cd z HRT.out) ?_
  rintro e w8 ⟨⟨G0, rfl, hw⟩, hb⟩
  have HA8 : Hid (Pm w t y w3.heap.size gw ow gs os w8) := HM7.out.step hb
  have T8e : Hid _ := (hb.block _ (lt_of T7e.out)).trans T7e.out
  have T8f : Hid _ := (hb.block _ (lt_of T7f.out)).trans T7f.out
  clear k0 k1 k2 k3 k4 y0 y1 y2 y3 y4 HM7 hb T7e T7f 
  have T8g0 : Hid _ := hw
  clear hw
  obtain ⟨k0, k1, k2, k3, k4⟩ := cells5 HA8.out.box
  obtain ⟨y0, y1, y2, y3, y4⟩ := cells5 HA8.out.ybox
  have hzk8 := lt_of HA8.out.box
  have hzy8 := lt_of HA8.out.ybox
  have HM8 := HA8
  go_wp2_with fail
  refine Calls.mono (print_wrong y _ HM8.out.tabs HM8.out.yin cd z' HRY.out) ?_
  rintro e w9 ⟨⟨G1, rfl, hw⟩, hb⟩
  rw [hza, hzt] at hw
  have HA9 : Hid (Pm w t y w3.heap.size gw ow gs os w9) := HM8.out.step hb
  have T9e : Hid _ := (hb.block _ (lt_of T8e.out)).trans T8e.out
  have T9f : Hid _ := (hb.block _ (lt_of T8f.out)).trans T8f.out
  have T9g0 : Hid _ := (hb.block _ (lt_of T8g0.out)).trans T8g0.out
  clear k0 k1 k2 k3 k4 y0 y1 y2 y3 y4 HM8 hb T8e T8f T8g0 
  have T9g1 : Hid _ := hw
  clear hw
  obtain ⟨k0, k1, k2, k3, k4⟩ := cells5 HA9.out.box
  obtain ⟨y0, y1, y2, y3, y4⟩ := cells5 HA9.out.ybox
  have hzk9 := lt_of HA9.out.box
  have hzy9 := lt_of HA9.out.ybox
  have HM9 := HA9
  go_wp2_with fail
  refine Calls.mono (told_any G0 (cd : Nat) z.at_ hcd (toldName z.text) _ T9g0.out HM9.out.hand (by have := lt_of HM9.out.box; omega)) ?_
  rintro e w10 ⟨rfl, hb⟩
  have HA10 : Hid (Pm w t y w3.heap.size gw ow gs os w10) := HM9.out.step hb
  have T10e : Hid _ := (hb.block _ (lt_of T9e.out)).trans T9e.out
  have T10f : Hid _ := (hb.block _ (lt_of T9f.out)).trans T9f.out
  have T10g0 : Hid _ := (hb.block _ (lt_of T9g0.out)).trans T9g0.out
  have T10g1 : Hid _ := (hb.block _ (lt_of T9g1.out)).trans T9g1.out
  clear k0 k1 k2 k3 k4 y0 y1 y2 y3 y4 HM9 hb T9e T9f T9g0 T9g1 
  clear T10g0
  obtain ⟨k0, k1, k2, k3, k4⟩ := cells5 HA10.out.box
  obtain ⟨y0, y1, y2, y3, y4⟩ := cells5 HA10.out.ybox
  have hzk10 := lt_of HA10.out.box
  have hzy10 := lt_of HA10.out.ybox
  have HM10 : Hid (Pm w t y w3.heap.size gw ow gs os (w10.alloc (.cells #[.int .i64 (cd : Nat), .int .i64 z.at_, .string (toldName z.text)] 28))) := HA10.out.step (below1 _ _)
  have hq10e := lt_of T10e.out
  have hq10f := lt_of T10f.out
  have T10e : Hid _ := ((below1 w10 (.cells #[.int .i64 (cd : Nat), .int .i64 z.at_, .string (toldName z.text)] 28)).block _ (lt_of T10e.out)).trans T10e.out
  have T10f : Hid _ := ((below1 w10 (.cells #[.int .i64 (cd : Nat), .int .i64 z.at_, .string (toldName z.text)] 28)).block _ (lt_of T10f.out)).trans T10f.out
  have T10g1 : Hid _ := ((below1 w10 (.cells #[.int .i64 (cd : Nat), .int .i64 z.at_, .string (toldName z.text)] 28)).block _ (lt_of T10g1.out)).trans T10g1.out
  have T10i : Hid _ := heap_alloc_new w10 (.cells #[.int .i64 (cd : Nat), .int .i64 z.at_, .string (toldName z.text)] 28)
  go_wp2_with fail
  refine Calls.mono (told_any G1 (cd : Nat) (wrap64 (z.at_ + m)) hcd (toldName z.text) _ T10g1.out HM10.out.hand (by have := lt_of HM10.out.box; omega)) ?_
  rintro e w11 ⟨rfl, hb⟩
  have HA11 : Hid (Pm w t y w3.heap.size gw ow gs os w11) := HM10.out.step hb
  have T11e : Hid _ := (hb.block _ (lt_of T10e.out)).trans T10e.out
  have T11f : Hid _ := (hb.block _ (lt_of T10f.out)).trans T10f.out
  have T11g1 : Hid _ := (hb.block _ (lt_of T10g1.out)).trans T10g1.out
  have T11i : Hid _ := (hb.block _ (lt_of T10i.out)).trans T10i.out
  clear k0 k1 k2 k3 k4 y0 y1 y2 y3 y4 HM10 hb T10e T10f T10g1 T10i 
  clear T11g1
  obtain ⟨k0, k1, k2, k3, k4⟩ := cells5 HA11.out.box
  obtain ⟨y0, y1, y2, y3, y4⟩ := cells5 HA11.out.ybox
  have hzk11 := lt_of HA11.out.box
  have hzy11 := lt_of HA11.out.ybox
  have HM11 : Hid (Pm w t y w3.heap.size gw ow gs os (w11.alloc (.cells #[.int .i64 (cd : Nat), .int .i64 (wrap64 (z.at_ + m)), .string (toldName z.text)] 28))) := HA11.out.step (below1 _ _)
  have hq11e := lt_of T11e.out
  have hq11f := lt_of T11f.out
  have hq11i := lt_of T11i.out
  have T11e : Hid _ := ((below1 w11 (.cells #[.int .i64 (cd : Nat), .int .i64 (wrap64 (z.at_ + m)), .string (toldName z.text)] 28)).block _ (lt_of T11e.out)).trans T11e.out
  have T11f : Hid _ := ((below1 w11 (.cells #[.int .i64 (cd : Nat), .int .i64 (wrap64 (z.at_ + m)), .string (toldName z.text)] 28)).block _ (lt_of T11f.out)).trans T11f.out
  have T11i : Hid _ := ((below1 w11 (.cells #[.int .i64 (cd : Nat), .int .i64 (wrap64 (z.at_ + m)), .string (toldName z.text)] 28)).block _ (lt_of T11i.out)).trans T11i.out
  have T11k : Hid _ := heap_alloc_new w11 (.cells #[.int .i64 (cd : Nat), .int .i64 (wrap64 (z.at_ + m)), .string (toldName z.text)] 28)
  go_wp2_with fail
  refine Calls.mono (same_any t y _ HM11.out.inn HM11.out.yin) ?_
  rintro e w12 ⟨r1, rfl, HR1, hb⟩
  obtain rfl : r1 = true := by rw [HR1.out]; exact HSY.out.1
  have HA12 : Hid (Pm w t y w3.heap.size gw ow gs os w12) := HM11.out.step hb
  have T12e : Hid _ := (hb.block _ (lt_of T11e.out)).trans T11e.out
  have T12f : Hid _ := (hb.block _ (lt_of T11f.out)).trans T11f.out
  have T12i : Hid _ := (hb.block _ (lt_of T11i.out)).trans T11i.out
  have T12k : Hid _ := (hb.block _ (lt_of T11k.out)).trans T11k.out
  clear k0 k1 k2 k3 k4 y0 y1 y2 y3 y4 HM11 hb T11e T11f T11i T11k 
  obtain ⟨k0, k1, k2, k3, k4⟩ := cells5 HA12.out.box
  obtain ⟨y0, y1, y2, y3, y4⟩ := cells5 HA12.out.ybox
  have hzk12 := lt_of HA12.out.box
  have hzy12 := lt_of HA12.out.ybox
  have HM12 := HA12
  go_wp2_with fail
  refine Calls.mono (same_any y t _ HM12.out.yin HM12.out.inn) ?_
  rintro e w13 ⟨r2, rfl, HR2, hb⟩
  obtain rfl : r2 = true := by rw [HR2.out]; exact HSY.out.2
  have HA13 : Hid (Pm w t y w3.heap.size gw ow gs os w13) := HM12.out.step hb
  have T13e : Hid _ := (hb.block _ (lt_of T12e.out)).trans T12e.out
  have T13f : Hid _ := (hb.block _ (lt_of T12f.out)).trans T12f.out
  have T13i : Hid _ := (hb.block _ (lt_of T12i.out)).trans T12i.out
  have T13k : Hid _ := (hb.block _ (lt_of T12k.out)).trans T12k.out
  clear k0 k1 k2 k3 k4 y0 y1 y2 y3 y4 HM12 hb T12e T12f T12i T12k 
  obtain ⟨k0, k1, k2, k3, k4⟩ := cells5 HA13.out.box
  obtain ⟨y0, y1, y2, y3, y4⟩ := cells5 HA13.out.ybox
  have hzk13 := lt_of HA13.out.box
  have hzy13 := lt_of HA13.out.ybox
  have HM13 := HA13
  obtain ⟨e0, e1, e2, e3⟩ := rowCells3 T13e.out
  have hze := lt_of T13e.out
  obtain ⟨f0, f1, f2, f3⟩ := rowCells3 T13f.out
  have hzf := lt_of T13f.out
  obtain ⟨i0, i1, i2, i3⟩ := rowCells3 T13i.out
  have hzi := lt_of T13i.out
  obtain ⟨k0, k1, k2, k3⟩ := rowCells3 T13k.out
  have hzk := lt_of T13k.out
  have HE : Hid (∀ v v', Below w.heap.size w ((w13.setCell ⟨w5.heap.size, 1, none⟩ v).setCell ⟨w10.heap.size, 1, none⟩ v')) := fun v v' => (HM13.out.below.setCell (p := ⟨w5.heap.size, 1, none⟩) (by show w.heap.size ≤ w5.heap.size; omega) v).setCell (p := ⟨w10.heap.size, 1, none⟩) (by show w.heap.size ≤ w10.heap.size; omega) v'
  have hne : w5.heap.size ≠ w10.heap.size := by omega
  go_wp2_with fail
  go_ret
  exact ⟨by simp, HE.out _ _⟩
theorem placesLaw_any {gw ow gs os : Nat} (t : MT) (m : Int) (w : World) (ht : TabsAt gw ow gs os w) (hg : w.cell? ⟨0, 0, none⟩ = some (.iface 129 (.agg #[hnd 33]))) (hin : t.In w.heap.size w) :
    Calls Tryz.prog 7 #[nodeV t, .int .i64 m] w fun e w' => e = .returned (.bool true) ∧ Below w.heap.size w w' := by
  by_cases hs : t.size ≤ 30000
  · cases hr : rightSpec t with
    | error e => obtain ⟨cd, z⟩ := e; exact places_wrong t m w ht hg hin hs cd z hr
    | ok b =>
      obtain ⟨out, hout⟩ := print_right t b hr
      by_cases hl : out.length ≤ 60000
      · exact places_short t m w ht hg hin hs b hr out (fun x b' => hout x b') hl
      · exact places_long t m w ht hg hin hs b hr out (fun x b' => hout x b') (Nat.lt_of_not_le hl)
  · exact places_big t m w ht hg hin (Nat.lt_of_not_le hs)
end Go.Proofs.YthbnegggohegkaaGreatDoor
