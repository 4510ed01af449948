/-
  Three data are made, and held against one another: the law.
-/
import Derived.Test.YtnhbpcmiolkllabDoorPv2
namespace Go.Proofs.YtnhbpcmiolkllabDoor
open Go.RowKit

theorem made_all (kb : Nat) (rp : Option Addr) (raw : List Int) (rc : Nat) (w : World) (hM : MakerAt w kb rp raw rc 0) : Calls Tryd.prog 7 #[.pointer (some ⟨kb, 0, none⟩), .int .i64 0] w (MadeP 3 kb rp raw rc 0 w) := made_any kb rp raw rc 3 (Nat.le_refl _) 0 w hM (by decide)
theorem maker_new {w W : World} {kb : Nat} {rp : Option Addr} {raw : List Int} {rc : Nat} (hW : Below w.heap.size w W) (hk : w.heap.size ≤ kb) (hr : W.heap[kb]? = some (.cells #[.slice rp raw.length rc, .int .i64 0] 26 (0, 0))) (hb : ∀ x ∈ raw, -9223372036854775808 ≤ x ∧ x ≤ 9223372036854775807) (hl : raw.length ≤ 9223372036854775807)
    (hc : raw = [] ∨ ∃ b o, rp = some ⟨b, o, none⟩ ∧ b < w.heap.size ∧ ∀ (i : Nat) (hi : i < raw.length), w.cell? ⟨b, o + i, none⟩ = some (.int .i64 raw[i])) : MakerAt W kb rp raw rc 0 := by
  refine ⟨hr, ?_, hb, hl⟩
  rcases hc with e | ⟨b, o, e1, e2, e3⟩
  · exact .inl e
  · have := hW.size
    exact .inr ⟨b, o, e1, by omega, by omega, fun i hi => (hW.cell (p := ⟨b, o + i, none⟩) e2).trans (e3 i hi)⟩
theorem in_moved {W W' : World} {n lo kb : Nat} {x : MD} (h : MD.In W.heap.size W n x) (ha : MD.Above lo n x) (hk : kb < lo) (hb : Moved kb W W') : MD.In W'.heap.size W' n x :=
  MD.In.mono hb.size _ _ (MD.In.off (og := some kb) (fun b b1 b2 => hb.block b b1 (fun e => b2 (by rw [e]))) _ _ h (MD.Above.off (fun g e => by cases e; exact hk) _ _ ha))
theorem right_of {x : MD} (h1 : MD.full 4 x = true) (h2 : MD.size 4 x ≤ sz 3) : MD.right 4 x = true := by
  have e : sz 3 = 40 := rfl
  show (MD.full 4 x && decide (MD.size 4 x ≤ 100)) = true
  rw [h1, decide_eq_true (show MD.size 4 x ≤ 100 by omega)]; rfl
attribute [local go_sem] refold2 cell3_0 cell3_1 b28_0 b28_01
set_option maxRecDepth 100000 in
set_option maxHeartbeats 16000000 in
theorem alikeLaw_any (p1 p2 p3 : Option Addr) (raw1 raw2 raw3 : List Int) (c1 c2 c3 : Nat) (w : World) (hN : NamesAt w)
    (hb1 : ∀ x ∈ raw1, -9223372036854775808 ≤ x ∧ x ≤ 9223372036854775807) (hl1 : raw1.length ≤ 9223372036854775807) (hc1 : raw1 = [] ∨ ∃ b o, p1 = some ⟨b, o, none⟩ ∧ b < w.heap.size ∧ ∀ (i : Nat) (hi : i < raw1.length), w.cell? ⟨b, o + i, none⟩ = some (.int .i64 raw1[i])) (hb2 : ∀ x ∈ raw2, -9223372036854775808 ≤ x ∧ x ≤ 9223372036854775807) (hl2 : raw2.length ≤ 9223372036854775807) (hc2 : raw2 = [] ∨ ∃ b o, p2 = some ⟨b, o, none⟩ ∧ b < w.heap.size ∧ ∀ (i : Nat) (hi : i < raw2.length), w.cell? ⟨b, o + i, none⟩ = some (.int .i64 raw2[i])) (hb3 : ∀ x ∈ raw3, -9223372036854775808 ≤ x ∧ x ≤ 9223372036854775807) (hl3 : raw3.length ≤ 9223372036854775807) (hc3 : raw3 = [] ∨ ∃ b o, p3 = some ⟨b, o, none⟩ ∧ b < w.heap.size ∧ ∀ (i : Nat) (hi : i < raw3.length), w.cell? ⟨b, o + i, none⟩ = some (.int .i64 raw3[i])) :
    Calls Tryd.prog 3 #[.slice p1 raw1.length c1, .slice p2 raw2.length c2, .slice p3 raw3.length c3] w fun r w' => r = .returned (.bool true) ∧ Below w.heap.size w w' := by
  have HK1 : Hid (∀ (W : World) (kb : Nat), Below w.heap.size w W → w.heap.size ≤ kb → W.heap[kb]? = some (.cells #[.slice p1 raw1.length c1, .int .i64 0] 26 (0, 0)) → MakerAt W kb p1 raw1 c1 0) := fun W kb hW hk hr => maker_new hW hk hr hb1 hl1 hc1
  have HK2 : Hid (∀ (W : World) (kb : Nat), Below w.heap.size w W → w.heap.size ≤ kb → W.heap[kb]? = some (.cells #[.slice p2 raw2.length c2, .int .i64 0] 26 (0, 0)) → MakerAt W kb p2 raw2 c2 0) := fun W kb hW hk hr => maker_new hW hk hr hb2 hl2 hc2
  have HK3 : Hid (∀ (W : World) (kb : Nat), Below w.heap.size w W → w.heap.size ≤ kb → W.heap[kb]? = some (.cells #[.slice p3 raw3.length c3, .int .i64 0] 26 (0, 0)) → MakerAt W kb p3 raw3 c3 0) := fun W kb hW hk hr => maker_new hW hk hr hb3 hl3 hc3
  clear hb1 hb2 hb3 hc1 hc2 hc3 hl1 hl2 hl3
  go_enter Tryd.func3, Tryd.ntmps3
  go_wp2_with fail
  refine (known_any _ hN).mono ?_
  rintro r w1 ⟨rfl, b1⟩
  have HB1 : Hid (Below w.heap.size w w1) := b1
  clear b1
  go_wp2_with fail
  obtain ⟨W0, hW0⟩ : ∃ W0, W0 = ((w1.alloc (.cells #[.slice p1 raw1.length c1, .int .i64 0] 26)).alloc (.cells #[.slice p2 raw2.length c2, .int .i64 0] 26)).alloc (.cells #[.slice p3 raw3.length c3, .int .i64 0] 26) := ⟨_, rfl⟩
  have hs0 : W0.heap.size = w1.heap.size + 3 := by rw [hW0]; simp
  have hr1 : W0.heap[w1.heap.size]? = some (.cells #[.slice p1 raw1.length c1, .int .i64 0] 26 (0, 0)) := by rw [hW0]; exact (Below.heap_alloc _ _ _ (by simp; omega)).trans ((Below.heap_alloc _ _ _ (by simp)).trans (heap_alloc_new _ _))
  have hr2 : W0.heap[w1.heap.size + 1]? = some (.cells #[.slice p2 raw2.length c2, .int .i64 0] 26 (0, 0)) := by rw [hW0]; exact (Below.heap_alloc _ _ _ (by simp)).trans (alloc_at (by simp))
  have hr3 : W0.heap[w1.heap.size + 2]? = some (.cells #[.slice p3 raw3.length c3, .int .i64 0] 26 (0, 0)) := by rw [hW0]; exact alloc_at (by simp)
  have hB0 : Below w.heap.size w W0 := by
    rw [hW0]; exact ((HB1.out.alloc HB1.out.size _).alloc (by have := HB1.out.size; simp; omega) _).alloc (by have := HB1.out.size; simp; omega) _
  have hsz := HB1.out.size
  rw [← hW0]
  clear hW0
  have HB0 : Hid (Below w.heap.size w W0 ∧ W0.heap.size = w1.heap.size + 3 ∧ w.heap.size ≤ w1.heap.size) := ⟨hB0, hs0, hsz⟩
  have HR1 : Hid _ := hr1
  have HR2 : Hid _ := hr2
  have HR3 : Hid _ := hr3
  clear hB0 hs0 hsz hr1 hr2 hr3
  refine (made_all w1.heap.size p1 raw1 c1 _ (HK1.out _ _ HB0.out.1 HB0.out.2.2 HR1.out)).mono ?_
  rintro r w3 ⟨x, a3, rfl, hin, hful, hsz, hab, _, _, hv3⟩
  have HX : Hid (MD.In w3.heap.size w3 4 x ∧ MD.right 4 x = true ∧ MD.Above W0.heap.size 4 x) := ⟨hin, right_of hful hsz, hab⟩
  have HV3 : Hid (Below w1.heap.size W0 w3 ∧ w3.heap[w1.heap.size + 1]? = some (.cells #[.slice p2 raw2.length c2, .int .i64 0] 26 (0, 0)) ∧ w3.heap[w1.heap.size + 2]? = some (.cells #[.slice p3 raw3.length c3, .int .i64 0] 26 (0, 0))) := by
    have := HB0.out.2.1
    exact ⟨hv3.low (by omega), (hv3.block _ (by omega) (by omega)).trans HR2.out, (hv3.block _ (by omega) (by omega)).trans HR3.out⟩
  clear hin hful hsz hab hv3 HR1 HR2 HR3
  obtain ⟨⟨x0, x1, x2, x3, x4, x5, x6, x7, x8, xp, xpath, xpc⟩, xip, xic, xit⟩ := x
  simp only [MD.val, D]
  go_wp2_with fail
  refine (made_all (w1.heap.size + 1) p2 raw2 c2 _ (HK2.out _ _ (HB0.out.1.trans (HV3.out.1.mono HB0.out.2.2)) (by have := HB0.out.2.2; omega) HV3.out.2.1)).mono ?_
  rintro r w4 ⟨y, a4, rfl, hin, hful, hsz, hab, _, _, hv4⟩
  have HY : Hid (MD.In w4.heap.size w4 4 y ∧ MD.right 4 y = true ∧ MD.Above w3.heap.size 4 y) := ⟨hin, right_of hful hsz, hab⟩
  have HX4 : Hid (MD.In w4.heap.size w4 4 ⟨⟨x0, x1, x2, x3, x4, x5, x6, x7, x8, xp, xpath, xpc⟩, xip, xic, xit⟩ ∧ MD.right 4 ⟨⟨x0, x1, x2, x3, x4, x5, x6, x7, x8, xp, xpath, xpc⟩, xip, xic, xit⟩ = true ∧ MD.Above W0.heap.size 4 ⟨⟨x0, x1, x2, x3, x4, x5, x6, x7, x8, xp, xpath, xpc⟩, xip, xic, xit⟩) := ⟨in_moved HX.out.1 HX.out.2.2 (by have := HB0.out.2.1; omega) hv4, HX.out.2⟩
  have HV4 : Hid (Below w1.heap.size W0 w4 ∧ w4.heap[w1.heap.size + 2]? = some (.cells #[.slice p3 raw3.length c3, .int .i64 0] 26 (0, 0))) := by
    have h1 := HB0.out.2.1
    have h2 := HV3.out.1.size
    exact ⟨HV3.out.1.trans ((hv4.low (by omega)).mono (by omega)), (hv4.block _ (by omega) (by omega)).trans HV3.out.2.2⟩
  have HZ4 : Hid (W0.heap.size ≤ w3.heap.size) := HV3.out.1.size
  clear hin hful hsz hab hv4 HX HV3
  obtain ⟨⟨y0, y1, y2, y3, y4, y5, y6, y7, y8, yp, ypath, ypc⟩, yip, yic, yit⟩ := y
  simp only [MD.val, D]
  go_wp2_with fail
  refine (made_all (w1.heap.size + 2) p3 raw3 c3 _ (HK3.out _ _ (HB0.out.1.trans (HV4.out.1.mono HB0.out.2.2)) (by have := HB0.out.2.2; omega) HV4.out.2)).mono ?_
  rintro r w5 ⟨z, a5, rfl, hin, hful, hsz, hab, _, _, hv5⟩
  have HZ : Hid (MD.In w5.heap.size w5 4 z ∧ MD.right 4 z = true) := ⟨hin, right_of hful hsz⟩
  have HX : Hid (MD.In w5.heap.size w5 4 ⟨⟨x0, x1, x2, x3, x4, x5, x6, x7, x8, xp, xpath, xpc⟩, xip, xic, xit⟩ ∧ MD.right 4 ⟨⟨x0, x1, x2, x3, x4, x5, x6, x7, x8, xp, xpath, xpc⟩, xip, xic, xit⟩ = true) := ⟨in_moved HX4.out.1 HX4.out.2.2 (by have := HB0.out.2.1; omega) hv5, HX4.out.2.1⟩
  have HY5 : Hid (MD.In w5.heap.size w5 4 ⟨⟨y0, y1, y2, y3, y4, y5, y6, y7, y8, yp, ypath, ypc⟩, yip, yic, yit⟩ ∧ MD.right 4 ⟨⟨y0, y1, y2, y3, y4, y5, y6, y7, y8, yp, ypath, ypc⟩, yip, yic, yit⟩ = true) := ⟨in_moved HY.out.1 HY.out.2.2 (by have := HB0.out.2.1; have := HZ4.out; omega) hv5, HY.out.2.1⟩
  have HV5 : Hid (Below w.heap.size w w5) := by
    have h1 := HB0.out.2.1
    have h2 := HV4.out.1.size
    exact HB0.out.1.trans ((HV4.out.1.trans ((hv5.low (by omega)).mono (by omega))).mono HB0.out.2.2)
  clear hin hful hsz hab hv5 HX4 HY HV4 HZ4 HB0 HK1 HK2 HK3
  obtain ⟨⟨z0, z1, z2, z3, z4, z5, z6, z7, z8, zp, zpath, zpc⟩, zip, zic, zit⟩ := z
  simp only [MD.val, D]
  go_wp2_with fail
  obtain ⟨W6, hW6⟩ : ∃ W6, W6 = w5.alloc (.cells (List.toArray (.int .i64 x0 :: .string x1 :: .int .i64 x2 :: .int .u64 x3 :: .string x4 :: .int .i64 x5 :: .int .i64 x6 :: .int .i64 x7 :: .int .i64 x8 :: .slice xp xpath.length xpc :: .slice xip xit.length xic :: .int .i64 y0 :: .string y1 :: .int .i64 y2 :: .int .u64 y3 :: .string y4 :: .int .i64 y5 :: .int .i64 y6 :: .int .i64 y7 :: .int .i64 y8 :: .slice yp ypath.length ypc :: .slice yip yit.length yic :: .int .i64 z0 :: .string z1 :: .int .i64 z2 :: .int .u64 z3 :: .string z4 :: .int .i64 z5 :: .int .i64 z6 :: .int .i64 z7 :: .int .i64 z8 :: .slice zp zpath.length zpc :: .slice zip zit.length zic :: [])) 32) := ⟨_, rfl⟩
  have hr6 : W6.heap[w5.heap.size]? = some (.cells (List.toArray (.int .i64 x0 :: .string x1 :: .int .i64 x2 :: .int .u64 x3 :: .string x4 :: .int .i64 x5 :: .int .i64 x6 :: .int .i64 x7 :: .int .i64 x8 :: .slice xp xpath.length xpc :: .slice xip xit.length xic :: .int .i64 y0 :: .string y1 :: .int .i64 y2 :: .int .u64 y3 :: .string y4 :: .int .i64 y5 :: .int .i64 y6 :: .int .i64 y7 :: .int .i64 y8 :: .slice yp ypath.length ypc :: .slice yip yit.length yic :: .int .i64 z0 :: .string z1 :: .int .i64 z2 :: .int .u64 z3 :: .string z4 :: .int .i64 z5 :: .int .i64 z6 :: .int .i64 z7 :: .int .i64 z8 :: .slice zp zpath.length zpc :: .slice zip zit.length zic :: [])) 32 (0, 0)) := by rw [hW6]; exact heap_alloc_new _ _
  have hz6 : w5.heap.size < W6.heap.size := (Array.getElem?_eq_some_iff.1 hr6).1
  have hw6 : Below w.heap.size w W6 := by rw [hW6]; exact HV5.out.alloc HV5.out.size _
  have hw56 : Below w5.heap.size w5 W6 := by rw [hW6]; exact below1 _ _
  obtain ⟨ls, hO, hCs⟩ : ∃ ls : Nat → MD, (∀ i, MD.In W6.heap.size W6 4 (ls i) ∧ MD.right 4 (ls i) = true) ∧ ∀ W, Below W6.heap.size W6 W → ∀ i, i < 3 → MD.CellsAt W w5.heap.size (i * 11) (ls i) := by
    refine ⟨fun i => if i = 0 then ⟨⟨x0, x1, x2, x3, x4, x5, x6, x7, x8, xp, xpath, xpc⟩, xip, xic, xit⟩ else if i = 1 then ⟨⟨y0, y1, y2, y3, y4, y5, y6, y7, y8, yp, ypath, ypc⟩, yip, yic, yit⟩ else ⟨⟨z0, z1, z2, z3, z4, z5, z6, z7, z8, zp, zpath, zpc⟩, zip, zic, zit⟩, fun i => ?_, fun W hW i hi => ?_⟩
    · dsimp only
      by_cases e0 : i = 0
      · rw [if_pos e0]; exact ⟨HX.out.1.later (Nat.le_refl _) hw56, HX.out.2⟩
      · by_cases e1 : i = 1
        · rw [if_neg e0, if_pos e1]; exact ⟨HY5.out.1.later (Nat.le_refl _) hw56, HY5.out.2⟩
        · rw [if_neg e0, if_neg e1]; exact ⟨HZ.out.1.later (Nat.le_refl _) hw56, HZ.out.2⟩
    · have hrW := (hW.block _ hz6).trans hr6
      obtain rfl | rfl | rfl : i = 0 ∨ i = 1 ∨ i = 2 := by omega
      · intro j hj
        rw [row_at hrW]
        match j, hj with
        | 0, _ => rfl | 1, _ => rfl | 2, _ => rfl | 3, _ => rfl | 4, _ => rfl | 5, _ => rfl | 6, _ => rfl | 7, _ => rfl | 8, _ => rfl | 9, _ => rfl | 10, _ => rfl
      · intro j hj
        rw [row_at hrW]
        match j, hj with
        | 0, _ => rfl | 1, _ => rfl | 2, _ => rfl | 3, _ => rfl | 4, _ => rfl | 5, _ => rfl | 6, _ => rfl | 7, _ => rfl | 8, _ => rfl | 9, _ => rfl | 10, _ => rfl
      · intro j hj
        rw [row_at hrW]
        match j, hj with
        | 0, _ => rfl | 1, _ => rfl | 2, _ => rfl | 3, _ => rfl | 4, _ => rfl | 5, _ => rfl | 6, _ => rfl | 7, _ => rfl | 8, _ => rfl | 9, _ => rfl | 10, _ => rfl
  have HO : Hid _ := hO
  have HC : Hid _ := hCs
  have HNm : Hid (∀ W, Below W6.heap.size W6 W → NamesAt W) := fun W hW => hN.kept (hw6.trans (hW.mono hw6.size))
  have HW : Hid (∀ W, Below W6.heap.size W6 W → Below w.heap.size w W) := fun W hW => hw6.trans (hW.mono hw6.size)
  rw [← hW6]
  clear hW6 hr6 hz6 hw6 hw56 hO hCs HX HY5 HZ HV5 HB1 hN
  go_loopw [12, 13, 14, 15, 16, 17, 18, 19, 20, 21, 22, 23, 24, 25, 26, 27, 28, 29, 30, 31, 32] (fun i _ _ _ _ _ _ _ _ _ _ _ _ _ _ _ _ _ _ _ _ wr => ∃ a : Nat, a ≤ 3 ∧ i = .int .i64 a ∧ Hid (Below W6.heap.size W6 wr)) (fun i _ _ _ _ _ _ _ _ _ _ _ _ _ _ _ _ _ _ _ _ _ => 3 - (intOf i).toNat)
  case atStart => exact ⟨0, by omega, rfl, Below.refl _ _⟩
  case round =>
    obtain ⟨a, ha, rfl, HT⟩ := hrel
    have Rwr : Below wr.heap.size wr wr := Below.refl _ _
    by_cases lta' : a < 3
    · have lta : (a : Int) < 3 := by omega
      have HOa : Hid ((∀ W, Below W6.heap.size W6 W → MD.In W.heap.size W 4 (ls a)) ∧ MD.right 4 (ls a) = true) := ⟨fun W hW => (HO.out a).1.later (Nat.le_refl _) hW, (HO.out a).2⟩
      have HC0 : Hid (∀ W, Below W6.heap.size W6 W → MD.CellsAt W w5.heap.size (a * 11) (ls a)) := fun W hW => HC.out W hW a lta'
      have HRi : Hid (∀ W, Below wr.heap.size wr W → Calls Tryd.prog 8 #[(ls a).val] W (fun r w' => r = .returned (.bool true) ∧ Below wr.heap.size wr w')) := fun W hW => (Right_any 4 (ls a) W (HNm.out W (HT.out.trans (hW.mono HT.out.size))) (HOa.out.1 W (HT.out.trans (hW.mono HT.out.size)))).mono fun _ _ h => ⟨by rw [h.1, HOa.out.2], hW.trans (h.2.mono hW.size)⟩
      have HBr : Hid (∀ W, Below wr.heap.size wr W → Calls Tryd.prog 9 #[(ls a).val] W (fun r w' => r = .returned (.bool (brkR 4 (ls a))) ∧ Below wr.heap.size wr w')) := fun W hW => (broken_any 4 (ls a) W (HOa.out.1 W (HT.out.trans (hW.mono HT.out.size)))).mono fun _ _ h => ⟨h.1, hW.trans (h.2.mono hW.size)⟩
      have HEa : Hid (∀ W, Below wr.heap.size wr W → Calls Tryd.prog 10 #[(ls a).val, (ls a).val] W (fun r w' => ∃ v, r = .returned (.tuple #[.bool (MD.eqv 4 (ls a) (ls a)).1, v]) ∧ IsErr v ((MD.eqv 4 (ls a) (ls a)).2.size == 0) ∧ Below wr.heap.size wr w')) := fun W hW => (Equal_all _ _ W (HNm.out W (HT.out.trans (hW.mono HT.out.size))) (HOa.out.1 W (HT.out.trans (hW.mono HT.out.size))) (HOa.out.1 W (HT.out.trans (hW.mono HT.out.size))) HOa.out.2 HOa.out.2).mono fun _ _ ⟨v, e1, e2, e3⟩ => ⟨v, e1, e2, hW.trans (e3.mono hW.size)⟩
      have HKy : Hid (∀ W, Below wr.heap.size wr W → Calls Tryd.prog 11 #[(ls a).val] W (fun r w' => ∃ v, r = .returned v ∧ IsErr v ((MD.eqv 4 (ls a) (ls a)).2.size == 0) ∧ Below wr.heap.size wr w')) := fun W hW => (Key_all (ls a) W (HNm.out W (HT.out.trans (hW.mono HT.out.size))) (HOa.out.1 W (HT.out.trans (hW.mono HT.out.size))) HOa.out.2).mono fun _ _ ⟨v, e1, e2, e3⟩ => ⟨v, e1, e2, hW.trans (e3.mono hW.size)⟩
      have HSm : Hid (∀ W, Below wr.heap.size wr W → Calls Tryd.prog 12 #[(ls a).val, (ls a).val] W (fun r w' => r = .returned (.bool true) ∧ Below wr.heap.size wr w')) := fun W hW => (same_any 4 (ls a) (ls a) W (HOa.out.1 W (HT.out.trans (hW.mono HT.out.size))) (HOa.out.1 W (HT.out.trans (hW.mono HT.out.size)))).mono fun _ _ h => ⟨by rw [h.1, same_self], hW.trans (h.2.mono hW.size)⟩
      have HOw : Hid (brkR 4 (ls a) = false → (MD.eqv 4 (ls a) (ls a)).1 = ((MD.eqv 4 (ls a) (ls a)).2.size == 0)) := own_fact (fl_of HOa.out.1) HOa.out.2
      obtain ⟨bad, hbad⟩ : ∃ q, q = brkR 4 (ls a) := ⟨_, rfl⟩
      obtain ⟨eb, heb⟩ : ∃ q, q = ((MD.eqv 4 (ls a) (ls a)).2.size == 0) := ⟨_, rfl⟩
      rw [← hbad] at HBr HOw
      rw [← heb] at HEa HKy HOw
      generalize (MD.eqv 4 (ls a) (ls a)).1 = own at HEa HOw
      have HEQ : Hid (bad = brkR 4 (ls a) ∧ eb = ((MD.eqv 4 (ls a) (ls a)).2.size == 0)) := ⟨hbad, heb⟩
      clear hbad heb
      generalize ls a = xa at HOa HC0 HRi HBr HEa HKy HSm HEQ
      obtain ⟨⟨p0, p1, p2, p3, p4, p5, p6, p7, p8, pp, ppath, ppc⟩, pip, pic, pit⟩ := xa
      simp only [MD.val, D] at HRi HBr HEa HKy HSm
      have HSaa : Hid (∀ W, Below wr.heap.size wr W → MD.CellsAt W w5.heap.size (a * 11) ⟨⟨p0, p1, p2, p3, p4, p5, p6, p7, p8, pp, ppath, ppc⟩, pip, pic, pit⟩ ∧ MD.CellsAt W w5.heap.size (a * 11) ⟨⟨p0, p1, p2, p3, p4, p5, p6, p7, p8, pp, ppath, ppc⟩, pip, pic, pit⟩) := fun W hW => ⟨HC0.out W (HT.out.trans (hW.mono HT.out.size)), HC0.out W (HT.out.trans (hW.mono HT.out.size))⟩
      have hCp := (HSaa.out _ Rwr).1
      have pc0 : wr.cell? ⟨w5.heap.size, a * 11, none⟩ = some (.int .i64 p0) := hCp 0 (by omega)
      have pc1 : wr.cell? ⟨w5.heap.size, a * 11 + 1, none⟩ = some (.string p1) := hCp 1 (by omega)
      have pc2 : wr.cell? ⟨w5.heap.size, a * 11 + 2, none⟩ = some (.int .i64 p2) := hCp 2 (by omega)
      have pc3 : wr.cell? ⟨w5.heap.size, a * 11 + 3, none⟩ = some (.int .u64 p3) := hCp 3 (by omega)
      have pc4 : wr.cell? ⟨w5.heap.size, a * 11 + 4, none⟩ = some (.string p4) := hCp 4 (by omega)
      have pc5 : wr.cell? ⟨w5.heap.size, a * 11 + 5, none⟩ = some (.int .i64 p5) := hCp 5 (by omega)
      have pc6 : wr.cell? ⟨w5.heap.size, a * 11 + 6, none⟩ = some (.int .i64 p6) := hCp 6 (by omega)
      have pc7 : wr.cell? ⟨w5.heap.size, a * 11 + 7, none⟩ = some (.int .i64 p7) := hCp 7 (by omega)
      have pc8 : wr.cell? ⟨w5.heap.size, a * 11 + 8, none⟩ = some (.int .i64 p8) := hCp 8 (by omega)
      have pc9 : wr.cell? ⟨w5.heap.size, a * 11 + 9, none⟩ = some (.slice pp ppath.length ppc) := hCp 9 (by omega)
      have pc10 : wr.cell? ⟨w5.heap.size, a * 11 + 10, none⟩ = some (.slice pip pit.length pic) := hCp 10 (by omega)
      clear hCp
      go_wp2_with fail
      refine (HRi.out _ Rwr).mono ?_
      rintro r v1 ⟨rfl, Rv1⟩
      clear pc0 pc1 pc2 pc3 pc4 pc5 pc6 pc7 pc8 pc9 pc10
      have hCp := (HSaa.out _ Rv1).1
      have pc0 : v1.cell? ⟨w5.heap.size, a * 11, none⟩ = some (.int .i64 p0) := hCp 0 (by omega)
      have pc1 : v1.cell? ⟨w5.heap.size, a * 11 + 1, none⟩ = some (.string p1) := hCp 1 (by omega)
      have pc2 : v1.cell? ⟨w5.heap.size, a * 11 + 2, none⟩ = some (.int .i64 p2) := hCp 2 (by omega)
      have pc3 : v1.cell? ⟨w5.heap.size, a * 11 + 3, none⟩ = some (.int .u64 p3) := hCp 3 (by omega)
      have pc4 : v1.cell? ⟨w5.heap.size, a * 11 + 4, none⟩ = some (.string p4) := hCp 4 (by omega)
      have pc5 : v1.cell? ⟨w5.heap.size, a * 11 + 5, none⟩ = some (.int .i64 p5) := hCp 5 (by omega)
      have pc6 : v1.cell? ⟨w5.heap.size, a * 11 + 6, none⟩ = some (.int .i64 p6) := hCp 6 (by omega)
      have pc7 : v1.cell? ⟨w5.heap.size, a * 11 + 7, none⟩ = some (.int .i64 p7) := hCp 7 (by omega)
      have pc8 : v1.cell? ⟨w5.heap.size, a * 11 + 8, none⟩ = some (.int .i64 p8) := hCp 8 (by omega)
      have pc9 : v1.cell? ⟨w5.heap.size, a * 11 + 9, none⟩ = some (.slice pp ppath.length ppc) := hCp 9 (by omega)
      have pc10 : v1.cell? ⟨w5.heap.size, a * 11 + 10, none⟩ = some (.slice pip pit.length pic) := hCp 10 (by omega)
      clear hCp
      go_wp2_with fail
      refine (HBr.out _ Rv1).mono ?_
      rintro r v2 ⟨rfl, Rv2⟩
      clear pc0 pc1 pc2 pc3 pc4 pc5 pc6 pc7 pc8 pc9 pc10
      go_wp2_with fail
      refine wp_region_noPanic ?_
      refine wp_region_held (S := fun W => (∀ i, i < 11 → W.cell? ⟨w5.heap.size, a * 11 + i, none⟩ = (#[.int .i64 p0, .string p1, .int .i64 p2, .int .u64 p3, .string p4, .int .i64 p5, .int .i64 p6, .int .i64 p7, .int .i64 p8, .slice pp ppath.length ppc, .slice pip pit.length pic] : Array Value)[i]?) ∧ (∀ i, i < 11 → W.cell? ⟨w5.heap.size, a * 11 + i, none⟩ = (#[.int .i64 p0, .string p1, .int .i64 p2, .int .u64 p3, .string p4, .int .i64 p5, .int .i64 p6, .int .i64 p7, .int .i64 p8, .slice pp ppath.length ppc, .slice pip pit.length pic] : Array Value)[i]?)) (by kernel_rfl) ?_
      obtain ⟨v3d, hv3d⟩ : ∃ W4, W4 = v2.drew := ⟨_, rfl⟩
      have e4 : ({ v2 with drawn := v2.drawn + 1 } : World) = v3d := hv3d.symm
      rw [e4]
      have Bv3d : Below v2.heap.size v2 v3d := by rw [hv3d]; exact (Below.refl _ _).drew
      have Rv3d : Below wr.heap.size wr v3d := Rv2.trans (Bv3d.mono Rv2.size)
      have hS := HSaa.out v3d Rv3d
      clear e4 hv3d
      refine wpAnyH_take (i := 0) (v := .slice (some ⟨w5.heap.size, 0, none⟩) 3 3) rfl (by kernel_rfl) (by kernel_rfl) (by kernel_rfl) (fun _ _ _ h => h) (Or.inl ⟨by rfl, ?r⟩) hS ?_
      case r => intro W hW; simp [go_sem, execOp, Act.eval]
      simp only [List.getElem_toArray, List.getElem_cons_zero, Act.put, List.setIfInBounds_toArray, List.set_cons_succ, List.set_cons_zero]
      refine wpAnyH_take (i := 1) (v := .int .i64 a) rfl (by kernel_rfl) (by kernel_rfl) (by kernel_rfl) (fun _ _ _ h => h) (Or.inl ⟨by rfl, ?r⟩) hS ?_
      case r => intro W hW; simp [go_sem, execOp, Act.eval]
      simp only [List.getElem_toArray, List.getElem_cons_zero, List.getElem_cons_succ, Act.put, List.setIfInBounds_toArray, List.set_cons_succ, List.set_cons_zero]
      refine wpAnyH_take (i := 2) (v := .pointer (some ⟨w5.heap.size, a * 11, none⟩)) rfl (by kernel_rfl) (by kernel_rfl) (by kernel_rfl) (fun _ _ _ h => h) (Or.inl ⟨by rfl, ?r⟩) hS ?_
      case r => intro W hW; simp [go_sem, execOp, Act.eval, lta]
      simp only [List.getElem_toArray, List.getElem_cons_zero, List.getElem_cons_succ, Act.put, List.setIfInBounds_toArray, List.set_cons_succ, List.set_cons_zero]
      refine wpAnyH_take (i := 3) (v := .agg #[.int .i64 p0, .string p1, .int .i64 p2, .int .u64 p3, .string p4, .int .i64 p5, .int .i64 p6, .int .i64 p7, .int .i64 p8, .slice pp ppath.length ppc, .slice pip pit.length pic]) rfl (by kernel_rfl) (by kernel_rfl) (by kernel_rfl) (fun _ _ _ h => h) (Or.inl ⟨by rfl, ?r⟩) hS ?_
      case r => intro W hW; have e0 : W.cell? ⟨w5.heap.size, a * 11, none⟩ = some (.int .i64 p0) := hW.1 0 (by omega); have e1 : W.cell? ⟨w5.heap.size, a * 11 + 1, none⟩ = some (.string p1) := hW.1 1 (by omega); have e2 : W.cell? ⟨w5.heap.size, a * 11 + 2, none⟩ = some (.int .i64 p2) := hW.1 2 (by omega); have e3 : W.cell? ⟨w5.heap.size, a * 11 + 3, none⟩ = some (.int .u64 p3) := hW.1 3 (by omega); have e4 : W.cell? ⟨w5.heap.size, a * 11 + 4, none⟩ = some (.string p4) := hW.1 4 (by omega); have e5 : W.cell? ⟨w5.heap.size, a * 11 + 5, none⟩ = some (.int .i64 p5) := hW.1 5 (by omega); have e6 : W.cell? ⟨w5.heap.size, a * 11 + 6, none⟩ = some (.int .i64 p6) := hW.1 6 (by omega); have e7 : W.cell? ⟨w5.heap.size, a * 11 + 7, none⟩ = some (.int .i64 p7) := hW.1 7 (by omega); have e8 : W.cell? ⟨w5.heap.size, a * 11 + 8, none⟩ = some (.int .i64 p8) := hW.1 8 (by omega); have e9 : W.cell? ⟨w5.heap.size, a * 11 + 9, none⟩ = some (.slice pp ppath.length ppc) := hW.1 9 (by omega); have e10 : W.cell? ⟨w5.heap.size, a * 11 + 10, none⟩ = some (.slice pip pit.length pic) := hW.1 10 (by omega); simp [go_sem, execOp, Act.eval, e0, e1, e2, e3, e4, e5, e6, e7, e8, e9, e10]
      simp only [List.getElem_toArray, List.getElem_cons_zero, List.getElem_cons_succ, Act.put, List.setIfInBounds_toArray, List.set_cons_succ, List.set_cons_zero]
      refine wpAnyH_take (i := 4) (v := .slice (some ⟨w5.heap.size, 0, none⟩) 3 3) rfl (by kernel_rfl) (by kernel_rfl) (by kernel_rfl) (fun _ _ _ h => h) (Or.inl ⟨by rfl, ?r⟩) hS ?_
      case r => intro W hW; simp [go_sem, execOp, Act.eval]
      simp only [List.getElem_toArray, List.getElem_cons_zero, List.getElem_cons_succ, Act.put, List.setIfInBounds_toArray, List.set_cons_succ, List.set_cons_zero]
      refine wpAnyH_take (i := 5) (v := .int .i64 a) rfl (by kernel_rfl) (by kernel_rfl) (by kernel_rfl) (fun _ _ _ h => h) (Or.inl ⟨by rfl, ?r⟩) hS ?_
      case r => intro W hW; simp [go_sem, execOp, Act.eval]
      simp only [List.getElem_toArray, List.getElem_cons_zero, List.getElem_cons_succ, Act.put, List.setIfInBounds_toArray, List.set_cons_succ, List.set_cons_zero]
      refine wpAnyH_take (i := 6) (v := .pointer (some ⟨w5.heap.size, a * 11, none⟩)) rfl (by kernel_rfl) (by kernel_rfl) (by kernel_rfl) (fun _ _ _ h => h) (Or.inl ⟨by rfl, ?r⟩) hS ?_
      case r => intro W hW; simp [go_sem, execOp, Act.eval, lta]
      simp only [List.getElem_toArray, List.getElem_cons_zero, List.getElem_cons_succ, Act.put, List.setIfInBounds_toArray, List.set_cons_succ, List.set_cons_zero]
      refine wpAnyH_take (i := 7) (v := .agg #[.int .i64 p0, .string p1, .int .i64 p2, .int .u64 p3, .string p4, .int .i64 p5, .int .i64 p6, .int .i64 p7, .int .i64 p8, .slice pp ppath.length ppc, .slice pip pit.length pic]) rfl (by kernel_rfl) (by kernel_rfl) (by kernel_rfl) (fun _ _ _ h => h) (Or.inl ⟨by rfl, ?r⟩) hS ?_
      case r => intro W hW; have e0 : W.cell? ⟨w5.heap.size, a * 11, none⟩ = some (.int .i64 p0) := hW.2 0 (by omega); have e1 : W.cell? ⟨w5.heap.size, a * 11 + 1, none⟩ = some (.string p1) := hW.2 1 (by omega); have e2 : W.cell? ⟨w5.heap.size, a * 11 + 2, none⟩ = some (.int .i64 p2) := hW.2 2 (by omega); have e3 : W.cell? ⟨w5.heap.size, a * 11 + 3, none⟩ = some (.int .u64 p3) := hW.2 3 (by omega); have e4 : W.cell? ⟨w5.heap.size, a * 11 + 4, none⟩ = some (.string p4) := hW.2 4 (by omega); have e5 : W.cell? ⟨w5.heap.size, a * 11 + 5, none⟩ = some (.int .i64 p5) := hW.2 5 (by omega); have e6 : W.cell? ⟨w5.heap.size, a * 11 + 6, none⟩ = some (.int .i64 p6) := hW.2 6 (by omega); have e7 : W.cell? ⟨w5.heap.size, a * 11 + 7, none⟩ = some (.int .i64 p7) := hW.2 7 (by omega); have e8 : W.cell? ⟨w5.heap.size, a * 11 + 8, none⟩ = some (.int .i64 p8) := hW.2 8 (by omega); have e9 : W.cell? ⟨w5.heap.size, a * 11 + 9, none⟩ = some (.slice pp ppath.length ppc) := hW.2 9 (by omega); have e10 : W.cell? ⟨w5.heap.size, a * 11 + 10, none⟩ = some (.slice pip pit.length pic) := hW.2 10 (by omega); simp [go_sem, execOp, Act.eval, e0, e1, e2, e3, e4, e5, e6, e7, e8, e9, e10]
      simp only [List.getElem_toArray, List.getElem_cons_zero, List.getElem_cons_succ, Act.put, List.setIfInBounds_toArray, List.set_cons_succ, List.set_cons_zero]
      refine wpAnyH_all (rs := [8]) (by kernel_rfl) (by simp) (fun i2 hi2 => ?_)
      obtain rfl : i2 = 8 := by simpa using hi2
      clear hi2
      refine wpOp_step rfl (fun K hK => ite_yes rfl ?_)
      simp only [List.getElem_toArray, List.getElem_cons_zero, List.getElem_cons_succ]
      go_simp
      refine (HEa.out _ Rv3d).mono ?_
      rintro e v3 ⟨e0, rfl, He0, Rv3⟩
      go_simp
      refine hK _ _ ⟨HSaa.out _ Rv3, ?_⟩
      clear hK K hS
      have hS := HSaa.out _ Rv3
      refine wpAnyH_take (i := 9) (v := .tuple #[.bool own, e0]) rfl (by kernel_rfl) (by kernel_rfl) (by kernel_rfl) (fun _ _ _ h => h) (Or.inl ⟨by rfl, ?r⟩) hS ?_
      case r => intro W hW; simp [go_sem, execOp, Act.eval]
      simp only [List.getElem_toArray, List.getElem_cons_zero, List.getElem_cons_succ, Act.put, List.setIfInBounds_toArray, List.set_cons_succ, List.set_cons_zero]
      refine wpAnyH_take (i := 10) (v := .bool own) rfl (by kernel_rfl) (by kernel_rfl) (by kernel_rfl) (fun _ _ _ h => h) (Or.inl ⟨by rfl, ?r⟩) hS ?_
      case r => intro W hW; simp [go_sem, execOp, Act.eval]
      simp only [List.getElem_toArray, List.getElem_cons_zero, List.getElem_cons_succ, Act.put, List.setIfInBounds_toArray, List.set_cons_succ, List.set_cons_zero]
      refine wpAnyH_take (i := 11) (v := e0) rfl (by kernel_rfl) (by kernel_rfl) (by kernel_rfl) (fun _ _ _ h => h) (Or.inl ⟨by rfl, ?r⟩) hS ?_
      case r => intro W hW; simp [go_sem, execOp, Act.eval]
      simp only [List.getElem_toArray, List.getElem_cons_zero, List.getElem_cons_succ, Act.put, List.setIfInBounds_toArray, List.set_cons_succ, List.set_cons_zero]
      refine wpAnyH_take (i := 12) (v := .bool own) rfl (by kernel_rfl) (by kernel_rfl) (by kernel_rfl) (fun _ _ _ h => h) (Or.inl ⟨by rfl, ?r⟩) hS ?_
      case r => intro W hW; simp [go_sem, execOp, Act.eval]
      simp only [List.getElem_toArray, List.getElem_cons_zero, List.getElem_cons_succ, Act.put, List.setIfInBounds_toArray, List.set_cons_succ, List.set_cons_zero]
      refine wpAnyH_take (i := 13) (v := e0) rfl (by kernel_rfl) (by kernel_rfl) (by kernel_rfl) (fun _ _ _ h => h) (Or.inl ⟨by rfl, ?r⟩) hS ?_
      case r => intro W hW; simp [go_sem, execOp, Act.eval]
      simp only [List.getElem_toArray, List.getElem_cons_zero, List.getElem_cons_succ, Act.put, List.setIfInBounds_toArray, List.set_cons_succ, List.set_cons_zero]
      refine wpAnyH_done (by kernel_rfl) ?_ _
      refine NoPanic.normal ?_
      try simp only [Act.put]
      clear hS Rv3d Bv3d
      have hCp := (HSaa.out _ Rv3).1
      have pc0 : v3.cell? ⟨w5.heap.size, a * 11, none⟩ = some (.int .i64 p0) := hCp 0 (by omega)
      have pc1 : v3.cell? ⟨w5.heap.size, a * 11 + 1, none⟩ = some (.string p1) := hCp 1 (by omega)
      have pc2 : v3.cell? ⟨w5.heap.size, a * 11 + 2, none⟩ = some (.int .i64 p2) := hCp 2 (by omega)
      have pc3 : v3.cell? ⟨w5.heap.size, a * 11 + 3, none⟩ = some (.int .u64 p3) := hCp 3 (by omega)
      have pc4 : v3.cell? ⟨w5.heap.size, a * 11 + 4, none⟩ = some (.string p4) := hCp 4 (by omega)
      have pc5 : v3.cell? ⟨w5.heap.size, a * 11 + 5, none⟩ = some (.int .i64 p5) := hCp 5 (by omega)
      have pc6 : v3.cell? ⟨w5.heap.size, a * 11 + 6, none⟩ = some (.int .i64 p6) := hCp 6 (by omega)
      have pc7 : v3.cell? ⟨w5.heap.size, a * 11 + 7, none⟩ = some (.int .i64 p7) := hCp 7 (by omega)
      have pc8 : v3.cell? ⟨w5.heap.size, a * 11 + 8, none⟩ = some (.int .i64 p8) := hCp 8 (by omega)
      have pc9 : v3.cell? ⟨w5.heap.size, a * 11 + 9, none⟩ = some (.slice pp ppath.length ppc) := hCp 9 (by omega)
      have pc10 : v3.cell? ⟨w5.heap.size, a * 11 + 10, none⟩ = some (.slice pip pit.length pic) := hCp 10 (by omega)
      clear hCp
      go_wp2_with fail
      refine (HKy.out _ Rv3).mono ?_
      rintro r v4 ⟨kv, rfl, Hkv, Rv4⟩
      clear pc0 pc1 pc2 pc3 pc4 pc5 pc6 pc7 pc8 pc9 pc10
      go_wp2_with fail
      refine wp_region_noPanic ?_
      refine wp_region_held (S := fun W => (∀ i, i < 11 → W.cell? ⟨w5.heap.size, a * 11 + i, none⟩ = (#[.int .i64 p0, .string p1, .int .i64 p2, .int .u64 p3, .string p4, .int .i64 p5, .int .i64 p6, .int .i64 p7, .int .i64 p8, .slice pp ppath.length ppc, .slice pip pit.length pic] : Array Value)[i]?) ∧ (∀ i, i < 11 → W.cell? ⟨w5.heap.size, a * 11 + i, none⟩ = (#[.int .i64 p0, .string p1, .int .i64 p2, .int .u64 p3, .string p4, .int .i64 p5, .int .i64 p6, .int .i64 p7, .int .i64 p8, .slice pp ppath.length ppc, .slice pip pit.length pic] : Array Value)[i]?)) (by kernel_rfl) ?_
      obtain ⟨v5d, hv5d⟩ : ∃ W4, W4 = v4.drew := ⟨_, rfl⟩
      have e4 : ({ v4 with drawn := v4.drawn + 1 } : World) = v5d := hv5d.symm
      rw [e4]
      have Bv5d : Below v4.heap.size v4 v5d := by rw [hv5d]; exact (Below.refl _ _).drew
      have Rv5d : Below wr.heap.size wr v5d := Rv4.trans (Bv5d.mono Rv4.size)
      have hS := HSaa.out v5d Rv5d
      clear e4 hv5d
      refine wpAnyH_take (i := 0) (v := .bool true) rfl (by kernel_rfl) (by kernel_rfl) (by kernel_rfl) (fun _ _ _ h => h) (Or.inl ⟨by rfl, ?r⟩) hS ?_
      case r => intro W hW; simp [go_sem, execOp, Act.eval]
      simp only [List.getElem_toArray, List.getElem_cons_zero, Act.put, List.setIfInBounds_toArray, List.set_cons_succ, List.set_cons_zero]
      refine wpAnyH_take (i := 1) (v := .bool false) rfl (by kernel_rfl) (by kernel_rfl) (by kernel_rfl) (fun _ _ _ h => h) (Or.inl ⟨by rfl, ?r⟩) hS ?_
      case r => intro W hW; simp [go_sem, execOp, Act.eval]
      simp only [List.getElem_toArray, List.getElem_cons_zero, List.getElem_cons_succ, Act.put, List.setIfInBounds_toArray, List.set_cons_succ, List.set_cons_zero]
      refine wpAnyH_take (i := 2) (v := .bool false) rfl (by kernel_rfl) (by kernel_rfl) (by kernel_rfl) (fun _ _ _ h => h) (Or.inl ⟨by rfl, ?r⟩) hS ?_
      case r => intro W hW; simp [go_sem, execOp, Act.eval]
      simp only [List.getElem_toArray, List.getElem_cons_zero, List.getElem_cons_succ, Act.put, List.setIfInBounds_toArray, List.set_cons_succ, List.set_cons_zero]
      refine wpAnyH_take (i := 3) (v := .bool true) rfl (by kernel_rfl) (by kernel_rfl) (by kernel_rfl) (fun _ _ _ h => h) (Or.inl ⟨by rfl, ?r⟩) hS ?_
      case r => intro W hW; simp [go_sem, execOp, Act.eval]
      simp only [List.getElem_toArray, List.getElem_cons_zero, List.getElem_cons_succ, Act.put, List.setIfInBounds_toArray, List.set_cons_succ, List.set_cons_zero]
      refine wpAnyH_take (i := 4) (v := .bool false) rfl (by kernel_rfl) (by kernel_rfl) (by kernel_rfl) (fun _ _ _ h => h) (Or.inl ⟨by rfl, ?r⟩) hS ?_
      case r => intro W hW; simp [go_sem, execOp, Act.eval]
      simp only [List.getElem_toArray, List.getElem_cons_zero, List.getElem_cons_succ, Act.put, List.setIfInBounds_toArray, List.set_cons_succ, List.set_cons_zero]
      refine wpAnyH_take (i := 5) (v := .bool false) rfl (by kernel_rfl) (by kernel_rfl) (by kernel_rfl) (fun _ _ _ h => h) (Or.inl ⟨by rfl, ?r⟩) hS ?_
      case r => intro W hW; simp [go_sem, execOp, Act.eval]
      simp only [List.getElem_toArray, List.getElem_cons_zero, List.getElem_cons_succ, Act.put, List.setIfInBounds_toArray, List.set_cons_succ, List.set_cons_zero]
      refine wpAnyH_take (i := 6) (v := .bool false) rfl (by kernel_rfl) (by kernel_rfl) (by kernel_rfl) (fun _ _ _ h => h) (Or.inl ⟨by rfl, ?r⟩) hS ?_
      case r => intro W hW; simp [go_sem, execOp, Act.eval]
      simp only [List.getElem_toArray, List.getElem_cons_zero, List.getElem_cons_succ, Act.put, List.setIfInBounds_toArray, List.set_cons_succ, List.set_cons_zero]
      refine wpAnyH_take (i := 7) (v := e0) rfl (by kernel_rfl) (by kernel_rfl) (by kernel_rfl) (fun _ _ _ h => h) (Or.inl ⟨by rfl, ?r⟩) hS ?_
      case r => intro W hW; simp [go_sem, execOp, Act.eval]
      simp only [List.getElem_toArray, List.getElem_cons_zero, List.getElem_cons_succ, Act.put, List.setIfInBounds_toArray, List.set_cons_succ, List.set_cons_zero]
      refine wpAnyH_take (i := 8) (v := .bool eb) rfl (by kernel_rfl) (by kernel_rfl) (by kernel_rfl) (fun _ _ _ h => h) (Or.inl ⟨by rfl, ?r⟩) hS ?_
      case r => intro W hW; rcases He0 with ⟨he, hv⟩ | ⟨he, m, hv⟩ <;> (subst he hv; simp [go_sem, execOp, Act.eval])
      simp only [List.getElem_toArray, List.getElem_cons_zero, List.getElem_cons_succ, Act.put, List.setIfInBounds_toArray, List.set_cons_succ, List.set_cons_zero]
      refine wpAnyH_take (i := 9) (v := kv) rfl (by kernel_rfl) (by kernel_rfl) (by kernel_rfl) (fun _ _ _ h => h) (Or.inl ⟨by rfl, ?r⟩) hS ?_
      case r => intro W hW; simp [go_sem, execOp, Act.eval]
      simp only [List.getElem_toArray, List.getElem_cons_zero, List.getElem_cons_succ, Act.put, List.setIfInBounds_toArray, List.set_cons_succ, List.set_cons_zero]
      refine wpAnyH_take (i := 10) (v := .bool eb) rfl (by kernel_rfl) (by kernel_rfl) (by kernel_rfl) (fun _ _ _ h => h) (Or.inl ⟨by rfl, ?r⟩) hS ?_
      case r => intro W hW; rcases Hkv with ⟨he, hv⟩ | ⟨he, m, hv⟩ <;> (subst he hv; simp [go_sem, execOp, Act.eval])
      simp only [List.getElem_toArray, List.getElem_cons_zero, List.getElem_cons_succ, Act.put, List.setIfInBounds_toArray, List.set_cons_succ, List.set_cons_zero]
      refine wpAnyH_take (i := 11) (v := .bool false) rfl (by kernel_rfl) (by kernel_rfl) (by kernel_rfl) (fun _ _ _ h => h) (Or.inl ⟨by rfl, ?r⟩) hS ?_
      case r => intro W hW; cases eb <;> simp [go_sem, execOp, Act.eval]
      simp only [List.getElem_toArray, List.getElem_cons_zero, List.getElem_cons_succ, Act.put, List.setIfInBounds_toArray, List.set_cons_succ, List.set_cons_zero]
      refine wpAnyH_take (i := 12) (v := .bool false) rfl (by kernel_rfl) (by kernel_rfl) (by kernel_rfl) (fun _ _ _ h => h) (Or.inl ⟨by rfl, ?r⟩) hS ?_
      case r => intro W hW; simp [go_sem, execOp, Act.eval]
      simp only [List.getElem_toArray, List.getElem_cons_zero, List.getElem_cons_succ, Act.put, List.setIfInBounds_toArray, List.set_cons_succ, List.set_cons_zero]
      refine wpAnyH_take (i := 13) (v := .bool false) rfl (by kernel_rfl) (by kernel_rfl) (by kernel_rfl) (fun _ _ _ h => h) (Or.inl ⟨by rfl, ?r⟩) hS ?_
      case r => intro W hW; simp [go_sem, execOp, Act.eval]
      simp only [List.getElem_toArray, List.getElem_cons_zero, List.getElem_cons_succ, Act.put, List.setIfInBounds_toArray, List.set_cons_succ, List.set_cons_zero]
      refine wpAnyH_take (i := 14) (v := .bool bad) rfl (by kernel_rfl) (by kernel_rfl) (by kernel_rfl) (fun _ _ _ h => h) (Or.inl ⟨by rfl, ?r⟩) hS ?_
      case r => intro W hW; simp [go_sem, execOp, Act.eval]
      simp only [List.getElem_toArray, List.getElem_cons_zero, List.getElem_cons_succ, Act.put, List.setIfInBounds_toArray, List.set_cons_succ, List.set_cons_zero]
      refine wpAnyH_take (i := 15) (v := .bool (!bad)) rfl (by kernel_rfl) (by kernel_rfl) (by kernel_rfl) (fun _ _ _ h => h) (Or.inl ⟨by rfl, ?r⟩) hS ?_
      case r => intro W hW; simp [go_sem, execOp, Act.eval]
      simp only [List.getElem_toArray, List.getElem_cons_zero, List.getElem_cons_succ, Act.put, List.setIfInBounds_toArray, List.set_cons_succ, List.set_cons_zero]
      refine wpAnyH_take (i := 16) (v := .bool (!bad)) rfl (by kernel_rfl) (by kernel_rfl) (by kernel_rfl) (fun _ _ _ h => h) (Or.inl ⟨by rfl, ?r⟩) hS ?_
      case r => intro W hW; simp [go_sem, execOp, Act.eval]
      simp only [List.getElem_toArray, List.getElem_cons_zero, List.getElem_cons_succ, Act.put, List.setIfInBounds_toArray, List.set_cons_succ, List.set_cons_zero]
      refine wpAnyH_take (i := 17) (v := (bif bad then undef else .bool own)) rfl (by kernel_rfl) (by kernel_rfl) (by kernel_rfl) (fun _ _ _ h => h) ?yld hS ?_
      case yld =>
        clear hS
        cases bad
        · exact Or.inl ⟨by rfl, fun W hW => by simp [go_sem, execOp, Act.eval]⟩
        · exact Or.inr ⟨by rfl, rfl⟩
      simp only [List.getElem_toArray, List.getElem_cons_zero, List.getElem_cons_succ, Act.put, List.setIfInBounds_toArray, List.set_cons_succ, List.set_cons_zero]
      refine wpAnyH_take (i := 18) (v := (bif bad then undef else e0)) rfl (by kernel_rfl) (by kernel_rfl) (by kernel_rfl) (fun _ _ _ h => h) ?yld hS ?_
      case yld =>
        clear hS
        cases bad
        · exact Or.inl ⟨by rfl, fun W hW => by simp [go_sem, execOp, Act.eval]⟩
        · exact Or.inr ⟨by rfl, rfl⟩
      simp only [List.getElem_toArray, List.getElem_cons_zero, List.getElem_cons_succ, Act.put, List.setIfInBounds_toArray, List.set_cons_succ, List.set_cons_zero]
      refine wpAnyH_take (i := 19) (v := (bif bad then undef else .bool eb)) rfl (by kernel_rfl) (by kernel_rfl) (by kernel_rfl) (fun _ _ _ h => h) ?yld hS ?_
      case yld =>
        clear hS
        cases bad
        · exact Or.inl ⟨by rfl, fun W hW => by rcases He0 with ⟨he, hv⟩ | ⟨he, m, hv⟩ <;> (subst he hv; simp [go_sem, execOp, Act.eval])⟩
        · exact Or.inr ⟨by rfl, rfl⟩
      simp only [List.getElem_toArray, List.getElem_cons_zero, List.getElem_cons_succ, Act.put, List.setIfInBounds_toArray, List.set_cons_succ, List.set_cons_zero]
      refine wpAnyH_take (i := 20) (v := (bif bad then undef else .bool false)) rfl (by kernel_rfl) (by kernel_rfl) (by kernel_rfl) (fun _ _ _ h => h) ?yld hS ?_
      case yld =>
        clear hS
        cases bad
        · exact Or.inl ⟨by rfl, fun W hW => by have ho := HOw.out rfl; subst ho; cases own <;> simp [go_sem, execOp, Act.eval]⟩
        · exact Or.inr ⟨by rfl, rfl⟩
      simp only [List.getElem_toArray, List.getElem_cons_zero, List.getElem_cons_succ, Act.put, List.setIfInBounds_toArray, List.set_cons_succ, List.set_cons_zero]
      refine wpAnyH_take (i := 21) (v := .bool false) rfl (by kernel_rfl) (by kernel_rfl) (by kernel_rfl) (fun _ _ _ h => h) (Or.inl ⟨by rfl, ?r⟩) hS ?_
      case r => intro W hW; cases bad <;> simp [go_sem, execOp, Act.eval]
      simp only [List.getElem_toArray, List.getElem_cons_zero, List.getElem_cons_succ, Act.put, List.setIfInBounds_toArray, List.set_cons_succ, List.set_cons_zero]
      refine wpAnyH_take (i := 22) (v := .bool false) rfl (by kernel_rfl) (by kernel_rfl) (by kernel_rfl) (fun _ _ _ h => h) (Or.inl ⟨by rfl, ?r⟩) hS ?_
      case r => intro W hW; simp [go_sem, execOp, Act.eval]
      simp only [List.getElem_toArray, List.getElem_cons_zero, List.getElem_cons_succ, Act.put, List.setIfInBounds_toArray, List.set_cons_succ, List.set_cons_zero]
      refine wpAnyH_take (i := 23) (v := .bool false) rfl (by kernel_rfl) (by kernel_rfl) (by kernel_rfl) (fun _ _ _ h => h) (Or.inl ⟨by rfl, ?r⟩) hS ?_
      case r => intro W hW; simp [go_sem, execOp, Act.eval]
      simp only [List.getElem_toArray, List.getElem_cons_zero, List.getElem_cons_succ, Act.put, List.setIfInBounds_toArray, List.set_cons_succ, List.set_cons_zero]
      refine wpAnyH_take (i := 24) (v := .slice (some ⟨w5.heap.size, 0, none⟩) 3 3) rfl (by kernel_rfl) (by kernel_rfl) (by kernel_rfl) (fun _ _ _ h => h) (Or.inl ⟨by rfl, ?r⟩) hS ?_
      case r => intro W hW; simp [go_sem, execOp, Act.eval]
      simp only [List.getElem_toArray, List.getElem_cons_zero, List.getElem_cons_succ, Act.put, List.setIfInBounds_toArray, List.set_cons_succ, List.set_cons_zero]
      refine wpAnyH_take (i := 25) (v := .int .i64 a) rfl (by kernel_rfl) (by kernel_rfl) (by kernel_rfl) (fun _ _ _ h => h) (Or.inl ⟨by rfl, ?r⟩) hS ?_
      case r => intro W hW; simp [go_sem, execOp, Act.eval]
      simp only [List.getElem_toArray, List.getElem_cons_zero, List.getElem_cons_succ, Act.put, List.setIfInBounds_toArray, List.set_cons_succ, List.set_cons_zero]
      refine wpAnyH_take (i := 26) (v := .pointer (some ⟨w5.heap.size, a * 11, none⟩)) rfl (by kernel_rfl) (by kernel_rfl) (by kernel_rfl) (fun _ _ _ h => h) (Or.inl ⟨by rfl, ?r⟩) hS ?_
      case r => intro W hW; simp [go_sem, execOp, Act.eval, lta]
      simp only [List.getElem_toArray, List.getElem_cons_zero, List.getElem_cons_succ, Act.put, List.setIfInBounds_toArray, List.set_cons_succ, List.set_cons_zero]
      refine wpAnyH_take (i := 27) (v := .agg #[.int .i64 p0, .string p1, .int .i64 p2, .int .u64 p3, .string p4, .int .i64 p5, .int .i64 p6, .int .i64 p7, .int .i64 p8, .slice pp ppath.length ppc, .slice pip pit.length pic]) rfl (by kernel_rfl) (by kernel_rfl) (by kernel_rfl) (fun _ _ _ h => h) (Or.inl ⟨by rfl, ?r⟩) hS ?_
      case r => intro W hW; have e0 : W.cell? ⟨w5.heap.size, a * 11, none⟩ = some (.int .i64 p0) := hW.1 0 (by omega); have e1 : W.cell? ⟨w5.heap.size, a * 11 + 1, none⟩ = some (.string p1) := hW.1 1 (by omega); have e2 : W.cell? ⟨w5.heap.size, a * 11 + 2, none⟩ = some (.int .i64 p2) := hW.1 2 (by omega); have e3 : W.cell? ⟨w5.heap.size, a * 11 + 3, none⟩ = some (.int .u64 p3) := hW.1 3 (by omega); have e4 : W.cell? ⟨w5.heap.size, a * 11 + 4, none⟩ = some (.string p4) := hW.1 4 (by omega); have e5 : W.cell? ⟨w5.heap.size, a * 11 + 5, none⟩ = some (.int .i64 p5) := hW.1 5 (by omega); have e6 : W.cell? ⟨w5.heap.size, a * 11 + 6, none⟩ = some (.int .i64 p6) := hW.1 6 (by omega); have e7 : W.cell? ⟨w5.heap.size, a * 11 + 7, none⟩ = some (.int .i64 p7) := hW.1 7 (by omega); have e8 : W.cell? ⟨w5.heap.size, a * 11 + 8, none⟩ = some (.int .i64 p8) := hW.1 8 (by omega); have e9 : W.cell? ⟨w5.heap.size, a * 11 + 9, none⟩ = some (.slice pp ppath.length ppc) := hW.1 9 (by omega); have e10 : W.cell? ⟨w5.heap.size, a * 11 + 10, none⟩ = some (.slice pip pit.length pic) := hW.1 10 (by omega); simp [go_sem, execOp, Act.eval, e0, e1, e2, e3, e4, e5, e6, e7, e8, e9, e10]
      simp only [List.getElem_toArray, List.getElem_cons_zero, List.getElem_cons_succ, Act.put, List.setIfInBounds_toArray, List.set_cons_succ, List.set_cons_zero]
      refine wpAnyH_take (i := 28) (v := .slice (some ⟨w5.heap.size, 0, none⟩) 3 3) rfl (by kernel_rfl) (by kernel_rfl) (by kernel_rfl) (fun _ _ _ h => h) (Or.inl ⟨by rfl, ?r⟩) hS ?_
      case r => intro W hW; simp [go_sem, execOp, Act.eval]
      simp only [List.getElem_toArray, List.getElem_cons_zero, List.getElem_cons_succ, Act.put, List.setIfInBounds_toArray, List.set_cons_succ, List.set_cons_zero]
      refine wpAnyH_take (i := 29) (v := .int .i64 a) rfl (by kernel_rfl) (by kernel_rfl) (by kernel_rfl) (fun _ _ _ h => h) (Or.inl ⟨by rfl, ?r⟩) hS ?_
      case r => intro W hW; simp [go_sem, execOp, Act.eval]
      simp only [List.getElem_toArray, List.getElem_cons_zero, List.getElem_cons_succ, Act.put, List.setIfInBounds_toArray, List.set_cons_succ, List.set_cons_zero]
      refine wpAnyH_take (i := 30) (v := .pointer (some ⟨w5.heap.size, a * 11, none⟩)) rfl (by kernel_rfl) (by kernel_rfl) (by kernel_rfl) (fun _ _ _ h => h) (Or.inl ⟨by rfl, ?r⟩) hS ?_
      case r => intro W hW; simp [go_sem, execOp, Act.eval, lta]
      simp only [List.getElem_toArray, List.getElem_cons_zero, List.getElem_cons_succ, Act.put, List.setIfInBounds_toArray, List.set_cons_succ, List.set_cons_zero]
      refine wpAnyH_take (i := 31) (v := .agg #[.int .i64 p0, .string p1, .int .i64 p2, .int .u64 p3, .string p4, .int .i64 p5, .int .i64 p6, .int .i64 p7, .int .i64 p8, .slice pp ppath.length ppc, .slice pip pit.length pic]) rfl (by kernel_rfl) (by kernel_rfl) (by kernel_rfl) (fun _ _ _ h => h) (Or.inl ⟨by rfl, ?r⟩) hS ?_
      case r => intro W hW; have e0 : W.cell? ⟨w5.heap.size, a * 11, none⟩ = some (.int .i64 p0) := hW.2 0 (by omega); have e1 : W.cell? ⟨w5.heap.size, a * 11 + 1, none⟩ = some (.string p1) := hW.2 1 (by omega); have e2 : W.cell? ⟨w5.heap.size, a * 11 + 2, none⟩ = some (.int .i64 p2) := hW.2 2 (by omega); have e3 : W.cell? ⟨w5.heap.size, a * 11 + 3, none⟩ = some (.int .u64 p3) := hW.2 3 (by omega); have e4 : W.cell? ⟨w5.heap.size, a * 11 + 4, none⟩ = some (.string p4) := hW.2 4 (by omega); have e5 : W.cell? ⟨w5.heap.size, a * 11 + 5, none⟩ = some (.int .i64 p5) := hW.2 5 (by omega); have e6 : W.cell? ⟨w5.heap.size, a * 11 + 6, none⟩ = some (.int .i64 p6) := hW.2 6 (by omega); have e7 : W.cell? ⟨w5.heap.size, a * 11 + 7, none⟩ = some (.int .i64 p7) := hW.2 7 (by omega); have e8 : W.cell? ⟨w5.heap.size, a * 11 + 8, none⟩ = some (.int .i64 p8) := hW.2 8 (by omega); have e9 : W.cell? ⟨w5.heap.size, a * 11 + 9, none⟩ = some (.slice pp ppath.length ppc) := hW.2 9 (by omega); have e10 : W.cell? ⟨w5.heap.size, a * 11 + 10, none⟩ = some (.slice pip pit.length pic) := hW.2 10 (by omega); simp [go_sem, execOp, Act.eval, e0, e1, e2, e3, e4, e5, e6, e7, e8, e9, e10]
      simp only [List.getElem_toArray, List.getElem_cons_zero, List.getElem_cons_succ, Act.put, List.setIfInBounds_toArray, List.set_cons_succ, List.set_cons_zero]
      refine wpAnyH_all (rs := [32]) (by kernel_rfl) (by simp) (fun i2 hi2 => ?_)
      obtain rfl : i2 = 32 := by simpa using hi2
      clear hi2
      refine wpOp_step rfl (fun K hK => ite_yes rfl ?_)
      simp only [List.getElem_toArray, List.getElem_cons_zero, List.getElem_cons_succ]
      go_simp
      refine (HSm.out _ Rv5d).mono ?_
      rintro e v5 ⟨rfl, Rv5⟩
      go_simp
      refine hK _ _ ⟨HSaa.out _ Rv5, ?_⟩
      clear hK K hS
      have hS := HSaa.out _ Rv5
      refine wpAnyH_take (i := 33) (v := .bool false) rfl (by kernel_rfl) (by kernel_rfl) (by kernel_rfl) (fun _ _ _ h => h) (Or.inl ⟨by rfl, ?r⟩) hS ?_
      case r => intro W hW; simp [go_sem, execOp, Act.eval]
      simp only [List.getElem_toArray, List.getElem_cons_zero, List.getElem_cons_succ, Act.put, List.setIfInBounds_toArray, List.set_cons_succ, List.set_cons_zero]
      refine wpAnyH_take (i := 34) (v := .bool false) rfl (by kernel_rfl) (by kernel_rfl) (by kernel_rfl) (fun _ _ _ h => h) (Or.inl ⟨by rfl, ?r⟩) hS ?_
      case r => intro W hW; simp [go_sem, execOp, Act.eval]
      simp only [List.getElem_toArray, List.getElem_cons_zero, List.getElem_cons_succ, Act.put, List.setIfInBounds_toArray, List.set_cons_succ, List.set_cons_zero]
      refine wpAnyH_done (by kernel_rfl) ?_ _
      refine NoPanic.normal ?_
      try simp only [Act.put]
      clear hS Rv5d Bv5d
      have HT4 : Hid (Below W6.heap.size W6 v5) := HT.out.trans (Rv5.mono HT.out.size)
      have HE0 : Hid (IsErr e0 eb) := He0
      clear Rv1 Rv2 Rv3 Rv4 Rv5 HRi HBr HEa HKy HSm HOw HSaa Hkv He0
      go_wp2_with fail
      refine middle_any W6 _ a ⟨⟨p0, p1, p2, p3, p4, p5, p6, p7, p8, pp, ppath, ppc⟩, pip, pic, pit⟩ ls bad eb e0 _ HC HC0 HO HOa HNm HEQ HE0 lta _ HT4 _ _ _ _ _ _ _ _ _ _ _ _ _ _ _ _ _ _ _ _ _ _ _ _ _ _ _ _ _ _ _ _ _ _ _ _ _ _ _ _ _ _ _ _ _ _ _ _ _ _ _ _ _ _ _ _ _ _ _ _ _ _ _ _ _ _ _ _ _ _ _ _ _ _ _ _ _ _ _ _ _ _ _ _ _ _ _ _ _ _ _ _ _ _ _ _ _ _ _ _ _ _ _ _ _ _ _ _ _ _ _ _ _ _ _ _ _ _ _ _ _ _ _ _ _ _ _ _ _ _ _ _ _ _ _ _ _ _ _ _ _ _ ?_
      intro zb u19 u20 u21 u22 u23 u24 u25 u26 u27 u28 u29 u30 u31 u32 u116 u117 u118 u119 u120 u121 u122 u123 u124 u125 u126 u127 u128 u129 u130 u131 u132 u133 u134 u135 u136 u137 u138 u139 u140 u141 u142 u143 u144 u145 u146 u147 u148 u149 u150 u151 u152 u153 u154 u155 u156 u157 u158 u159 u160 u161 u162 u163 u164 u165 u166 u167 u168 u169 u170 u171 u172 u173 u174 u175 u176 u177 u178 u179 u180 u181 u182 u183 u184 u185 u186 u187 u188 u189 u190 u191 u192 u193 u194 u195 u196 u197 u198 u199 u200 u201 u202 u203 u204 u205 u206 u207 u208 u209 u210 u211 u212 u213 u214 u215 u216 u217 u218 u219 u220 u221 u222 u223 u224 u225 u226 u227 u228 u229 u230 u231 u232 u233 u234 u235 u236 u237 u238 u239 u240 u241 u242 u243 w7 hb7
      go_wp2_with fail
      exact ⟨⟨a + 1, by omega, by go_num, hb7⟩, by simp [intOf]; omega⟩
    · have lta : ¬ (a : Int) < 3 := by omega
      go_wp2_with fail
      go_ret
      exact ⟨rfl, HW.out _ HT.out⟩
end Go.Proofs.YtnhbpcmiolkllabDoor
