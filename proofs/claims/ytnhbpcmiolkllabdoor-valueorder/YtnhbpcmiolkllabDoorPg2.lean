/-
  Three ordered data are made.
-/
import Derived.Test.YtnhbpcmiolkllabDoorPf2
namespace Go.Proofs.YtnhbpcmiolkllabDoor
open Go.RowKit

theorem ordered_K (kind : Int) (kb : Nat) (rp : Option Addr) (raw : List Int) (rc at_ : Nat) (w : World) (hM : MakerAt w kb rp raw rc at_) (ha : at_ ≤ 90000) (h0 : -9223372036854775808 ≤ kind) (h1 : kind ≤ 9223372036854775807) :
    Calls Tryd.prog 14 #[.int .i64 kind, .pointer (some ⟨kb, 0, none⟩)] w (OrdP (pickN kind 3) kb rp raw rc at_ w) := by
  have hr := pickN_range kind 3 (by decide)
  obtain e | e | e : pickN kind 3 = 0 ∨ pickN kind 3 = 1 ∨ pickN kind 3 = 2 := by omega
  · rw [e]; exact ordered_0 kind kb rp raw rc at_ w hM ha h0 h1 e
  · rw [e]; exact ordered_1 kind kb rp raw rc at_ w hM ha h0 h1 e
  · rw [e]; exact ordered_2 kind kb rp raw rc at_ w hM ha h0 h1 e
theorem b26_0 (p : Option Addr) (l c : Nat) (w : World) : (Instr.build 26 #[(0, .slice p l c)]).run Tryd.prog w = .ok (.agg #[.slice p l c, .int .i64 0]) w := run_build w 26 _ _ (by kernel_rfl)
attribute [local go_sem] refold2 cell3_0 cell3_1 b28_0 b28_01 b26_0
set_option maxRecDepth 100000 in
set_option maxHeartbeats 8000000 in
theorem orderLaw_any (kind : Int) (rp : Option Addr) (raw : List Int) (rc : Nat) (w : World) (hN : NamesAt w) (h0 : -9223372036854775808 ≤ kind) (h1 : kind ≤ 9223372036854775807)
    (hb : ∀ x ∈ raw, -9223372036854775808 ≤ x ∧ x ≤ 9223372036854775807) (hl : raw.length ≤ 9223372036854775807)
    (hc : raw = [] ∨ ∃ b o, rp = some ⟨b, o, none⟩ ∧ b < w.heap.size ∧ ∀ (i : Nat) (hi : i < raw.length), w.cell? ⟨b, o + i, none⟩ = some (.int .i64 raw[i])) :
    Calls Tryd.prog 4 #[.int .i64 kind, .slice rp raw.length rc] w fun r w' => r = .returned (.bool true) ∧ Below w.heap.size w w' := by
  have HMk : Hid (∀ W, Below w.heap.size w W → MakerAt (W.alloc (.cells #[.slice rp raw.length rc, .int .i64 0] 26)) W.heap.size rp raw rc 0) := fun W hW => by
    refine ⟨heap_alloc_new _ _, ?_, hb, hl⟩
    rcases hc with e | ⟨b, o, e1, e2, e3⟩
    · exact .inl e
    · have := hW.size
      exact .inr ⟨b, o, e1, by simp; omega, by omega, fun i hi => ((hW.alloc hW.size _).cell (p := ⟨b, o + i, none⟩) e2).trans (e3 i hi)⟩
  clear hb hc
  go_enter Tryd.func4, Tryd.ntmps4
  go_wp2_with fail
  refine (known_any _ hN).mono ?_
  rintro r w1 ⟨rfl, b1⟩
  have HB1 : Hid (Below w.heap.size w w1) := b1
  clear b1
  go_wp2_with fail
  refine (ordered_K kind w1.heap.size rp raw rc 0 _ (HMk.out _ HB1.out) (by omega) h0 h1).mono ?_
  rintro r w3 ⟨x, a3, rfl, hx, ha3, hM3, hv3⟩
  have HX : Hid (OrdK (pickN kind 3) x) := hx
  have HM3 : Hid (MakerAt w3 w1.heap.size rp raw rc a3 ∧ Moved w1.heap.size w1 w3) := ⟨hM3, (Moved.of_below (below1 _ _)).trans hv3⟩
  clear hx hM3 hv3
  obtain ⟨⟨x0, x1, x2, x3, x4, x5, x6, x7, x8, xp, xpath, xpc⟩, xip, xic, xit⟩ := x
  simp only [MD.val, D]
  go_wp2_with fail
  refine (ordered_K kind w1.heap.size rp raw rc a3 _ HM3.out.1 (by omega) h0 h1).mono ?_
  rintro r w4 ⟨y, a4, rfl, hy, ha4, hM4, hv4⟩
  have HY : Hid (OrdK (pickN kind 3) y) := hy
  have HM4 : Hid (MakerAt w4 w1.heap.size rp raw rc a4 ∧ Moved w1.heap.size w1 w4) := ⟨hM4, HM3.out.2.trans hv4⟩
  clear hy hM4 hv4 HM3
  obtain ⟨⟨y0, y1, y2, y3, y4, y5, y6, y7, y8, yp, ypath, ypc⟩, yip, yic, yit⟩ := y
  simp only [MD.val, D]
  go_wp2_with fail
  refine (ordered_K kind w1.heap.size rp raw rc a4 _ HM4.out.1 (by omega) h0 h1).mono ?_
  rintro r w5 ⟨z, a5, rfl, hz, ha5, hM5, hv5⟩
  have HZ : Hid (OrdK (pickN kind 3) z) := hz
  have HM5 : Hid (Moved w1.heap.size w1 w5) := HM4.out.2.trans hv5
  clear hz hM5 hv5 HM4
  obtain ⟨⟨z0, z1, z2, z3, z4, z5, z6, z7, z8, zp, zpath, zpc⟩, zip, zic, zit⟩ := z
  simp only [MD.val, D]
  go_wp2_with fail
  obtain ⟨W6, hW6⟩ : ∃ W6, W6 = w5.alloc (.cells (List.toArray (.int .i64 x0 :: .string x1 :: .int .i64 x2 :: .int .u64 x3 :: .string x4 :: .int .i64 x5 :: .int .i64 x6 :: .int .i64 x7 :: .int .i64 x8 :: .slice xp xpath.length xpc :: .slice xip xit.length xic :: .int .i64 y0 :: .string y1 :: .int .i64 y2 :: .int .u64 y3 :: .string y4 :: .int .i64 y5 :: .int .i64 y6 :: .int .i64 y7 :: .int .i64 y8 :: .slice yp ypath.length ypc :: .slice yip yit.length yic :: .int .i64 z0 :: .string z1 :: .int .i64 z2 :: .int .u64 z3 :: .string z4 :: .int .i64 z5 :: .int .i64 z6 :: .int .i64 z7 :: .int .i64 z8 :: .slice zp zpath.length zpc :: .slice zip zit.length zic :: [])) 32) := ⟨_, rfl⟩
  have hr6 : W6.heap[w5.heap.size]? = some (.cells (List.toArray (.int .i64 x0 :: .string x1 :: .int .i64 x2 :: .int .u64 x3 :: .string x4 :: .int .i64 x5 :: .int .i64 x6 :: .int .i64 x7 :: .int .i64 x8 :: .slice xp xpath.length xpc :: .slice xip xit.length xic :: .int .i64 y0 :: .string y1 :: .int .i64 y2 :: .int .u64 y3 :: .string y4 :: .int .i64 y5 :: .int .i64 y6 :: .int .i64 y7 :: .int .i64 y8 :: .slice yp ypath.length ypc :: .slice yip yit.length yic :: .int .i64 z0 :: .string z1 :: .int .i64 z2 :: .int .u64 z3 :: .string z4 :: .int .i64 z5 :: .int .i64 z6 :: .int .i64 z7 :: .int .i64 z8 :: .slice zp zpath.length zpc :: .slice zip zit.length zic :: [])) 32 (0, 0)) := by rw [hW6]; exact heap_alloc_new _ _
  have hz6 : w5.heap.size < W6.heap.size := (Array.getElem?_eq_some_iff.1 hr6).1
  have hw6 : Below w.heap.size w W6 := by
    have h5 := HM5.out.low (Nat.le_refl _)
    have h15 : Below w.heap.size w w5 := HB1.out.trans (h5.mono HB1.out.size)
    rw [hW6]; exact h15.alloc h15.size _
  obtain ⟨K, hK⟩ : ∃ K, K = pickN kind 3 := ⟨_, rfl⟩
  obtain ⟨ls, hO, hCs⟩ : ∃ ls : Nat → MD, (∀ i, OrdK K (ls i)) ∧ ∀ W, Below W6.heap.size W6 W → ∀ i, i < 3 → MD.CellsAt W w5.heap.size (i * 11) (ls i) := by
    refine ⟨fun i => if i = 0 then ⟨⟨x0, x1, x2, x3, x4, x5, x6, x7, x8, xp, xpath, xpc⟩, xip, xic, xit⟩ else if i = 1 then ⟨⟨y0, y1, y2, y3, y4, y5, y6, y7, y8, yp, ypath, ypc⟩, yip, yic, yit⟩ else ⟨⟨z0, z1, z2, z3, z4, z5, z6, z7, z8, zp, zpath, zpc⟩, zip, zic, zit⟩, fun i => ?_, fun W hW i hi => ?_⟩
    · rw [hK]
      dsimp only
      by_cases e0 : i = 0
      · rw [if_pos e0]; exact HX.out
      · by_cases e1 : i = 1
        · rw [if_neg e0, if_pos e1]; exact HY.out
        · rw [if_neg e0, if_neg e1]; exact HZ.out
    · have hrW := (hW.block _ hz6).trans hr6
      obtain rfl | rfl | rfl : i = 0 ∨ i = 1 ∨ i = 2 := by omega
      · intro j hj
        rw [row_at hrW]
        match j, hj with
        | 0, _ => rfl | 1, _ => rfl | 2, _ => rfl | 3, _ => rfl | 4, _ => rfl | 5, _ => rfl | 6, _ => rfl | 7, _ => rfl | 8, _ => rfl | 9, _ => rfl | 10, _ => rfl
      · intro j hj
        rw [row_at hrW]
        match j, hj with
        | 0, _ => rfl | 1, _ => rfl | 2, _ => rfl | 3, _ => rfl | 4, _ => rfl | 5, _ => rfl | 6, _ => rfl | 7, _ => rfl | 8, _ => rfl | 9, _ => rfl | 10, _ => rfl
      · intro j hj
        rw [row_at hrW]
        match j, hj with
        | 0, _ => rfl | 1, _ => rfl | 2, _ => rfl | 3, _ => rfl | 4, _ => rfl | 5, _ => rfl | 6, _ => rfl | 7, _ => rfl | 8, _ => rfl | 9, _ => rfl | 10, _ => rfl
  have HO : Hid _ := hO
  have HC : Hid _ := hCs
  have HNm : Hid (∀ W, Below W6.heap.size W6 W → NamesAt W) := fun W hW => hN.kept (hw6.trans (hW.mono hw6.size))
  have HW : Hid (∀ W, Below W6.heap.size W6 W → Below w.heap.size w W) := fun W hW => hw6.trans (hW.mono hw6.size)
  rw [← hW6]
  clear hW6 hr6 hz6 hw6 hO hCs hK HX HY HZ HM5 HB1 HMk
  go_loopw [8, 9, 10, 11, 12, 13, 14, 15, 16, 17, 18, 19] (fun i _ _ _ _ _ _ _ _ _ _ _ wr => ∃ a : Nat, a ≤ 3 ∧ i = .int .i64 a ∧ Hid (Below W6.heap.size W6 wr)) (fun i _ _ _ _ _ _ _ _ _ _ _ _ => 3 - (intOf i).toNat)
  case atStart => exact ⟨0, by omega, rfl, Below.refl _ _⟩
  case round =>
    obtain ⟨a, ha, rfl, HT⟩ := hrel
    by_cases lta' : a < 3
    · have lta : (a : Int) < 3 := by omega
      go_wp2_with fail
      go_loopw [9, 10, 11, 12, 13, 14, 15, 16, 17, 18, 19] (fun i _ _ _ _ _ _ _ _ _ _ wr => ∃ b : Nat, b ≤ 3 ∧ i = .int .i64 b ∧ Hid (Below W6.heap.size W6 wr)) (fun i _ _ _ _ _ _ _ _ _ _ _ => 3 - (intOf i).toNat)
      case atStart => exact ⟨0, by omega, rfl, HT⟩
      case round =>
        obtain ⟨b, hb3, rfl, HT2⟩ := hrel
        have Rwr : Below wr.heap.size wr wr := Below.refl _ _
        by_cases ltb' : b < 3
        · have ltb : (b : Int) < 3 := by omega
          have HOa : Hid (OrdK K (ls a)) := HO.out a
          have HOb : Hid (OrdK K (ls b)) := HO.out b
          have HC0 : Hid (∀ W, Below W6.heap.size W6 W → MD.CellsAt W w5.heap.size (a * 11) (ls a) ∧ MD.CellsAt W w5.heap.size (b * 11) (ls b)) := fun W hW => ⟨HC.out W hW a lta', HC.out W hW b ltb'⟩
          have HRn : Hid (∀ W, Below wr.heap.size wr W → Calls Tryd.prog 15 #[(ls a).val, (ls b).val] W fun r w' => r = .returned (.int .i64 (rkv (ls a) (ls b))) ∧ Below wr.heap.size wr w') := fun W hW => (rank_ord HOa.out HOb.out W (HNm.out W (HT2.out.trans (hW.mono HT2.out.size)))).mono fun _ _ h => ⟨h.1, hW.trans (h.2.mono hW.size)⟩
          have HRm : Hid (∀ W, Below wr.heap.size wr W → Calls Tryd.prog 15 #[(ls b).val, (ls a).val] W fun r w' => r = .returned (.int .i64 (rkv (ls b) (ls a))) ∧ Below wr.heap.size wr w') := fun W hW => (rank_ord HOb.out HOa.out W (HNm.out W (HT2.out.trans (hW.mono HT2.out.size)))).mono fun _ _ h => ⟨h.1, hW.trans (h.2.mono hW.size)⟩
          have HBa : Hid (∀ W, Below wr.heap.size wr W → Calls Tryd.prog 9 #[(ls a).val] W fun r w' => r = .returned (.bool (brk (ls a))) ∧ Below wr.heap.size wr w') := fun W hW => (broken_ord HOa.out W).mono fun _ _ h => ⟨h.1, hW.trans (h.2.mono hW.size)⟩
          have HBb : Hid (∀ W, Below wr.heap.size wr W → Calls Tryd.prog 9 #[(ls b).val] W fun r w' => r = .returned (.bool (brk (ls b))) ∧ Below wr.heap.size wr w') := fun W hW => (broken_ord HOb.out W).mono fun _ _ h => ⟨h.1, hW.trans (h.2.mono hW.size)⟩
          have HEq : Hid (∀ W, Below wr.heap.size wr W → Calls Tryd.prog 10 #[(ls a).val, (ls b).val] W fun r w' => r = .returned (.tuple #[.bool (MD.eqv 1 (ls a) (ls b)).1, .nilIface]) ∧ Below wr.heap.size wr w') := fun W hW => (equal_ord HOa.out HOb.out W (HNm.out W (HT2.out.trans (hW.mono HT2.out.size)))).mono fun _ _ h => ⟨h.1, hW.trans (h.2.mono hW.size)⟩
          have HF9 : Hid (brk (ls a) = true ∨ brk (ls b) = true → rkv (ls a) (ls b) = 9 ∧ rkv (ls b) (ls a) = 9) := ord_nan HOa.out HOb.out
          have HF1 : Hid (brk (ls a) = false → brk (ls b) = false → -1 ≤ rkv (ls a) (ls b) ∧ rkv (ls a) (ls b) ≤ 1 ∧ rkv (ls b) (ls a) = -rkv (ls a) (ls b) ∧ (MD.eqv 1 (ls a) (ls b)).1 = (rkv (ls a) (ls b) == 0)) := fun h1 h2 => by
            obtain ⟨q1, q2, q3, q4⟩ := ord_facts HOa.out HOb.out h1 h2
            exact ⟨q1, q2, q3, q4.trans (by rw [Bool.eq_iff_iff]; simp)⟩
          generalize (MD.eqv 1 (ls a) (ls b)).1 = sm at HEq HF1
          generalize rkv (ls b) (ls a) = m at HRm HF9 HF1
          obtain ⟨n, hn⟩ : ∃ n, n = rkv (ls a) (ls b) := ⟨_, rfl⟩
          rw [← hn] at HRn HF9 HF1
          obtain ⟨one, h1⟩ : ∃ q, q = brk (ls a) := ⟨_, rfl⟩
          obtain ⟨two, h2⟩ : ∃ q, q = brk (ls b) := ⟨_, rfl⟩
          rw [← h1] at HBa HF9 HF1
          rw [← h2] at HBb HF9 HF1
          have HEQ : Hid (n = rkv (ls a) (ls b) ∧ one = brk (ls a) ∧ two = brk (ls b)) := ⟨hn, h1, h2⟩
          clear hn h1 h2
          generalize ls a = xa at HOa HC0 HRn HRm HBa HBb HEq HEQ
          generalize ls b = xb at HOb HC0 HRn HRm HBa HBb HEq HEQ
          obtain ⟨⟨p0, p1, p2, p3, p4, p5, p6, p7, p8, pp, ppath, ppc⟩, pip, pic, pit⟩ := xa
          obtain ⟨⟨q0, q1, q2, q3, q4, q5, q6, q7, q8, qp, qpath, qpc⟩, qip, qic, qit⟩ := xb
          simp only [MD.val, D] at HRn HRm HBa HBb HEq
          have HSab : Hid (∀ W, Below wr.heap.size wr W → MD.CellsAt W w5.heap.size (a * 11) ⟨⟨p0, p1, p2, p3, p4, p5, p6, p7, p8, pp, ppath, ppc⟩, pip, pic, pit⟩ ∧ MD.CellsAt W w5.heap.size (b * 11) ⟨⟨q0, q1, q2, q3, q4, q5, q6, q7, q8, qp, qpath, qpc⟩, qip, qic, qit⟩) := fun W hW => HC0.out W (HT2.out.trans (hW.mono HT2.out.size))
          have HSba : Hid (∀ W, Below wr.heap.size wr W → MD.CellsAt W w5.heap.size (b * 11) ⟨⟨q0, q1, q2, q3, q4, q5, q6, q7, q8, qp, qpath, qpc⟩, qip, qic, qit⟩ ∧ MD.CellsAt W w5.heap.size (a * 11) ⟨⟨p0, p1, p2, p3, p4, p5, p6, p7, p8, pp, ppath, ppc⟩, pip, pic, pit⟩) := fun W hW => ⟨(HSab.out W hW).2, (HSab.out W hW).1⟩
          go_wp2_with fail
          refine wp_region_noPanic ?_
          refine wp_region_held (S := fun W => (∀ i, i < 11 → W.cell? ⟨w5.heap.size, a * 11 + i, none⟩ = (#[.int .i64 p0, .string p1, .int .i64 p2, .int .u64 p3, .string p4, .int .i64 p5, .int .i64 p6, .int .i64 p7, .int .i64 p8, .slice pp ppath.length ppc, .slice pip pit.length pic] : Array Value)[i]?) ∧ (∀ i, i < 11 → W.cell? ⟨w5.heap.size, b * 11 + i, none⟩ = (#[.int .i64 q0, .string q1, .int .i64 q2, .int .u64 q3, .string q4, .int .i64 q5, .int .i64 q6, .int .i64 q7, .int .i64 q8, .slice qp qpath.length qpc, .slice qip qit.length qic] : Array Value)[i]?)) (by kernel_rfl) ?_
          obtain ⟨v1d, hv1d⟩ : ∃ W4, W4 = wr.drew := ⟨_, rfl⟩
          have e4 : ({ wr with drawn := wr.drawn + 1 } : World) = v1d := hv1d.symm
          rw [e4]
          have Bv1d : Below wr.heap.size wr v1d := by rw [hv1d]; exact (Below.refl _ _).drew
          have Rv1d : Below wr.heap.size wr v1d := Rwr.trans (Bv1d.mono Rwr.size)
          have hS := HSab.out v1d Rv1d
          clear e4 hv1d
          refine wpAnyH_take (i := 0) (v := .slice (some ⟨w5.heap.size, 0, none⟩) 3 3) rfl (by kernel_rfl) (by kernel_rfl) (by kernel_rfl) (fun _ _ _ h => h) (Or.inl ⟨by rfl, ?r⟩) hS ?_
          case r => intro W hW; simp [go_sem, execOp, Act.eval]
          simp only [List.getElem_toArray, List.getElem_cons_zero, Act.put, List.setIfInBounds_toArray, List.set_cons_succ, List.set_cons_zero]
          refine wpAnyH_take (i := 1) (v := .int .i64 a) rfl (by kernel_rfl) (by kernel_rfl) (by kernel_rfl) (fun _ _ _ h => h) (Or.inl ⟨by rfl, ?r⟩) hS ?_
          case r => intro W hW; simp [go_sem, execOp, Act.eval]
          simp only [List.getElem_toArray, List.getElem_cons_zero, List.getElem_cons_succ, Act.put, List.setIfInBounds_toArray, List.set_cons_succ, List.set_cons_zero]
          refine wpAnyH_take (i := 2) (v := .pointer (some ⟨w5.heap.size, a * 11, none⟩)) rfl (by kernel_rfl) (by kernel_rfl) (by kernel_rfl) (fun _ _ _ h => h) (Or.inl ⟨by rfl, ?r⟩) hS ?_
          case r => intro W hW; simp [go_sem, execOp, Act.eval, lta]
          simp only [List.getElem_toArray, List.getElem_cons_zero, List.getElem_cons_succ, Act.put, List.setIfInBounds_toArray, List.set_cons_succ, List.set_cons_zero]
          refine wpAnyH_take (i := 3) (v := .agg #[.int .i64 p0, .string p1, .int .i64 p2, .int .u64 p3, .string p4, .int .i64 p5, .int .i64 p6, .int .i64 p7, .int .i64 p8, .slice pp ppath.length ppc, .slice pip pit.length pic]) rfl (by kernel_rfl) (by kernel_rfl) (by kernel_rfl) (fun _ _ _ h => h) (Or.inl ⟨by rfl, ?r⟩) hS ?_
          case r => intro W hW; have e0 : W.cell? ⟨w5.heap.size, a * 11, none⟩ = some (.int .i64 p0) := hW.1 0 (by omega); have e1 : W.cell? ⟨w5.heap.size, a * 11 + 1, none⟩ = some (.string p1) := hW.1 1 (by omega); have e2 : W.cell? ⟨w5.heap.size, a * 11 + 2, none⟩ = some (.int .i64 p2) := hW.1 2 (by omega); have e3 : W.cell? ⟨w5.heap.size, a * 11 + 3, none⟩ = some (.int .u64 p3) := hW.1 3 (by omega); have e4 : W.cell? ⟨w5.heap.size, a * 11 + 4, none⟩ = some (.string p4) := hW.1 4 (by omega); have e5 : W.cell? ⟨w5.heap.size, a * 11 + 5, none⟩ = some (.int .i64 p5) := hW.1 5 (by omega); have e6 : W.cell? ⟨w5.heap.size, a * 11 + 6, none⟩ = some (.int .i64 p6) := hW.1 6 (by omega); have e7 : W.cell? ⟨w5.heap.size, a * 11 + 7, none⟩ = some (.int .i64 p7) := hW.1 7 (by omega); have e8 : W.cell? ⟨w5.heap.size, a * 11 + 8, none⟩ = some (.int .i64 p8) := hW.1 8 (by omega); have e9 : W.cell? ⟨w5.heap.size, a * 11 + 9, none⟩ = some (.slice pp ppath.length ppc) := hW.1 9 (by omega); have e10 : W.cell? ⟨w5.heap.size, a * 11 + 10, none⟩ = some (.slice pip pit.length pic) := hW.1 10 (by omega); simp [go_sem, execOp, Act.eval, e0, e1, e2, e3, e4, e5, e6, e7, e8, e9, e10]
          simp only [List.getElem_toArray, List.getElem_cons_zero, List.getElem_cons_succ, Act.put, List.setIfInBounds_toArray, List.set_cons_succ, List.set_cons_zero]
          refine wpAnyH_take (i := 4) (v := .slice (some ⟨w5.heap.size, 0, none⟩) 3 3) rfl (by kernel_rfl) (by kernel_rfl) (by kernel_rfl) (fun _ _ _ h => h) (Or.inl ⟨by rfl, ?r⟩) hS ?_
          case r => intro W hW; simp [go_sem, execOp, Act.eval]
          simp only [List.getElem_toArray, List.getElem_cons_zero, List.getElem_cons_succ, Act.put, List.setIfInBounds_toArray, List.set_cons_succ, List.set_cons_zero]
          refine wpAnyH_take (i := 5) (v := .int .i64 b) rfl (by kernel_rfl) (by kernel_rfl) (by kernel_rfl) (fun _ _ _ h => h) (Or.inl ⟨by rfl, ?r⟩) hS ?_
          case r => intro W hW; simp [go_sem, execOp, Act.eval]
          simp only [List.getElem_toArray, List.getElem_cons_zero, List.getElem_cons_succ, Act.put, List.setIfInBounds_toArray, List.set_cons_succ, List.set_cons_zero]
          refine wpAnyH_take (i := 6) (v := .pointer (some ⟨w5.heap.size, b * 11, none⟩)) rfl (by kernel_rfl) (by kernel_rfl) (by kernel_rfl) (fun _ _ _ h => h) (Or.inl ⟨by rfl, ?r⟩) hS ?_
          case r => intro W hW; simp [go_sem, execOp, Act.eval, ltb]
          simp only [List.getElem_toArray, List.getElem_cons_zero, List.getElem_cons_succ, Act.put, List.setIfInBounds_toArray, List.set_cons_succ, List.set_cons_zero]
          refine wpAnyH_take (i := 7) (v := .agg #[.int .i64 q0, .string q1, .int .i64 q2, .int .u64 q3, .string q4, .int .i64 q5, .int .i64 q6, .int .i64 q7, .int .i64 q8, .slice qp qpath.length qpc, .slice qip qit.length qic]) rfl (by kernel_rfl) (by kernel_rfl) (by kernel_rfl) (fun _ _ _ h => h) (Or.inl ⟨by rfl, ?r⟩) hS ?_
          case r => intro W hW; have e0 : W.cell? ⟨w5.heap.size, b * 11, none⟩ = some (.int .i64 q0) := hW.2 0 (by omega); have e1 : W.cell? ⟨w5.heap.size, b * 11 + 1, none⟩ = some (.string q1) := hW.2 1 (by omega); have e2 : W.cell? ⟨w5.heap.size, b * 11 + 2, none⟩ = some (.int .i64 q2) := hW.2 2 (by omega); have e3 : W.cell? ⟨w5.heap.size, b * 11 + 3, none⟩ = some (.int .u64 q3) := hW.2 3 (by omega); have e4 : W.cell? ⟨w5.heap.size, b * 11 + 4, none⟩ = some (.string q4) := hW.2 4 (by omega); have e5 : W.cell? ⟨w5.heap.size, b * 11 + 5, none⟩ = some (.int .i64 q5) := hW.2 5 (by omega); have e6 : W.cell? ⟨w5.heap.size, b * 11 + 6, none⟩ = some (.int .i64 q6) := hW.2 6 (by omega); have e7 : W.cell? ⟨w5.heap.size, b * 11 + 7, none⟩ = some (.int .i64 q7) := hW.2 7 (by omega); have e8 : W.cell? ⟨w5.heap.size, b * 11 + 8, none⟩ = some (.int .i64 q8) := hW.2 8 (by omega); have e9 : W.cell? ⟨w5.heap.size, b * 11 + 9, none⟩ = some (.slice qp qpath.length qpc) := hW.2 9 (by omega); have e10 : W.cell? ⟨w5.heap.size, b * 11 + 10, none⟩ = some (.slice qip qit.length qic) := hW.2 10 (by omega); simp [go_sem, execOp, Act.eval, e0, e1, e2, e3, e4, e5, e6, e7, e8, e9, e10]
          simp only [List.getElem_toArray, List.getElem_cons_zero, List.getElem_cons_succ, Act.put, List.setIfInBounds_toArray, List.set_cons_succ, List.set_cons_zero]
          refine wpAnyH_all (rs := [8]) (by kernel_rfl) (by simp) (fun i2 hi2 => ?_)
          obtain rfl : i2 = 8 := by simpa using hi2
          clear hi2
          refine wpOp_step rfl (fun K hK => ite_yes rfl ?_)
          simp only [List.getElem_toArray, List.getElem_cons_zero, List.getElem_cons_succ]
          go_simp
          refine (HRn.out _ Rv1d).mono ?_
          rintro e v1 ⟨rfl, Rv1⟩
          go_simp
          refine hK _ _ ⟨HSab.out _ Rv1, ?_⟩
          clear hK K hS
          have hS := HSab.out _ Rv1
          refine wpAnyH_take (i := 9) (v := .int .i64 n) rfl (by kernel_rfl) (by kernel_rfl) (by kernel_rfl) (fun _ _ _ h => h) (Or.inl ⟨by rfl, ?r⟩) hS ?_
          case r => intro W hW; simp [go_sem, execOp, Act.eval]
          simp only [List.getElem_toArray, List.getElem_cons_zero, List.getElem_cons_succ, Act.put, List.setIfInBounds_toArray, List.set_cons_succ, List.set_cons_zero]
          refine wpAnyH_done (by kernel_rfl) ?_ _
          refine NoPanic.normal ?_
          try simp only [Act.put]
          clear hS Rv1d Bv1d
          go_wp2_with fail
          refine wp_region_noPanic ?_
          refine wp_region_held (S := fun W => (∀ i, i < 11 → W.cell? ⟨w5.heap.size, b * 11 + i, none⟩ = (#[.int .i64 q0, .string q1, .int .i64 q2, .int .u64 q3, .string q4, .int .i64 q5, .int .i64 q6, .int .i64 q7, .int .i64 q8, .slice qp qpath.length qpc, .slice qip qit.length qic] : Array Value)[i]?) ∧ (∀ i, i < 11 → W.cell? ⟨w5.heap.size, a * 11 + i, none⟩ = (#[.int .i64 p0, .string p1, .int .i64 p2, .int .u64 p3, .string p4, .int .i64 p5, .int .i64 p6, .int .i64 p7, .int .i64 p8, .slice pp ppath.length ppc, .slice pip pit.length pic] : Array Value)[i]?)) (by kernel_rfl) ?_
          obtain ⟨v2d, hv2d⟩ : ∃ W4, W4 = v1.drew := ⟨_, rfl⟩
          have e4 : ({ v1 with drawn := v1.drawn + 1 } : World) = v2d := hv2d.symm
          rw [e4]
          have Bv2d : Below v1.heap.size v1 v2d := by rw [hv2d]; exact (Below.refl _ _).drew
          have Rv2d : Below wr.heap.size wr v2d := Rv1.trans (Bv2d.mono Rv1.size)
          have hS := HSba.out v2d Rv2d
          clear e4 hv2d
          refine wpAnyH_take (i := 0) (v := .slice (some ⟨w5.heap.size, 0, none⟩) 3 3) rfl (by kernel_rfl) (by kernel_rfl) (by kernel_rfl) (fun _ _ _ h => h) (Or.inl ⟨by rfl, ?r⟩) hS ?_
          case r => intro W hW; simp [go_sem, execOp, Act.eval]
          simp only [List.getElem_toArray, List.getElem_cons_zero, Act.put, List.setIfInBounds_toArray, List.set_cons_succ, List.set_cons_zero]
          refine wpAnyH_take (i := 1) (v := .int .i64 b) rfl (by kernel_rfl) (by kernel_rfl) (by kernel_rfl) (fun _ _ _ h => h) (Or.inl ⟨by rfl, ?r⟩) hS ?_
          case r => intro W hW; simp [go_sem, execOp, Act.eval]
          simp only [List.getElem_toArray, List.getElem_cons_zero, List.getElem_cons_succ, Act.put, List.setIfInBounds_toArray, List.set_cons_succ, List.set_cons_zero]
          refine wpAnyH_take (i := 2) (v := .pointer (some ⟨w5.heap.size, b * 11, none⟩)) rfl (by kernel_rfl) (by kernel_rfl) (by kernel_rfl) (fun _ _ _ h => h) (Or.inl ⟨by rfl, ?r⟩) hS ?_
          case r => intro W hW; simp [go_sem, execOp, Act.eval, ltb]
          simp only [List.getElem_toArray, List.getElem_cons_zero, List.getElem_cons_succ, Act.put, List.setIfInBounds_toArray, List.set_cons_succ, List.set_cons_zero]
          refine wpAnyH_take (i := 3) (v := .agg #[.int .i64 q0, .string q1, .int .i64 q2, .int .u64 q3, .string q4, .int .i64 q5, .int .i64 q6, .int .i64 q7, .int .i64 q8, .slice qp qpath.length qpc, .slice qip qit.length qic]) rfl (by kernel_rfl) (by kernel_rfl) (by kernel_rfl) (fun _ _ _ h => h) (Or.inl ⟨by rfl, ?r⟩) hS ?_
          case r => intro W hW; have e0 : W.cell? ⟨w5.heap.size, b * 11, none⟩ = some (.int .i64 q0) := hW.1 0 (by omega); have e1 : W.cell? ⟨w5.heap.size, b * 11 + 1, none⟩ = some (.string q1) := hW.1 1 (by omega); have e2 : W.cell? ⟨w5.heap.size, b * 11 + 2, none⟩ = some (.int .i64 q2) := hW.1 2 (by omega); have e3 : W.cell? ⟨w5.heap.size, b * 11 + 3, none⟩ = some (.int .u64 q3) := hW.1 3 (by omega); have e4 : W.cell? ⟨w5.heap.size, b * 11 + 4, none⟩ = some (.string q4) := hW.1 4 (by omega); have e5 : W.cell? ⟨w5.heap.size, b * 11 + 5, none⟩ = some (.int .i64 q5) := hW.1 5 (by omega); have e6 : W.cell? ⟨w5.heap.size, b * 11 + 6, none⟩ = some (.int .i64 q6) := hW.1 6 (by omega); have e7 : W.cell? ⟨w5.heap.size, b * 11 + 7, none⟩ = some (.int .i64 q7) := hW.1 7 (by omega); have e8 : W.cell? ⟨w5.heap.size, b * 11 + 8, none⟩ = some (.int .i64 q8) := hW.1 8 (by omega); have e9 : W.cell? ⟨w5.heap.size, b * 11 + 9, none⟩ = some (.slice qp qpath.length qpc) := hW.1 9 (by omega); have e10 : W.cell? ⟨w5.heap.size, b * 11 + 10, none⟩ = some (.slice qip qit.length qic) := hW.1 10 (by omega); simp [go_sem, execOp, Act.eval, e0, e1, e2, e3, e4, e5, e6, e7, e8, e9, e10]
          simp only [List.getElem_toArray, List.getElem_cons_zero, List.getElem_cons_succ, Act.put, List.setIfInBounds_toArray, List.set_cons_succ, List.set_cons_zero]
          refine wpAnyH_take (i := 4) (v := .slice (some ⟨w5.heap.size, 0, none⟩) 3 3) rfl (by kernel_rfl) (by kernel_rfl) (by kernel_rfl) (fun _ _ _ h => h) (Or.inl ⟨by rfl, ?r⟩) hS ?_
          case r => intro W hW; simp [go_sem, execOp, Act.eval]
          simp only [List.getElem_toArray, List.getElem_cons_zero, List.getElem_cons_succ, Act.put, List.setIfInBounds_toArray, List.set_cons_succ, List.set_cons_zero]
          refine wpAnyH_take (i := 5) (v := .int .i64 a) rfl (by kernel_rfl) (by kernel_rfl) (by kernel_rfl) (fun _ _ _ h => h) (Or.inl ⟨by rfl, ?r⟩) hS ?_
          case r => intro W hW; simp [go_sem, execOp, Act.eval]
          simp only [List.getElem_toArray, List.getElem_cons_zero, List.getElem_cons_succ, Act.put, List.setIfInBounds_toArray, List.set_cons_succ, List.set_cons_zero]
          refine wpAnyH_take (i := 6) (v := .pointer (some ⟨w5.heap.size, a * 11, none⟩)) rfl (by kernel_rfl) (by kernel_rfl) (by kernel_rfl) (fun _ _ _ h => h) (Or.inl ⟨by rfl, ?r⟩) hS ?_
          case r => intro W hW; simp [go_sem, execOp, Act.eval, lta]
          simp only [List.getElem_toArray, List.getElem_cons_zero, List.getElem_cons_succ, Act.put, List.setIfInBounds_toArray, List.set_cons_succ, List.set_cons_zero]
          refine wpAnyH_take (i := 7) (v := .agg #[.int .i64 p0, .string p1, .int .i64 p2, .int .u64 p3, .string p4, .int .i64 p5, .int .i64 p6, .int .i64 p7, .int .i64 p8, .slice pp ppath.length ppc, .slice pip pit.length pic]) rfl (by kernel_rfl) (by kernel_rfl) (by kernel_rfl) (fun _ _ _ h => h) (Or.inl ⟨by rfl, ?r⟩) hS ?_
          case r => intro W hW; have e0 : W.cell? ⟨w5.heap.size, a * 11, none⟩ = some (.int .i64 p0) := hW.2 0 (by omega); have e1 : W.cell? ⟨w5.heap.size, a * 11 + 1, none⟩ = some (.string p1) := hW.2 1 (by omega); have e2 : W.cell? ⟨w5.heap.size, a * 11 + 2, none⟩ = some (.int .i64 p2) := hW.2 2 (by omega); have e3 : W.cell? ⟨w5.heap.size, a * 11 + 3, none⟩ = some (.int .u64 p3) := hW.2 3 (by omega); have e4 : W.cell? ⟨w5.heap.size, a * 11 + 4, none⟩ = some (.string p4) := hW.2 4 (by omega); have e5 : W.cell? ⟨w5.heap.size, a * 11 + 5, none⟩ = some (.int .i64 p5) := hW.2 5 (by omega); have e6 : W.cell? ⟨w5.heap.size, a * 11 + 6, none⟩ = some (.int .i64 p6) := hW.2 6 (by omega); have e7 : W.cell? ⟨w5.heap.size, a * 11 + 7, none⟩ = some (.int .i64 p7) := hW.2 7 (by omega); have e8 : W.cell? ⟨w5.heap.size, a * 11 + 8, none⟩ = some (.int .i64 p8) := hW.2 8 (by omega); have e9 : W.cell? ⟨w5.heap.size, a * 11 + 9, none⟩ = some (.slice pp ppath.length ppc) := hW.2 9 (by omega); have e10 : W.cell? ⟨w5.heap.size, a * 11 + 10, none⟩ = some (.slice pip pit.length pic) := hW.2 10 (by omega); simp [go_sem, execOp, Act.eval, e0, e1, e2, e3, e4, e5, e6, e7, e8, e9, e10]
          simp only [List.getElem_toArray, List.getElem_cons_zero, List.getElem_cons_succ, Act.put, List.setIfInBounds_toArray, List.set_cons_succ, List.set_cons_zero]
          refine wpAnyH_all (rs := [8]) (by kernel_rfl) (by simp) (fun i2 hi2 => ?_)
          obtain rfl : i2 = 8 := by simpa using hi2
          clear hi2
          refine wpOp_step rfl (fun K hK => ite_yes rfl ?_)
          simp only [List.getElem_toArray, List.getElem_cons_zero, List.getElem_cons_succ]
          go_simp
          refine (HRm.out _ Rv2d).mono ?_
          rintro e v2 ⟨rfl, Rv2⟩
          go_simp
          refine hK _ _ ⟨HSba.out _ Rv2, ?_⟩
          clear hK K hS
          have hS := HSba.out _ Rv2
          refine wpAnyH_take (i := 9) (v := .int .i64 m) rfl (by kernel_rfl) (by kernel_rfl) (by kernel_rfl) (fun _ _ _ h => h) (Or.inl ⟨by rfl, ?r⟩) hS ?_
          case r => intro W hW; simp [go_sem, execOp, Act.eval]
          simp only [List.getElem_toArray, List.getElem_cons_zero, List.getElem_cons_succ, Act.put, List.setIfInBounds_toArray, List.set_cons_succ, List.set_cons_zero]
          refine wpAnyH_done (by kernel_rfl) ?_ _
          refine NoPanic.normal ?_
          try simp only [Act.put]
          clear hS Rv2d Bv2d
          have hCp := (HSab.out _ Rv2).1
          have pc0 : v2.cell? ⟨w5.heap.size, a * 11, none⟩ = some (.int .i64 p0) := hCp 0 (by omega)
          have pc1 : v2.cell? ⟨w5.heap.size, a * 11 + 1, none⟩ = some (.string p1) := hCp 1 (by omega)
          have pc2 : v2.cell? ⟨w5.heap.size, a * 11 + 2, none⟩ = some (.int .i64 p2) := hCp 2 (by omega)
          have pc3 : v2.cell? ⟨w5.heap.size, a * 11 + 3, none⟩ = some (.int .u64 p3) := hCp 3 (by omega)
          have pc4 : v2.cell? ⟨w5.heap.size, a * 11 + 4, none⟩ = some (.string p4) := hCp 4 (by omega)
          have pc5 : v2.cell? ⟨w5.heap.size, a * 11 + 5, none⟩ = some (.int .i64 p5) := hCp 5 (by omega)
          have pc6 : v2.cell? ⟨w5.heap.size, a * 11 + 6, none⟩ = some (.int .i64 p6) := hCp 6 (by omega)
          have pc7 : v2.cell? ⟨w5.heap.size, a * 11 + 7, none⟩ = some (.int .i64 p7) := hCp 7 (by omega)
          have pc8 : v2.cell? ⟨w5.heap.size, a * 11 + 8, none⟩ = some (.int .i64 p8) := hCp 8 (by omega)
          have pc9 : v2.cell? ⟨w5.heap.size, a * 11 + 9, none⟩ = some (.slice pp ppath.length ppc) := hCp 9 (by omega)
          have pc10 : v2.cell? ⟨w5.heap.size, a * 11 + 10, none⟩ = some (.slice pip pit.length pic) := hCp 10 (by omega)
          clear hCp
          go_wp2_with fail
          refine (HBa.out _ Rv2).mono ?_
          rintro r v3 ⟨rfl, Rv3⟩
          clear pc0 pc1 pc2 pc3 pc4 pc5 pc6 pc7 pc8 pc9 pc10
          have hCq := (HSab.out _ Rv3).2
          have qc0 : v3.cell? ⟨w5.heap.size, b * 11, none⟩ = some (.int .i64 q0) := hCq 0 (by omega)
          have qc1 : v3.cell? ⟨w5.heap.size, b * 11 + 1, none⟩ = some (.string q1) := hCq 1 (by omega)
          have qc2 : v3.cell? ⟨w5.heap.size, b * 11 + 2, none⟩ = some (.int .i64 q2) := hCq 2 (by omega)
          have qc3 : v3.cell? ⟨w5.heap.size, b * 11 + 3, none⟩ = some (.int .u64 q3) := hCq 3 (by omega)
          have qc4 : v3.cell? ⟨w5.heap.size, b * 11 + 4, none⟩ = some (.string q4) := hCq 4 (by omega)
          have qc5 : v3.cell? ⟨w5.heap.size, b * 11 + 5, none⟩ = some (.int .i64 q5) := hCq 5 (by omega)
          have qc6 : v3.cell? ⟨w5.heap.size, b * 11 + 6, none⟩ = some (.int .i64 q6) := hCq 6 (by omega)
          have qc7 : v3.cell? ⟨w5.heap.size, b * 11 + 7, none⟩ = some (.int .i64 q7) := hCq 7 (by omega)
          have qc8 : v3.cell? ⟨w5.heap.size, b * 11 + 8, none⟩ = some (.int .i64 q8) := hCq 8 (by omega)
          have qc9 : v3.cell? ⟨w5.heap.size, b * 11 + 9, none⟩ = some (.slice qp qpath.length qpc) := hCq 9 (by omega)
          have qc10 : v3.cell? ⟨w5.heap.size, b * 11 + 10, none⟩ = some (.slice qip qit.length qic) := hCq 10 (by omega)
          clear hCq
          go_wp2_with fail
          refine (HBb.out _ Rv3).mono ?_
          rintro r v4 ⟨rfl, Rv4⟩
          clear qc0 qc1 qc2 qc3 qc4 qc5 qc6 qc7 qc8 qc9 qc10
          have HT4 : Hid (Below W6.heap.size W6 v4) := HT2.out.trans (Rv4.mono HT2.out.size)
          by_cases hot : one = true ∨ two = true
          · obtain ⟨rfl, rfl⟩ := HF9.out hot
            clear HF9 HF1 HEQ HSab HSba HRn HRm HBa HBb HEq HC0 Rv1 Rv2 Rv3 Rv4
            cases one
            · obtain rfl : two = true := by simpa using hot
              clear hot
              go_wp2_with fail
              exact ⟨⟨b + 1, by omega, by go_num, HT4⟩, by simp [intOf]; omega⟩
            · clear hot
              go_wp2_with fail
              exact ⟨⟨b + 1, by omega, by go_num, HT4⟩, by simp [intOf]; omega⟩
          · obtain ⟨rfl, rfl⟩ : one = false ∧ two = false := by simpa using hot
            obtain ⟨n0, n1, rfl, rfl⟩ := HF1.out rfl rfl
            have HFn : Hid (n = rkv ⟨⟨p0, p1, p2, p3, p4, p5, p6, p7, p8, pp, ppath, ppc⟩, pip, pic, pit⟩ ⟨⟨q0, q1, q2, q3, q4, q5, q6, q7, q8, qp, qpath, qpc⟩, qip, qic, qit⟩ ∧ brk ⟨⟨p0, p1, p2, p3, p4, p5, p6, p7, p8, pp, ppath, ppc⟩, pip, pic, pit⟩ = false ∧ brk ⟨⟨q0, q1, q2, q3, q4, q5, q6, q7, q8, qp, qpath, qpc⟩, qip, qic, qit⟩ = false) := ⟨HEQ.out.1, HEQ.out.2.1.symm, HEQ.out.2.2.symm⟩
            have n2 : ¬ n < -1 := by omega
            have n3 : ¬ 1 < n := by omega
            clear HF9 HF1 HEQ HRn HRm HBa HBb hot
            go_wp2_with fail
            refine wp_region_noPanic ?_
            refine wp_region_held (S := fun W => (∀ i, i < 11 → W.cell? ⟨w5.heap.size, a * 11 + i, none⟩ = (#[.int .i64 p0, .string p1, .int .i64 p2, .int .u64 p3, .string p4, .int .i64 p5, .int .i64 p6, .int .i64 p7, .int .i64 p8, .slice pp ppath.length ppc, .slice pip pit.length pic] : Array Value)[i]?) ∧ (∀ i, i < 11 → W.cell? ⟨w5.heap.size, b * 11 + i, none⟩ = (#[.int .i64 q0, .string q1, .int .i64 q2, .int .u64 q3, .string q4, .int .i64 q5, .int .i64 q6, .int .i64 q7, .int .i64 q8, .slice qp qpath.length qpc, .slice qip qit.length qic] : Array Value)[i]?)) (by kernel_rfl) ?_
            obtain ⟨v5d, hv5d⟩ : ∃ W4, W4 = v4.drew := ⟨_, rfl⟩
            have e4 : ({ v4 with drawn := v4.drawn + 1 } : World) = v5d := hv5d.symm
            rw [e4]
            have Bv5d : Below v4.heap.size v4 v5d := by rw [hv5d]; exact (Below.refl _ _).drew
            have Rv5d : Below wr.heap.size wr v5d := Rv4.trans (Bv5d.mono Rv4.size)
            have hS := HSab.out v5d Rv5d
            clear e4 hv5d
            refine wpAnyH_take (i := 0) (v := .slice (some ⟨w5.heap.size, 0, none⟩) 3 3) rfl (by kernel_rfl) (by kernel_rfl) (by kernel_rfl) (fun _ _ _ h => h) (Or.inl ⟨by rfl, ?r⟩) hS ?_
            case r => intro W hW; simp [go_sem, execOp, Act.eval]
            simp only [List.getElem_toArray, List.getElem_cons_zero, Act.put, List.setIfInBounds_toArray, List.set_cons_succ, List.set_cons_zero]
            refine wpAnyH_take (i := 1) (v := .int .i64 a) rfl (by kernel_rfl) (by kernel_rfl) (by kernel_rfl) (fun _ _ _ h => h) (Or.inl ⟨by rfl, ?r⟩) hS ?_
            case r => intro W hW; simp [go_sem, execOp, Act.eval]
            simp only [List.getElem_toArray, List.getElem_cons_zero, List.getElem_cons_succ, Act.put, List.setIfInBounds_toArray, List.set_cons_succ, List.set_cons_zero]
            refine wpAnyH_take (i := 2) (v := .pointer (some ⟨w5.heap.size, a * 11, none⟩)) rfl (by kernel_rfl) (by kernel_rfl) (by kernel_rfl) (fun _ _ _ h => h) (Or.inl ⟨by rfl, ?r⟩) hS ?_
            case r => intro W hW; simp [go_sem, execOp, Act.eval, lta]
            simp only [List.getElem_toArray, List.getElem_cons_zero, List.getElem_cons_succ, Act.put, List.setIfInBounds_toArray, List.set_cons_succ, List.set_cons_zero]
            refine wpAnyH_take (i := 3) (v := .agg #[.int .i64 p0, .string p1, .int .i64 p2, .int .u64 p3, .string p4, .int .i64 p5, .int .i64 p6, .int .i64 p7, .int .i64 p8, .slice pp ppath.length ppc, .slice pip pit.length pic]) rfl (by kernel_rfl) (by kernel_rfl) (by kernel_rfl) (fun _ _ _ h => h) (Or.inl ⟨by rfl, ?r⟩) hS ?_
            case r => intro W hW; have e0 : W.cell? ⟨w5.heap.size, a * 11, none⟩ = some (.int .i64 p0) := hW.1 0 (by omega); have e1 : W.cell? ⟨w5.heap.size, a * 11 + 1, none⟩ = some (.string p1) := hW.1 1 (by omega); have e2 : W.cell? ⟨w5.heap.size, a * 11 + 2, none⟩ = some (.int .i64 p2) := hW.1 2 (by omega); have e3 : W.cell? ⟨w5.heap.size, a * 11 + 3, none⟩ = some (.int .u64 p3) := hW.1 3 (by omega); have e4 : W.cell? ⟨w5.heap.size, a * 11 + 4, none⟩ = some (.string p4) := hW.1 4 (by omega); have e5 : W.cell? ⟨w5.heap.size, a * 11 + 5, none⟩ = some (.int .i64 p5) := hW.1 5 (by omega); have e6 : W.cell? ⟨w5.heap.size, a * 11 + 6, none⟩ = some (.int .i64 p6) := hW.1 6 (by omega); have e7 : W.cell? ⟨w5.heap.size, a * 11 + 7, none⟩ = some (.int .i64 p7) := hW.1 7 (by omega); have e8 : W.cell? ⟨w5.heap.size, a * 11 + 8, none⟩ = some (.int .i64 p8) := hW.1 8 (by omega); have e9 : W.cell? ⟨w5.heap.size, a * 11 + 9, none⟩ = some (.slice pp ppath.length ppc) := hW.1 9 (by omega); have e10 : W.cell? ⟨w5.heap.size, a * 11 + 10, none⟩ = some (.slice pip pit.length pic) := hW.1 10 (by omega); simp [go_sem, execOp, Act.eval, e0, e1, e2, e3, e4, e5, e6, e7, e8, e9, e10]
            simp only [List.getElem_toArray, List.getElem_cons_zero, List.getElem_cons_succ, Act.put, List.setIfInBounds_toArray, List.set_cons_succ, List.set_cons_zero]
            refine wpAnyH_take (i := 4) (v := .slice (some ⟨w5.heap.size, 0, none⟩) 3 3) rfl (by kernel_rfl) (by kernel_rfl) (by kernel_rfl) (fun _ _ _ h => h) (Or.inl ⟨by rfl, ?r⟩) hS ?_
            case r => intro W hW; simp [go_sem, execOp, Act.eval]
            simp only [List.getElem_toArray, List.getElem_cons_zero, List.getElem_cons_succ, Act.put, List.setIfInBounds_toArray, List.set_cons_succ, List.set_cons_zero]
            refine wpAnyH_take (i := 5) (v := .int .i64 b) rfl (by kernel_rfl) (by kernel_rfl) (by kernel_rfl) (fun _ _ _ h => h) (Or.inl ⟨by rfl, ?r⟩) hS ?_
            case r => intro W hW; simp [go_sem, execOp, Act.eval]
            simp only [List.getElem_toArray, List.getElem_cons_zero, List.getElem_cons_succ, Act.put, List.setIfInBounds_toArray, List.set_cons_succ, List.set_cons_zero]
            refine wpAnyH_take (i := 6) (v := .pointer (some ⟨w5.heap.size, b * 11, none⟩)) rfl (by kernel_rfl) (by kernel_rfl) (by kernel_rfl) (fun _ _ _ h => h) (Or.inl ⟨by rfl, ?r⟩) hS ?_
            case r => intro W hW; simp [go_sem, execOp, Act.eval, ltb]
            simp only [List.getElem_toArray, List.getElem_cons_zero, List.getElem_cons_succ, Act.put, List.setIfInBounds_toArray, List.set_cons_succ, List.set_cons_zero]
            refine wpAnyH_take (i := 7) (v := .agg #[.int .i64 q0, .string q1, .int .i64 q2, .int .u64 q3, .string q4, .int .i64 q5, .int .i64 q6, .int .i64 q7, .int .i64 q8, .slice qp qpath.length qpc, .slice qip qit.length qic]) rfl (by kernel_rfl) (by kernel_rfl) (by kernel_rfl) (fun _ _ _ h => h) (Or.inl ⟨by rfl, ?r⟩) hS ?_
            case r => intro W hW; have e0 : W.cell? ⟨w5.heap.size, b * 11, none⟩ = some (.int .i64 q0) := hW.2 0 (by omega); have e1 : W.cell? ⟨w5.heap.size, b * 11 + 1, none⟩ = some (.string q1) := hW.2 1 (by omega); have e2 : W.cell? ⟨w5.heap.size, b * 11 + 2, none⟩ = some (.int .i64 q2) := hW.2 2 (by omega); have e3 : W.cell? ⟨w5.heap.size, b * 11 + 3, none⟩ = some (.int .u64 q3) := hW.2 3 (by omega); have e4 : W.cell? ⟨w5.heap.size, b * 11 + 4, none⟩ = some (.string q4) := hW.2 4 (by omega); have e5 : W.cell? ⟨w5.heap.size, b * 11 + 5, none⟩ = some (.int .i64 q5) := hW.2 5 (by omega); have e6 : W.cell? ⟨w5.heap.size, b * 11 + 6, none⟩ = some (.int .i64 q6) := hW.2 6 (by omega); have e7 : W.cell? ⟨w5.heap.size, b * 11 + 7, none⟩ = some (.int .i64 q7) := hW.2 7 (by omega); have e8 : W.cell? ⟨w5.heap.size, b * 11 + 8, none⟩ = some (.int .i64 q8) := hW.2 8 (by omega); have e9 : W.cell? ⟨w5.heap.size, b * 11 + 9, none⟩ = some (.slice qp qpath.length qpc) := hW.2 9 (by omega); have e10 : W.cell? ⟨w5.heap.size, b * 11 + 10, none⟩ = some (.slice qip qit.length qic) := hW.2 10 (by omega); simp [go_sem, execOp, Act.eval, e0, e1, e2, e3, e4, e5, e6, e7, e8, e9, e10]
            simp only [List.getElem_toArray, List.getElem_cons_zero, List.getElem_cons_succ, Act.put, List.setIfInBounds_toArray, List.set_cons_succ, List.set_cons_zero]
            refine wpAnyH_all (rs := [8]) (by kernel_rfl) (by simp) (fun i2 hi2 => ?_)
            obtain rfl : i2 = 8 := by simpa using hi2
            clear hi2
            refine wpOp_step rfl (fun K hK => ite_yes rfl ?_)
            simp only [List.getElem_toArray, List.getElem_cons_zero, List.getElem_cons_succ]
            go_simp
            refine (HEq.out _ Rv5d).mono ?_
            rintro e v5 ⟨rfl, Rv5⟩
            go_simp
            refine hK _ _ ⟨HSab.out _ Rv5, ?_⟩
            clear hK K hS
            have hS := HSab.out _ Rv5
            refine wpAnyH_take (i := 9) (v := .tuple #[.bool (n == 0), .nilIface]) rfl (by kernel_rfl) (by kernel_rfl) (by kernel_rfl) (fun _ _ _ h => h) (Or.inl ⟨by rfl, ?r⟩) hS ?_
            case r => intro W hW; simp [go_sem, execOp, Act.eval]
            simp only [List.getElem_toArray, List.getElem_cons_zero, List.getElem_cons_succ, Act.put, List.setIfInBounds_toArray, List.set_cons_succ, List.set_cons_zero]
            refine wpAnyH_take (i := 10) (v := .bool (n == 0)) rfl (by kernel_rfl) (by kernel_rfl) (by kernel_rfl) (fun _ _ _ h => h) (Or.inl ⟨by rfl, ?r⟩) hS ?_
            case r => intro W hW; simp [go_sem, execOp, Act.eval]
            simp only [List.getElem_toArray, List.getElem_cons_zero, List.getElem_cons_succ, Act.put, List.setIfInBounds_toArray, List.set_cons_succ, List.set_cons_zero]
            refine wpAnyH_take (i := 11) (v := .nilIface) rfl (by kernel_rfl) (by kernel_rfl) (by kernel_rfl) (fun _ _ _ h => h) (Or.inl ⟨by rfl, ?r⟩) hS ?_
            case r => intro W hW; simp [go_sem, execOp, Act.eval]
            simp only [List.getElem_toArray, List.getElem_cons_zero, List.getElem_cons_succ, Act.put, List.setIfInBounds_toArray, List.set_cons_succ, List.set_cons_zero]
            refine wpAnyH_take (i := 12) (v := .bool (n == 0)) rfl (by kernel_rfl) (by kernel_rfl) (by kernel_rfl) (fun _ _ _ h => h) (Or.inl ⟨by rfl, ?r⟩) hS ?_
            case r => intro W hW; simp [go_sem, execOp, Act.eval]
            simp only [List.getElem_toArray, List.getElem_cons_zero, List.getElem_cons_succ, Act.put, List.setIfInBounds_toArray, List.set_cons_succ, List.set_cons_zero]
            refine wpAnyH_take (i := 13) (v := .nilIface) rfl (by kernel_rfl) (by kernel_rfl) (by kernel_rfl) (fun _ _ _ h => h) (Or.inl ⟨by rfl, ?r⟩) hS ?_
            case r => intro W hW; simp [go_sem, execOp, Act.eval]
            simp only [List.getElem_toArray, List.getElem_cons_zero, List.getElem_cons_succ, Act.put, List.setIfInBounds_toArray, List.set_cons_succ, List.set_cons_zero]
            refine wpAnyH_done (by kernel_rfl) ?_ _
            refine NoPanic.normal ?_
            try simp only [Act.put]
            clear hS Rv5d Bv5d
            have HT5 : Hid (Below W6.heap.size W6 v5) := HT2.out.trans (Rv5.mono HT2.out.size)
            clear HSab HSba HEq Rv1 Rv2 Rv3 Rv4 Rv5 HT4
            go_wp2_with fail
            go_loopw [16, 17, 18, 19] (fun i _ _ _ wr => ∃ c : Nat, c ≤ 3 ∧ i = .int .i64 c ∧ Hid (Below W6.heap.size W6 wr)) (fun i _ _ _ _ => 3 - (intOf i).toNat)
            case atStart => exact ⟨0, by omega, rfl, HT5⟩
            case round =>
              obtain ⟨c, hc3, rfl, HT3⟩ := hrel
              have Rwr : Below wr.heap.size wr wr := Below.refl _ _
              by_cases ltc' : c < 3
              · have ltc : (c : Int) < 3 := by omega
                have HCt : Hid (∀ W, Below wr.heap.size wr W → MD.CellsAt W w5.heap.size (b * 11) ⟨⟨q0, q1, q2, q3, q4, q5, q6, q7, q8, qp, qpath, qpc⟩, qip, qic, qit⟩ ∧ MD.CellsAt W w5.heap.size (c * 11) (ls c) ∧ MD.CellsAt W w5.heap.size (a * 11) ⟨⟨p0, p1, p2, p3, p4, p5, p6, p7, p8, pp, ppath, ppc⟩, pip, pic, pit⟩) := fun W hW =>
                  ⟨HC0.out W (HT3.out.trans (hW.mono HT3.out.size)) |>.2, HC.out W (HT3.out.trans (hW.mono HT3.out.size)) c ltc', HC0.out W (HT3.out.trans (hW.mono HT3.out.size)) |>.1⟩
                have HOt : Hid (OrdK K (ls c)) := HO.out c
                have HBt : Hid (∀ W, Below wr.heap.size wr W → Calls Tryd.prog 9 #[(ls c).val] W fun r w' => r = .returned (.bool (brk (ls c))) ∧ Below wr.heap.size wr w') := fun W hW => (broken_ord HOt.out W).mono fun _ _ h => ⟨h.1, hW.trans (h.2.mono hW.size)⟩
                have HRo : Hid (∀ W, Below wr.heap.size wr W → Calls Tryd.prog 15 #[MD.val ⟨⟨q0, q1, q2, q3, q4, q5, q6, q7, q8, qp, qpath, qpc⟩, qip, qic, qit⟩, (ls c).val] W fun r w' => r = .returned (.int .i64 (rkv ⟨⟨q0, q1, q2, q3, q4, q5, q6, q7, q8, qp, qpath, qpc⟩, qip, qic, qit⟩ (ls c))) ∧ Below wr.heap.size wr w') := fun W hW => (rank_ord HOb.out HOt.out W (HNm.out W (HT3.out.trans (hW.mono HT3.out.size)))).mono fun _ _ h => ⟨h.1, hW.trans (h.2.mono hW.size)⟩
                have HRp : Hid (∀ W, Below wr.heap.size wr W → Calls Tryd.prog 15 #[MD.val ⟨⟨p0, p1, p2, p3, p4, p5, p6, p7, p8, pp, ppath, ppc⟩, pip, pic, pit⟩, (ls c).val] W fun r w' => r = .returned (.int .i64 (rkv ⟨⟨p0, p1, p2, p3, p4, p5, p6, p7, p8, pp, ppath, ppc⟩, pip, pic, pit⟩ (ls c))) ∧ Below wr.heap.size wr w') := fun W hW => (rank_ord HOa.out HOt.out W (HNm.out W (HT3.out.trans (hW.mono HT3.out.size)))).mono fun _ _ h => ⟨h.1, hW.trans (h.2.mono hW.size)⟩
                have HFt : Hid (brk (ls c) = false → n ≤ 0 → rkv ⟨⟨q0, q1, q2, q3, q4, q5, q6, q7, q8, qp, qpath, qpc⟩, qip, qic, qit⟩ (ls c) ≤ 0 → rkv ⟨⟨p0, p1, p2, p3, p4, p5, p6, p7, p8, pp, ppath, ppc⟩, pip, pic, pit⟩ (ls c) ≤ 0 ∧ (n < 0 ∨ rkv ⟨⟨q0, q1, q2, q3, q4, q5, q6, q7, q8, qp, qpath, qpc⟩, qip, qic, qit⟩ (ls c) < 0 → rkv ⟨⟨p0, p1, p2, p3, p4, p5, p6, p7, p8, pp, ppath, ppc⟩, pip, pic, pit⟩ (ls c) < 0)) := fun h1 h2 h3 => by
                  obtain ⟨e1, e2, e3⟩ := HFn.out
                  rw [e1] at h2 ⊢
                  exact ord_trans HOa.out HOb.out HOt.out e2 e3 h1 h2 h3
                generalize rkv ⟨⟨q0, q1, q2, q3, q4, q5, q6, q7, q8, qp, qpath, qpc⟩, qip, qic, qit⟩ (ls c) = ov at HRo HFt
                generalize rkv ⟨⟨p0, p1, p2, p3, p4, p5, p6, p7, p8, pp, ppath, ppc⟩, pip, pic, pit⟩ (ls c) = pv at HRp HFt
                generalize brk (ls c) = three at HBt HFt
                generalize ls c = zt at HCt HOt HBt HRo HRp
                obtain ⟨⟨z0, z1, z2, z3, z4, z5, z6, z7, z8, zp, zpath, zpc⟩, zip, zic, zit⟩ := zt
                simp only [MD.val, D] at HBt HRo HRp
                have hCz := (HCt.out _ Rwr).2.1
                have zc0 : wr.cell? ⟨w5.heap.size, c * 11, none⟩ = some (.int .i64 z0) := hCz 0 (by omega)
                have zc1 : wr.cell? ⟨w5.heap.size, c * 11 + 1, none⟩ = some (.string z1) := hCz 1 (by omega)
                have zc2 : wr.cell? ⟨w5.heap.size, c * 11 + 2, none⟩ = some (.int .i64 z2) := hCz 2 (by omega)
                have zc3 : wr.cell? ⟨w5.heap.size, c * 11 + 3, none⟩ = some (.int .u64 z3) := hCz 3 (by omega)
                have zc4 : wr.cell? ⟨w5.heap.size, c * 11 + 4, none⟩ = some (.string z4) := hCz 4 (by omega)
                have zc5 : wr.cell? ⟨w5.heap.size, c * 11 + 5, none⟩ = some (.int .i64 z5) := hCz 5 (by omega)
                have zc6 : wr.cell? ⟨w5.heap.size, c * 11 + 6, none⟩ = some (.int .i64 z6) := hCz 6 (by omega)
                have zc7 : wr.cell? ⟨w5.heap.size, c * 11 + 7, none⟩ = some (.int .i64 z7) := hCz 7 (by omega)
                have zc8 : wr.cell? ⟨w5.heap.size, c * 11 + 8, none⟩ = some (.int .i64 z8) := hCz 8 (by omega)
                have zc9 : wr.cell? ⟨w5.heap.size, c * 11 + 9, none⟩ = some (.slice zp zpath.length zpc) := hCz 9 (by omega)
                have zc10 : wr.cell? ⟨w5.heap.size, c * 11 + 10, none⟩ = some (.slice zip zit.length zic) := hCz 10 (by omega)
                clear hCz HOt
                go_wp2_with fail
                refine (HBt.out _ Rwr).mono ?_
                rintro r u1 ⟨rfl, Ru1⟩
                have HS1 : Hid (∀ W, Below wr.heap.size wr W → MD.CellsAt W w5.heap.size (b * 11) ⟨⟨q0, q1, q2, q3, q4, q5, q6, q7, q8, qp, qpath, qpc⟩, qip, qic, qit⟩ ∧ MD.CellsAt W w5.heap.size (c * 11) ⟨⟨z0, z1, z2, z3, z4, z5, z6, z7, z8, zp, zpath, zpc⟩, zip, zic, zit⟩) := fun W hW => ⟨(HCt.out W hW).1, (HCt.out W hW).2.1⟩
                have HS2 : Hid (∀ W, Below wr.heap.size wr W → MD.CellsAt W w5.heap.size (a * 11) ⟨⟨p0, p1, p2, p3, p4, p5, p6, p7, p8, pp, ppath, ppc⟩, pip, pic, pit⟩ ∧ MD.CellsAt W w5.heap.size (c * 11) ⟨⟨z0, z1, z2, z3, z4, z5, z6, z7, z8, zp, zpath, zpc⟩, zip, zic, zit⟩) := fun W hW => ⟨(HCt.out W hW).2.2, (HCt.out W hW).2.1⟩
                clear zc0 zc1 zc2 zc3 zc4 zc5 zc6 zc7 zc8 zc9 zc10
                go_wp2_with fail
                refine wp_region_noPanic ?_
                refine wp_region_held (S := fun W => (∀ i, i < 11 → W.cell? ⟨w5.heap.size, b * 11 + i, none⟩ = (#[.int .i64 q0, .string q1, .int .i64 q2, .int .u64 q3, .string q4, .int .i64 q5, .int .i64 q6, .int .i64 q7, .int .i64 q8, .slice qp qpath.length qpc, .slice qip qit.length qic] : Array Value)[i]?) ∧ (∀ i, i < 11 → W.cell? ⟨w5.heap.size, c * 11 + i, none⟩ = (#[.int .i64 z0, .string z1, .int .i64 z2, .int .u64 z3, .string z4, .int .i64 z5, .int .i64 z6, .int .i64 z7, .int .i64 z8, .slice zp zpath.length zpc, .slice zip zit.length zic] : Array Value)[i]?)) (by kernel_rfl) ?_
                obtain ⟨u2d, hu2d⟩ : ∃ W4, W4 = u1.drew := ⟨_, rfl⟩
                have e4 : ({ u1 with drawn := u1.drawn + 1 } : World) = u2d := hu2d.symm
                rw [e4]
                have Bu2d : Below u1.heap.size u1 u2d := by rw [hu2d]; exact (Below.refl _ _).drew
                have Ru2d : Below wr.heap.size wr u2d := Ru1.trans (Bu2d.mono Ru1.size)
                have hS := HS1.out u2d Ru2d
                clear e4 hu2d
                refine wpAnyH_take (i := 0) (v := .slice (some ⟨w5.heap.size, 0, none⟩) 3 3) rfl (by kernel_rfl) (by kernel_rfl) (by kernel_rfl) (fun _ _ _ h => h) (Or.inl ⟨by rfl, ?r⟩) hS ?_
                case r => intro W hW; simp [go_sem, execOp, Act.eval]
                simp only [List.getElem_toArray, List.getElem_cons_zero, Act.put, List.setIfInBounds_toArray, List.set_cons_succ, List.set_cons_zero]
                refine wpAnyH_take (i := 1) (v := .int .i64 b) rfl (by kernel_rfl) (by kernel_rfl) (by kernel_rfl) (fun _ _ _ h => h) (Or.inl ⟨by rfl, ?r⟩) hS ?_
                case r => intro W hW; simp [go_sem, execOp, Act.eval]
                simp only [List.getElem_toArray, List.getElem_cons_zero, List.getElem_cons_succ, Act.put, List.setIfInBounds_toArray, List.set_cons_succ, List.set_cons_zero]
                refine wpAnyH_take (i := 2) (v := .pointer (some ⟨w5.heap.size, b * 11, none⟩)) rfl (by kernel_rfl) (by kernel_rfl) (by kernel_rfl) (fun _ _ _ h => h) (Or.inl ⟨by rfl, ?r⟩) hS ?_
                case r => intro W hW; simp [go_sem, execOp, Act.eval, ltb]
                simp only [List.getElem_toArray, List.getElem_cons_zero, List.getElem_cons_succ, Act.put, List.setIfInBounds_toArray, List.set_cons_succ, List.set_cons_zero]
                refine wpAnyH_take (i := 3) (v := .agg #[.int .i64 q0, .string q1, .int .i64 q2, .int .u64 q3, .string q4, .int .i64 q5, .int .i64 q6, .int .i64 q7, .int .i64 q8, .slice qp qpath.length qpc, .slice qip qit.length qic]) rfl (by kernel_rfl) (by kernel_rfl) (by kernel_rfl) (fun _ _ _ h => h) (Or.inl ⟨by rfl, ?r⟩) hS ?_
                case r => intro W hW; have e0 : W.cell? ⟨w5.heap.size, b * 11, none⟩ = some (.int .i64 q0) := hW.1 0 (by omega); have e1 : W.cell? ⟨w5.heap.size, b * 11 + 1, none⟩ = some (.string q1) := hW.1 1 (by omega); have e2 : W.cell? ⟨w5.heap.size, b * 11 + 2, none⟩ = some (.int .i64 q2) := hW.1 2 (by omega); have e3 : W.cell? ⟨w5.heap.size, b * 11 + 3, none⟩ = some (.int .u64 q3) := hW.1 3 (by omega); have e4 : W.cell? ⟨w5.heap.size, b * 11 + 4, none⟩ = some (.string q4) := hW.1 4 (by omega); have e5 : W.cell? ⟨w5.heap.size, b * 11 + 5, none⟩ = some (.int .i64 q5) := hW.1 5 (by omega); have e6 : W.cell? ⟨w5.heap.size, b * 11 + 6, none⟩ = some (.int .i64 q6) := hW.1 6 (by omega); have e7 : W.cell? ⟨w5.heap.size, b * 11 + 7, none⟩ = some (.int .i64 q7) := hW.1 7 (by omega); have e8 : W.cell? ⟨w5.heap.size, b * 11 + 8, none⟩ = some (.int .i64 q8) := hW.1 8 (by omega); have e9 : W.cell? ⟨w5.heap.size, b * 11 + 9, none⟩ = some (.slice qp qpath.length qpc) := hW.1 9 (by omega); have e10 : W.cell? ⟨w5.heap.size, b * 11 + 10, none⟩ = some (.slice qip qit.length qic) := hW.1 10 (by omega); simp [go_sem, execOp, Act.eval, e0, e1, e2, e3, e4, e5, e6, e7, e8, e9, e10]
                simp only [List.getElem_toArray, List.getElem_cons_zero, List.getElem_cons_succ, Act.put, List.setIfInBounds_toArray, List.set_cons_succ, List.set_cons_zero]
                refine wpAnyH_take (i := 4) (v := .slice (some ⟨w5.heap.size, 0, none⟩) 3 3) rfl (by kernel_rfl) (by kernel_rfl) (by kernel_rfl) (fun _ _ _ h => h) (Or.inl ⟨by rfl, ?r⟩) hS ?_
                case r => intro W hW; simp [go_sem, execOp, Act.eval]
                simp only [List.getElem_toArray, List.getElem_cons_zero, List.getElem_cons_succ, Act.put, List.setIfInBounds_toArray, List.set_cons_succ, List.set_cons_zero]
                refine wpAnyH_take (i := 5) (v := .int .i64 c) rfl (by kernel_rfl) (by kernel_rfl) (by kernel_rfl) (fun _ _ _ h => h) (Or.inl ⟨by rfl, ?r⟩) hS ?_
                case r => intro W hW; simp [go_sem, execOp, Act.eval]
                simp only [List.getElem_toArray, List.getElem_cons_zero, List.getElem_cons_succ, Act.put, List.setIfInBounds_toArray, List.set_cons_succ, List.set_cons_zero]
                refine wpAnyH_take (i := 6) (v := .pointer (some ⟨w5.heap.size, c * 11, none⟩)) rfl (by kernel_rfl) (by kernel_rfl) (by kernel_rfl) (fun _ _ _ h => h) (Or.inl ⟨by rfl, ?r⟩) hS ?_
                case r => intro W hW; simp [go_sem, execOp, Act.eval, ltc]
                simp only [List.getElem_toArray, List.getElem_cons_zero, List.getElem_cons_succ, Act.put, List.setIfInBounds_toArray, List.set_cons_succ, List.set_cons_zero]
                refine wpAnyH_take (i := 7) (v := .agg #[.int .i64 z0, .string z1, .int .i64 z2, .int .u64 z3, .string z4, .int .i64 z5, .int .i64 z6, .int .i64 z7, .int .i64 z8, .slice zp zpath.length zpc, .slice zip zit.length zic]) rfl (by kernel_rfl) (by kernel_rfl) (by kernel_rfl) (fun _ _ _ h => h) (Or.inl ⟨by rfl, ?r⟩) hS ?_
                case r => intro W hW; have e0 : W.cell? ⟨w5.heap.size, c * 11, none⟩ = some (.int .i64 z0) := hW.2 0 (by omega); have e1 : W.cell? ⟨w5.heap.size, c * 11 + 1, none⟩ = some (.string z1) := hW.2 1 (by omega); have e2 : W.cell? ⟨w5.heap.size, c * 11 + 2, none⟩ = some (.int .i64 z2) := hW.2 2 (by omega); have e3 : W.cell? ⟨w5.heap.size, c * 11 + 3, none⟩ = some (.int .u64 z3) := hW.2 3 (by omega); have e4 : W.cell? ⟨w5.heap.size, c * 11 + 4, none⟩ = some (.string z4) := hW.2 4 (by omega); have e5 : W.cell? ⟨w5.heap.size, c * 11 + 5, none⟩ = some (.int .i64 z5) := hW.2 5 (by omega); have e6 : W.cell? ⟨w5.heap.size, c * 11 + 6, none⟩ = some (.int .i64 z6) := hW.2 6 (by omega); have e7 : W.cell? ⟨w5.heap.size, c * 11 + 7, none⟩ = some (.int .i64 z7) := hW.2 7 (by omega); have e8 : W.cell? ⟨w5.heap.size, c * 11 + 8, none⟩ = some (.int .i64 z8) := hW.2 8 (by omega); have e9 : W.cell? ⟨w5.heap.size, c * 11 + 9, none⟩ = some (.slice zp zpath.length zpc) := hW.2 9 (by omega); have e10 : W.cell? ⟨w5.heap.size, c * 11 + 10, none⟩ = some (.slice zip zit.length zic) := hW.2 10 (by omega); simp [go_sem, execOp, Act.eval, e0, e1, e2, e3, e4, e5, e6, e7, e8, e9, e10]
                simp only [List.getElem_toArray, List.getElem_cons_zero, List.getElem_cons_succ, Act.put, List.setIfInBounds_toArray, List.set_cons_succ, List.set_cons_zero]
                refine wpAnyH_all (rs := [8]) (by kernel_rfl) (by simp) (fun i2 hi2 => ?_)
                obtain rfl : i2 = 8 := by simpa using hi2
                clear hi2
                refine wpOp_step rfl (fun K hK => ite_yes rfl ?_)
                simp only [List.getElem_toArray, List.getElem_cons_zero, List.getElem_cons_succ]
                go_simp
                refine (HRo.out _ Ru2d).mono ?_
                rintro e u2 ⟨rfl, Ru2⟩
                go_simp
                refine hK _ _ ⟨HS1.out _ Ru2, ?_⟩
                clear hK K hS
                have hS := HS1.out _ Ru2
                refine wpAnyH_take (i := 9) (v := .int .i64 ov) rfl (by kernel_rfl) (by kernel_rfl) (by kernel_rfl) (fun _ _ _ h => h) (Or.inl ⟨by rfl, ?r⟩) hS ?_
                case r => intro W hW; simp [go_sem, execOp, Act.eval]
                simp only [List.getElem_toArray, List.getElem_cons_zero, List.getElem_cons_succ, Act.put, List.setIfInBounds_toArray, List.set_cons_succ, List.set_cons_zero]
                refine wpAnyH_done (by kernel_rfl) ?_ _
                refine NoPanic.normal ?_
                try simp only [Act.put]
                clear hS Ru2d Bu2d
                go_wp2_with fail
                refine wp_region_noPanic ?_
                refine wp_region_held (S := fun W => (∀ i, i < 11 → W.cell? ⟨w5.heap.size, a * 11 + i, none⟩ = (#[.int .i64 p0, .string p1, .int .i64 p2, .int .u64 p3, .string p4, .int .i64 p5, .int .i64 p6, .int .i64 p7, .int .i64 p8, .slice pp ppath.length ppc, .slice pip pit.length pic] : Array Value)[i]?) ∧ (∀ i, i < 11 → W.cell? ⟨w5.heap.size, c * 11 + i, none⟩ = (#[.int .i64 z0, .string z1, .int .i64 z2, .int .u64 z3, .string z4, .int .i64 z5, .int .i64 z6, .int .i64 z7, .int .i64 z8, .slice zp zpath.length zpc, .slice zip zit.length zic] : Array Value)[i]?)) (by kernel_rfl) ?_
                obtain ⟨u3d, hu3d⟩ : ∃ W4, W4 = u2.drew := ⟨_, rfl⟩
                have e4 : ({ u2 with drawn := u2.drawn + 1 } : World) = u3d := hu3d.symm
                rw [e4]
                have Bu3d : Below u2.heap.size u2 u3d := by rw [hu3d]; exact (Below.refl _ _).drew
                have Ru3d : Below wr.heap.size wr u3d := Ru2.trans (Bu3d.mono Ru2.size)
                have hS := HS2.out u3d Ru3d
                clear e4 hu3d
                refine wpAnyH_take (i := 0) (v := .slice (some ⟨w5.heap.size, 0, none⟩) 3 3) rfl (by kernel_rfl) (by kernel_rfl) (by kernel_rfl) (fun _ _ _ h => h) (Or.inl ⟨by rfl, ?r⟩) hS ?_
                case r => intro W hW; simp [go_sem, execOp, Act.eval]
                simp only [List.getElem_toArray, List.getElem_cons_zero, Act.put, List.setIfInBounds_toArray, List.set_cons_succ, List.set_cons_zero]
                refine wpAnyH_take (i := 1) (v := .int .i64 a) rfl (by kernel_rfl) (by kernel_rfl) (by kernel_rfl) (fun _ _ _ h => h) (Or.inl ⟨by rfl, ?r⟩) hS ?_
                case r => intro W hW; simp [go_sem, execOp, Act.eval]
                simp only [List.getElem_toArray, List.getElem_cons_zero, List.getElem_cons_succ, Act.put, List.setIfInBounds_toArray, List.set_cons_succ, List.set_cons_zero]
                refine wpAnyH_take (i := 2) (v := .pointer (some ⟨w5.heap.size, a * 11, none⟩)) rfl (by kernel_rfl) (by kernel_rfl) (by kernel_rfl) (fun _ _ _ h => h) (Or.inl ⟨by rfl, ?r⟩) hS ?_
                case r => intro W hW; simp [go_sem, execOp, Act.eval, lta]
                simp only [List.getElem_toArray, List.getElem_cons_zero, List.getElem_cons_succ, Act.put, List.setIfInBounds_toArray, List.set_cons_succ, List.set_cons_zero]
                refine wpAnyH_take (i := 3) (v := .agg #[.int .i64 p0, .string p1, .int .i64 p2, .int .u64 p3, .string p4, .int .i64 p5, .int .i64 p6, .int .i64 p7, .int .i64 p8, .slice pp ppath.length ppc, .slice pip pit.length pic]) rfl (by kernel_rfl) (by kernel_rfl) (by kernel_rfl) (fun _ _ _ h => h) (Or.inl ⟨by rfl, ?r⟩) hS ?_
                case r => intro W hW; have e0 : W.cell? ⟨w5.heap.size, a * 11, none⟩ = some (.int .i64 p0) := hW.1 0 (by omega); have e1 : W.cell? ⟨w5.heap.size, a * 11 + 1, none⟩ = some (.string p1) := hW.1 1 (by omega); have e2 : W.cell? ⟨w5.heap.size, a * 11 + 2, none⟩ = some (.int .i64 p2) := hW.1 2 (by omega); have e3 : W.cell? ⟨w5.heap.size, a * 11 + 3, none⟩ = some (.int .u64 p3) := hW.1 3 (by omega); have e4 : W.cell? ⟨w5.heap.size, a * 11 + 4, none⟩ = some (.string p4) := hW.1 4 (by omega); have e5 : W.cell? ⟨w5.heap.size, a * 11 + 5, none⟩ = some (.int .i64 p5) := hW.1 5 (by omega); have e6 : W.cell? ⟨w5.heap.size, a * 11 + 6, none⟩ = some (.int .i64 p6) := hW.1 6 (by omega); have e7 : W.cell? ⟨w5.heap.size, a * 11 + 7, none⟩ = some (.int .i64 p7) := hW.1 7 (by omega); have e8 : W.cell? ⟨w5.heap.size, a * 11 + 8, none⟩ = some (.int .i64 p8) := hW.1 8 (by omega); have e9 : W.cell? ⟨w5.heap.size, a * 11 + 9, none⟩ = some (.slice pp ppath.length ppc) := hW.1 9 (by omega); have e10 : W.cell? ⟨w5.heap.size, a * 11 + 10, none⟩ = some (.slice pip pit.length pic) := hW.1 10 (by omega); simp [go_sem, execOp, Act.eval, e0, e1, e2, e3, e4, e5, e6, e7, e8, e9, e10]
                simp only [List.getElem_toArray, List.getElem_cons_zero, List.getElem_cons_succ, Act.put, List.setIfInBounds_toArray, List.set_cons_succ, List.set_cons_zero]
                refine wpAnyH_take (i := 4) (v := .slice (some ⟨w5.heap.size, 0, none⟩) 3 3) rfl (by kernel_rfl) (by kernel_rfl) (by kernel_rfl) (fun _ _ _ h => h) (Or.inl ⟨by rfl, ?r⟩) hS ?_
                case r => intro W hW; simp [go_sem, execOp, Act.eval]
                simp only [List.getElem_toArray, List.getElem_cons_zero, List.getElem_cons_succ, Act.put, List.setIfInBounds_toArray, List.set_cons_succ, List.set_cons_zero]
                refine wpAnyH_take (i := 5) (v := .int .i64 c) rfl (by kernel_rfl) (by kernel_rfl) (by kernel_rfl) (fun _ _ _ h => h) (Or.inl ⟨by rfl, ?r⟩) hS ?_
                case r => intro W hW; simp [go_sem, execOp, Act.eval]
                simp only [List.getElem_toArray, List.getElem_cons_zero, List.getElem_cons_succ, Act.put, List.setIfInBounds_toArray, List.set_cons_succ, List.set_cons_zero]
                refine wpAnyH_take (i := 6) (v := .pointer (some ⟨w5.heap.size, c * 11, none⟩)) rfl (by kernel_rfl) (by kernel_rfl) (by kernel_rfl) (fun _ _ _ h => h) (Or.inl ⟨by rfl, ?r⟩) hS ?_
                case r => intro W hW; simp [go_sem, execOp, Act.eval, ltc]
                simp only [List.getElem_toArray, List.getElem_cons_zero, List.getElem_cons_succ, Act.put, List.setIfInBounds_toArray, List.set_cons_succ, List.set_cons_zero]
                refine wpAnyH_take (i := 7) (v := .agg #[.int .i64 z0, .string z1, .int .i64 z2, .int .u64 z3, .string z4, .int .i64 z5, .int .i64 z6, .int .i64 z7, .int .i64 z8, .slice zp zpath.length zpc, .slice zip zit.length zic]) rfl (by kernel_rfl) (by kernel_rfl) (by kernel_rfl) (fun _ _ _ h => h) (Or.inl ⟨by rfl, ?r⟩) hS ?_
                case r => intro W hW; have e0 : W.cell? ⟨w5.heap.size, c * 11, none⟩ = some (.int .i64 z0) := hW.2 0 (by omega); have e1 : W.cell? ⟨w5.heap.size, c * 11 + 1, none⟩ = some (.string z1) := hW.2 1 (by omega); have e2 : W.cell? ⟨w5.heap.size, c * 11 + 2, none⟩ = some (.int .i64 z2) := hW.2 2 (by omega); have e3 : W.cell? ⟨w5.heap.size, c * 11 + 3, none⟩ = some (.int .u64 z3) := hW.2 3 (by omega); have e4 : W.cell? ⟨w5.heap.size, c * 11 + 4, none⟩ = some (.string z4) := hW.2 4 (by omega); have e5 : W.cell? ⟨w5.heap.size, c * 11 + 5, none⟩ = some (.int .i64 z5) := hW.2 5 (by omega); have e6 : W.cell? ⟨w5.heap.size, c * 11 + 6, none⟩ = some (.int .i64 z6) := hW.2 6 (by omega); have e7 : W.cell? ⟨w5.heap.size, c * 11 + 7, none⟩ = some (.int .i64 z7) := hW.2 7 (by omega); have e8 : W.cell? ⟨w5.heap.size, c * 11 + 8, none⟩ = some (.int .i64 z8) := hW.2 8 (by omega); have e9 : W.cell? ⟨w5.heap.size, c * 11 + 9, none⟩ = some (.slice zp zpath.length zpc) := hW.2 9 (by omega); have e10 : W.cell? ⟨w5.heap.size, c * 11 + 10, none⟩ = some (.slice zip zit.length zic) := hW.2 10 (by omega); simp [go_sem, execOp, Act.eval, e0, e1, e2, e3, e4, e5, e6, e7, e8, e9, e10]
                simp only [List.getElem_toArray, List.getElem_cons_zero, List.getElem_cons_succ, Act.put, List.setIfInBounds_toArray, List.set_cons_succ, List.set_cons_zero]
                refine wpAnyH_all (rs := [8]) (by kernel_rfl) (by simp) (fun i2 hi2 => ?_)
                obtain rfl : i2 = 8 := by simpa using hi2
                clear hi2
                refine wpOp_step rfl (fun K hK => ite_yes rfl ?_)
                simp only [List.getElem_toArray, List.getElem_cons_zero, List.getElem_cons_succ]
                go_simp
                refine (HRp.out _ Ru3d).mono ?_
                rintro e u3 ⟨rfl, Ru3⟩
                go_simp
                refine hK _ _ ⟨HS2.out _ Ru3, ?_⟩
                clear hK K hS
                have hS := HS2.out _ Ru3
                refine wpAnyH_take (i := 9) (v := .int .i64 pv) rfl (by kernel_rfl) (by kernel_rfl) (by kernel_rfl) (fun _ _ _ h => h) (Or.inl ⟨by rfl, ?r⟩) hS ?_
                case r => intro W hW; simp [go_sem, execOp, Act.eval]
                simp only [List.getElem_toArray, List.getElem_cons_zero, List.getElem_cons_succ, Act.put, List.setIfInBounds_toArray, List.set_cons_succ, List.set_cons_zero]
                refine wpAnyH_done (by kernel_rfl) ?_ _
                refine NoPanic.normal ?_
                try simp only [Act.put]
                clear hS Ru3d Bu3d
                have HT9 : Hid (Below W6.heap.size W6 u3) := HT3.out.trans (Ru3.mono HT3.out.size)
                clear HCt HS1 HS2 HBt HRo HRp Ru1 Ru2 Ru3
                cases three
                · by_cases s1 : n ≤ 0
                  · by_cases s2 : ov ≤ 0
                    · obtain ⟨t1, t2⟩ := HFt.out rfl s1 s2
                      have t3 : ¬ 0 < pv := by omega
                      by_cases s3 : n < 0
                      · have t4 : (pv == 0) = false := by simp; have := t2 (.inl s3); omega
                        clear HFt t2
                        go_wp2_with fail
                        exact ⟨⟨c + 1, by omega, by go_num, HT9⟩, by simp [intOf]; omega⟩
                      · by_cases s4 : ov < 0
                        · have t4 : (pv == 0) = false := by simp; have := t2 (.inr s4); omega
                          clear HFt t2
                          go_wp2_with fail
                          exact ⟨⟨c + 1, by omega, by go_num, HT9⟩, by simp [intOf]; omega⟩
                        · clear HFt t2
                          go_wp2_with fail
                          exact ⟨⟨c + 1, by omega, by go_num, HT9⟩, by simp [intOf]; omega⟩
                    · clear HFt
                      go_wp2_with fail
                      exact ⟨⟨c + 1, by omega, by go_num, HT9⟩, by simp [intOf]; omega⟩
                  · clear HFt
                    go_wp2_with fail
                    exact ⟨⟨c + 1, by omega, by go_num, HT9⟩, by simp [intOf]; omega⟩
                · clear HFt
                  go_wp2_with fail
                  exact ⟨⟨c + 1, by omega, by go_num, HT9⟩, by simp [intOf]; omega⟩
              · have ltc : ¬ (c : Int) < 3 := by omega
                go_wp2_with fail
                exact ⟨⟨b + 1, by omega, by go_num, HT3⟩, by simp [intOf]; omega⟩
        · have ltb : ¬ (b : Int) < 3 := by omega
          go_wp2_with fail
          exact ⟨⟨a + 1, by omega, by go_num, HT2⟩, by simp [intOf]; omega⟩
    · have lta : ¬ (a : Int) < 3 := by omega
      go_wp2_with fail
      go_ret
      exact ⟨rfl, HW.out _ HT.out⟩
end Go.Proofs.YtnhbpcmiolkllabDoor
