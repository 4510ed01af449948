/-
  The law ValueOf at any datum.
-/
import Derived.Test.YtnhbpcmiolkllaaDoorKc2J
import Derived.Test.YtnhbpcmiolkllaaDoorKe2
import Derived.Test.YtnhbpcmiolkllaaDoorKf2
import Derived.Test.YtnhbpcmiolkllaaDoorIc2J
namespace Go.Proofs.YtnhbpcmiolkllaaDoor
open Go.RowKit
attribute [local go_sem] refold2 cell3_0 cell3_1 b28_0 b28_01

/-- A value of the type T answers the method Datum by the function 97. -/
def HasDatum (T : TypeId) : Prop := ∀ (b : Nat) (W : World), (method 266 T (.agg #[.pointer (some ⟨b, 0, none⟩)]) "Datum").run Tryd.prog W = .ok (97, .agg #[.pointer (some ⟨b, 0, none⟩)]) W
/-- A value of the type T over the same datum answers as it should. -/
def Serves (n : Nat) (x : MD) (T : TypeId) : Prop := ∀ (b : Nat) (d : MD) (W : World), NamesAt W → MD.In W.heap.size W n x → W.heap[b]? = some (.cells d.cells 28 (0, 0)) → MD.In W.heap.size W n d → MD.same n x d = true →
  Calls Tryd.prog 19 #[.iface T (.agg #[.pointer (some ⟨b, 0, none⟩)]), x.val] W fun r w' => r = .returned (.bool true) ∧ Below W.heap.size W w'
/-- What has to stay between the turns. -/
structure Inv (W1 : World) (hi : Nat) (w7 W : World) : Prop where
  old : Below W1.heap.size W1 W
  size : w7.heap.size ≤ W.heap.size
  block : ∀ b, hi ≤ b → b < w7.heap.size → W.heap[b]? = w7.heap[b]?
theorem Inv.below {W1 w7 W W' : World} {hi : Nat} (h : Inv W1 hi w7 W) (h1 : W1.heap.size ≤ w7.heap.size) (hb : Below W.heap.size W W') : Inv W1 hi w7 W' :=
  ⟨h.old.trans (hb.mono (Nat.le_trans h1 h.size)), Nat.le_trans h.size hb.size, fun b b1 b2 => (hb.block b (Nat.lt_of_lt_of_le b2 h.size)).trans (h.block b b1 b2)⟩
theorem Inv.spoilt {W1 w7 W W' : World} {hi lo' hi' : Nat} (h : Inv W1 hi w7 W) (h1 : W1.heap.size ≤ w7.heap.size) (hl : w7.heap.size ≤ lo') (hl2 : lo' ≤ W.heap.size) (hs : Sp lo' hi' W W') : Inv W1 hi w7 W' :=
  ⟨h.old.trans ((hs.low hl2).mono (by omega)), Nat.le_trans h.size hs.size, fun b b1 b2 => (hs.block b (Nat.lt_of_lt_of_le b2 h.size) (.inl (by omega))).trans (h.block b b1 b2)⟩
theorem has_123 : HasDatum 123 := fun b W => by kernel_rfl
theorem has_124 : HasDatum 124 := fun b W => by kernel_rfl
theorem has_125 : HasDatum 125 := fun b W => by kernel_rfl
theorem has_126 : HasDatum 126 := fun b W => by kernel_rfl
theorem has_129 : HasDatum 129 := fun b W => by kernel_rfl
theorem has_130 : HasDatum 130 := fun b W => by kernel_rfl
theorem has_131 : HasDatum 131 := fun b W => by kernel_rfl
theorem has_132 : HasDatum 132 := fun b W => by kernel_rfl
theorem has_73 : HasDatum 73 := fun b W => by kernel_rfl
theorem has_78 : HasDatum 78 := fun b W => by kernel_rfl
set_option maxRecDepth 100000 in
set_option maxHeartbeats 8000000 in
theorem ofLaw_good (n : Nat) (x : MD) (w : World) (hN : NamesAt w) (hx : MD.In w.heap.size w n x) (sx : MD.Small 140737488355328 n x) (hR : MD.right n x = true) (hk : x.h.k ≠ 0)
    (hOF : ∀ (o : MD) (W : World), NamesAt W → MD.In W.heap.size W n o → MD.same n x o = true → Calls Tryd.prog 14 #[o.val] W fun r w' => ∃ T, Hid (HasDatum T) ∧ Hid (Serves n x T) ∧ OfP n o T W r w') :
    Calls Tryd.prog 4 #[x.val] w fun r w' => r = .returned (.bool true) ∧ Below w.heap.size w w' := by
  have HN : Hid (NamesAt w) := hN
  have HWX : Hid (∀ W, Below w.heap.size w W → Calls Tryd.prog 12 #[x.val, .int .i64 5000] W (WideP (MD.wd n x) 5000 W)) := fun W hW => wide_any n x 5000 W (by omega) (by omega) sx (hx.later (Nat.le_refl _) hW)
  have HRR : Hid (∀ W, Below w.heap.size w W → Calls Tryd.prog 11 #[x.val] W fun r w' => r = .returned (.bool true) ∧ Below W.heap.size W w') := fun W hW => by
    have h := refRightAny n x W (hx.later (Nat.le_refl _) hW)
    rw [hR] at h
    exact h
  have HLE : Hid (∀ W, Below w.heap.size w W → MD.wd n x ≤ 5000 → Calls Tryd.prog 13 #[x.val] W (LentP n x W)) := fun W hW h => lent_any n x W (hx.later (Nat.le_refl _) hW) h
  have HKP : Hid (∀ (W4 W : World) (o : MD), Below w.heap.size w W → MD.In W4.heap.size W4 n o → Marks W4 n o → MD.same n x o = true → Below W4.heap.size W4 W → Calls Tryd.prog 15 #[o.val, x.val] W fun r w' => r = .returned (.bool true) ∧ Below W.heap.size W w') := fun W4 W o h1 h2 h3 h4 h5 =>
    kept_any n o x W (h2.later (Nat.le_refl _) h5) (hx.later (Nat.le_refl _) h1) h4 (h3.later h5)
  have HOF : Hid (∀ (o : MD) (W : World), Below w.heap.size w W → MD.In W.heap.size W n o → MD.same n x o = true → Calls Tryd.prog 14 #[o.val] W fun r w' => ∃ T, Hid (HasDatum T) ∧ Hid (Serves n x T) ∧ OfP n o T W r w') := fun o W h1 h2 h3 => hOF o W (hN.kept h1) h2 h3
  have HSM : Hid (∀ (W4 W : World) (o : MD), Below w.heap.size w W → MD.In W4.heap.size W n o → W4.heap.size ≤ W.heap.size → MD.same n o x = true → Calls Tryd.prog 18 #[o.val, x.val] W fun r w' => r = .returned (.bool true) ∧ Below W.heap.size W w') := fun W4 W o h1 h2 h3 h4 => by
    have h := refSame_any n o x W (MD.In.mono h3 n _ h2) (hx.later (Nat.le_refl _) h1)
    rw [h4] at h
    exact h
  have HSV : Hid (∀ (T : TypeId) (b : Nat) (d : MD) (W : World), Serves n x T → Below w.heap.size w W → W.heap[b]? = some (.cells d.cells 28 (0, 0)) → MD.In W.heap.size W n d → MD.same n x d = true → Calls Tryd.prog 19 #[.iface T (.agg #[.pointer (some ⟨b, 0, none⟩)]), x.val] W fun r w' => r = .returned (.bool true) ∧ Below W.heap.size W w') := fun T b d W h0 h1 h2 h3 h4 => h0 b d W (hN.kept h1) (hx.later (Nat.le_refl _) h1) h2 h3 h4
  have HFU : Hid (MD.full n x = true) := right_full hR
  have hk0 : (x.h.k == 0) = false := by simpa using hk
  clear hx sx hR hOF hN hk
  obtain ⟨zx, hzx⟩ : ∃ zx, zx = MD.wd n x := ⟨_, rfl⟩
  rw [← hzx] at HWX HLE
  clear hzx
  obtain ⟨⟨k, t, a, f, s, r0, r1, r2, r3, pp, path, pc⟩, ip, ic, items⟩ := x
  simp only [MD.val, D] at HWX HRR HLE HKP HOF HSM HSV ⊢
  obtain ⟨W1, hW1⟩ : ∃ W1, W1 = w.alloc (.cells #[.int .i64 k, .string t, .int .i64 a, .int .u64 f, .string s, .int .i64 r0, .int .i64 r1, .int .i64 r2, .int .i64 r3, .slice pp path.length pc, .slice ip items.length ic] 28) := ⟨_, rfl⟩
  have hz1 : W1.heap.size = w.heap.size + 1 := by rw [hW1]; simp
  have hB1 : Below w.heap.size w W1 := by rw [hW1]; exact below1 _ _
  have HK : Hid (∀ W, Below W1.heap.size W1 W → Below w.heap.size w W ∧ ∀ j, W.cell? ⟨w.heap.size, j, none⟩ = (#[.int .i64 k, .string t, .int .i64 a, .int .u64 f, .string s, .int .i64 r0, .int .i64 r1, .int .i64 r2, .int .i64 r3, .slice pp path.length pc, .slice ip items.length ic] : Array Value)[j]?) := fun W hW =>
    ⟨hB1.trans (hW.mono (by omega)), row_at ((hW.block _ (by omega)).trans (by rw [hW1]; exact heap_alloc_new _ _))⟩
  go_enter Tryd.func4, Tryd.ntmps4
  go_wp2_with fail
  rw [← hW1]
  clear hW1
  refine (known_any _ (HN.out.kept hB1)).mono ?_
  rintro r w1 ⟨rfl, b1⟩
  have hc1 := (HK.out _ b1).2
  have HB1 : Hid (Below W1.heap.size W1 w1) := b1
  clear b1 hB1
  go_wp2_with fail
  refine (HWX.out _ (HK.out _ HB1.out).1).mono ?_
  rintro r w2 ⟨x4, rfl, h41, h42, h43, b2⟩
  have HB2 : Hid (Below W1.heap.size W1 w2) := HB1.out.trans (b2.mono HB1.out.size)
  have hc2 := (HK.out _ HB2.out).2
  have H43 : Hid (x4 ≤ 5000 → x4 = zx) := h43
  clear b2 h43 hc1
  by_cases hw4 : 5000 < x4
  · go_wp2_with fail
    go_ret
    exact ⟨rfl, (HK.out _ HB2.out).1⟩
  · have HZ : Hid (zx ≤ 5000) := by show _ ≤ _; have := H43.out (by omega); omega
    clear H43
    go_wp2_with fail
    refine (HRR.out _ (HK.out _ HB2.out).1).mono ?_
    rintro r w3 ⟨rfl, b3⟩
    have HB3 : Hid (Below W1.heap.size W1 w3) := HB2.out.trans (b3.mono HB2.out.size)
    have hc3 := (HK.out _ HB3.out).2
    have hz3 := HB3.out.size
    clear b3 hc2
    go_wp2_with fail
    refine (HLE.out _ (HK.out _ HB3.out).1 HZ.out).mono ?_
    rintro r w4 ⟨o, rfl, ho1, ho2, ho3, ho4, ho5, ho6⟩
    obtain ⟨⟨o0, o1, o2, o3, o4, o5, o6, o7, o8, op, opath, opc⟩, oip, oic, oit⟩ := o
    simp only [MD.val, D]
    have HB4 : Hid (Below W1.heap.size W1 w4) := HB3.out.trans (ho4.mono HB3.out.size)
    have hc4 := (HK.out _ HB4.out).2
    have hz4 := ho4.size
    have HO : Hid (MD.In w4.heap.size w4 n ⟨⟨o0, o1, o2, o3, o4, o5, o6, o7, o8, op, opath, opc⟩, oip, oic, oit⟩ ∧ MD.same n ⟨⟨k, t, a, f, s, r0, r1, r2, r3, pp, path, pc⟩, ip, ic, items⟩ ⟨⟨o0, o1, o2, o3, o4, o5, o6, o7, o8, op, opath, opc⟩, oip, oic, oit⟩ = true ∧ Good w3.heap.size w4.heap.size w4 n ⟨⟨o0, o1, o2, o3, o4, o5, o6, o7, o8, op, opath, opc⟩, oip, oic, oit⟩ ∧ Marks w4 n ⟨⟨o0, o1, o2, o3, o4, o5, o6, o7, o8, op, opath, opc⟩, oip, oic, oit⟩) := ⟨ho1, ho3, ho5, ho6⟩
    clear ho1 ho2 ho3 ho4 ho5 ho6 hc3
    go_wp2_with fail
    have HB5 : Hid (Below W1.heap.size W1 (w4.alloc (.cells #[.int .i64 o0, .string o1, .int .i64 o2, .int .u64 o3, .string o4, .int .i64 o5, .int .i64 o6, .int .i64 o7, .int .i64 o8, .slice op opath.length opc, .slice oip oit.length oic] 28))) := HB4.out.alloc HB4.out.size _
    refine (HOF.out ⟨⟨o0, o1, o2, o3, o4, o5, o6, o7, o8, op, opath, opc⟩, oip, oic, oit⟩ _ (HK.out _ HB5.out).1 (HO.out.1.later (Nat.le_refl _) (below1 _ _)) HO.out.2.1).mono ?_
    rintro r w6 ⟨T, HM, HT, b, d', rfl, hb1, hb2, hb3, hb4, hb5, hb6⟩
    have hq6 : Below w4.heap.size w4 w6 := (below1 _ _).trans (hb6.mono (by simp))
    have HB6 : Hid (Below W1.heap.size W1 w6) := HB4.out.trans (hq6.mono HB4.out.size)
    have hc6 := (HK.out _ HB6.out).2
    have ho6 : ∀ j, w6.cell? ⟨w4.heap.size, j, none⟩ = (#[.int .i64 o0, .string o1, .int .i64 o2, .int .u64 o3, .string o4, .int .i64 o5, .int .i64 o6, .int .i64 o7, .int .i64 o8, .slice op opath.length opc, .slice oip oit.length oic] : Array Value)[j]? := row_at ((hb6.block _ (by simp)).trans (heap_alloc_new _ _))
    have hz6 : w4.heap.size < w6.heap.size := by have := hb6.size; simp at this; omega
    have HQ6 : Hid (Below w4.heap.size w4 w6 ∧ w6.heap[w4.heap.size]? = some (.cells #[.int .i64 o0, .string o1, .int .i64 o2, .int .u64 o3, .string o4, .int .i64 o5, .int .i64 o6, .int .i64 o7, .int .i64 o8, .slice op opath.length opc, .slice oip oit.length oic] 28 (0, 0))) := ⟨hq6, (hb6.block _ (by simp)).trans (heap_alloc_new _ _)⟩
    have HD : Hid (w4.heap.size ≤ b ∧ w6.heap[b]? = some (.cells d'.cells 28 (0, 0)) ∧ MD.In w6.heap.size w6 n d' ∧ MD.Above w4.heap.size n d' ∧ MD.same n ⟨⟨k, t, a, f, s, r0, r1, r2, r3, pp, path, pc⟩, ip, ic, items⟩ d' = true) := ⟨by simp at hb1; omega, hb2, hb3, MD.Above.mono (by simp) n _ hb4, same_trans n _ _ _ HO.out.2.1 hb5⟩
    clear hb1 hb2 hb3 hb4 hb5 hb6 hq6 hc4 HB5
    go_wp2_with fail
    refine (HKP.out w4 w6 ⟨⟨o0, o1, o2, o3, o4, o5, o6, o7, o8, op, opath, opc⟩, oip, oic, oit⟩ (HK.out _ HB6.out).1 HO.out.1 HO.out.2.2.2 HO.out.2.1 HQ6.out.1).mono ?_
    rintro r w7 ⟨rfl, b7⟩
    have HB7 : Hid (Below W1.heap.size W1 w7) := HB6.out.trans (b7.mono HB6.out.size)
    have hc7 := (HK.out _ HB7.out).2
    have hr7 : w7.heap[w4.heap.size]? = some (.cells #[.int .i64 o0, .string o1, .int .i64 o2, .int .u64 o3, .string o4, .int .i64 o5, .int .i64 o6, .int .i64 o7, .int .i64 o8, .slice op opath.length opc, .slice oip oit.length oic] 28 (0, 0)) := (b7.block _ hz6).trans HQ6.out.2
    have ho7 := row_at hr7
    have hz7 : w4.heap.size < w7.heap.size := row_ltT hr7
    have HG7 : Hid (Good w3.heap.size w4.heap.size w7 n ⟨⟨o0, o1, o2, o3, o4, o5, o6, o7, o8, op, opath, opc⟩, oip, oic, oit⟩) := Good.same (fun c _ h2 => (b7.block c (by omega)).trans (HQ6.out.1.block c h2)) n _ HO.out.2.2.1
    have HD7 : Hid (w4.heap.size ≤ b ∧ w7.heap[b]? = some (.cells d'.cells 28 (0, 0)) ∧ MD.In w7.heap.size w7 n d' ∧ MD.Above w4.heap.size n d' ∧ MD.same n ⟨⟨k, t, a, f, s, r0, r1, r2, r3, pp, path, pc⟩, ip, ic, items⟩ d' = true) := by
      obtain ⟨q1, q2, q3, q4, q5⟩ := HD.out
      exact ⟨q1, (b7.block b (row_ltT q2)).trans q2, q3.later (Nat.le_refl _) b7, q4, q5⟩
    clear b7 hc6 ho6 hr7 HD HQ6 hz6
    go_wp2_with fail
    refine (spoil_any n w3.heap.size w4.heap.size ⟨⟨o0, o1, o2, o3, o4, o5, o6, o7, o8, op, opath, opc⟩, oip, oic, oit⟩ w7 (by omega) HG7.out).mono ?_
    rintro r w8 ⟨⟨u, rfl⟩, hs8⟩
    have h17 : W1.heap.size ≤ w7.heap.size := by omega
    have HI8 : Hid (Inv W1 w4.heap.size w7 w8) := ⟨HB7.out.trans ((hs8.low (by omega)).mono hz3), hs8.size, fun c c1 c2 => hs8.block c c2 (.inr c1)⟩
    have HV : Hid (∀ W, Inv W1 w4.heap.size w7 W → W.heap[b]? = some (.cells d'.cells 28 (0, 0)) ∧ MD.In W.heap.size W n d') := fun W hW => by
      obtain ⟨q1, q2, q3, q4, q5⟩ := HD7.out
      exact ⟨(hW.block b q1 (row_ltT q2)).trans q2, MD.In.mono hW.size n _ (MD.In.aloft hW.block n _ q3 q4)⟩
    have HSS : Hid (MD.same n ⟨⟨k, t, a, f, s, r0, r1, r2, r3, pp, path, pc⟩, ip, ic, items⟩ d' = true ∧ MD.full n d' = true) := ⟨HD7.out.2.2.2.2, (same_full n _ _ HD7.out.2.2.2.2) ▸ HFU.out⟩
    clear hs8 hc7 ho7 HG7 HD7 hz7 HB7 HB6 HB4 HB3 HB2 HB1 HO HOF HKP HLE HRR HWX HFU
    go_wp2_with fail
    go_loopw [10, 11, 12, 13, 14, 15] (fun i _ _ _ _ _ wr => ∃ j : Nat, j ≤ 2 ∧ i = .int .i64 j ∧ Hid (Inv W1 w4.heap.size w7 wr)) (fun i _ _ _ _ _ _ => 2 - (intOf i).toNat)
    case atStart => exact ⟨0, by omega, rfl, HI8⟩
    case round =>
      obtain ⟨j, hj, rfl, HI⟩ := hrel
      have hcr := (HK.out _ HI.out.old).2
      have hzr := HI.out.size
      by_cases hlt : j < 2
      · have i1 : (j : Int) < 2 := by omega
        have hM : ∀ (b : Nat) (W : World), (method 266 T (.agg #[.pointer (some ⟨b, 0, none⟩)]) "Datum").run Tryd.prog W = .ok (97, .agg #[.pointer (some ⟨b, 0, none⟩)]) W := HM.out
        go_wp2_with fail
        refine (datumG_any n b d' wr (HV.out _ HI.out).1 (HV.out _ HI.out).2 HSS.out.2).mono ?_
        rintro r w9 ⟨e, rfl, he1, he2, he3, he4, he5⟩
        obtain ⟨⟨e0, e1, e2, e3, e4, e5, e6, e7, e8, ep, epath, epc⟩, eip, eic, eit⟩ := e
        simp only [MD.val, D]
        have HI9 : Hid (Inv W1 w4.heap.size w7 (w9.alloc (.cells #[.int .i64 e0, .string e1, .int .i64 e2, .int .u64 e3, .string e4, .int .i64 e5, .int .i64 e6, .int .i64 e7, .int .i64 e8, .slice ep epath.length epc, .slice eip eit.length eic] 28))) := HI.out.below h17 ((he4).alloc he4.size _)
        have HE : Hid (Below wr.heap.size wr w9 ∧ MD.In w9.heap.size w9 n ⟨⟨e0, e1, e2, e3, e4, e5, e6, e7, e8, ep, epath, epc⟩, eip, eic, eit⟩ ∧ MD.same n ⟨⟨e0, e1, e2, e3, e4, e5, e6, e7, e8, ep, epath, epc⟩, eip, eic, eit⟩ ⟨⟨k, t, a, f, s, r0, r1, r2, r3, pp, path, pc⟩, ip, ic, items⟩ = true ∧ Good wr.heap.size w9.heap.size w9 n ⟨⟨e0, e1, e2, e3, e4, e5, e6, e7, e8, ep, epath, epc⟩, eip, eic, eit⟩) := ⟨he4, he1, by rw [MD.same_comm]; exact same_trans n _ _ _ HSS.out.1 he3, he5⟩
        have hz9 : wr.heap.size ≤ w9.heap.size := he4.size
        clear he1 he2 he3 he4 he5 hcr
        go_wp2_with fail
        refine (datumG_any n b d' _ (HV.out _ HI9.out).1 (HV.out _ HI9.out).2 HSS.out.2).mono ?_
        rintro r w11 ⟨c, rfl, hc1, hc2, hc3, hc4, hc5⟩
        obtain ⟨⟨c0, c1, c2, c3, c4, c5, c6, c7, c8, cp, cpath, cpc⟩, cip, cic, cit⟩ := c
        simp only [MD.val, D]
        have hq11 : Below w9.heap.size w9 w11 := (below1 _ _).trans (hc4.mono (by simp))
        have hr11 : w11.heap[w9.heap.size]? = some (.cells #[.int .i64 e0, .string e1, .int .i64 e2, .int .u64 e3, .string e4, .int .i64 e5, .int .i64 e6, .int .i64 e7, .int .i64 e8, .slice ep epath.length epc, .slice eip eit.length eic] 28 (0, 0)) := (hc4.block _ (by simp)).trans (heap_alloc_new _ _)
        have hz11 : w9.heap.size < w11.heap.size := row_ltT hr11
        have HI11 : Hid (Inv W1 w4.heap.size w7 w11) := HI9.out.below h17 hc4
        have HI12 : Hid (Inv W1 w4.heap.size w7 (w11.alloc (.cells #[.int .i64 c0, .string c1, .int .i64 c2, .int .u64 c3, .string c4, .int .i64 c5, .int .i64 c6, .int .i64 c7, .int .i64 c8, .slice cp cpath.length cpc, .slice cip cit.length cic] 28))) := HI11.out.below h17 (below1 _ _)
        have hx11 := (HK.out _ HI11.out.old).2
        have he11 := row_at hr11
        have hxz : w.heap.size < w11.heap.size := by have := HI11.out.old.size; omega
        have HC : Hid (Below w9.heap.size w9 w11 ∧ w11.heap[w9.heap.size]? = some (.cells #[.int .i64 e0, .string e1, .int .i64 e2, .int .u64 e3, .string e4, .int .i64 e5, .int .i64 e6, .int .i64 e7, .int .i64 e8, .slice ep epath.length epc, .slice eip eit.length eic] 28 (0, 0)) ∧ MD.In w11.heap.size w11 n ⟨⟨c0, c1, c2, c3, c4, c5, c6, c7, c8, cp, cpath, cpc⟩, cip, cic, cit⟩ ∧ MD.Above (w9.heap.size + 1) n ⟨⟨c0, c1, c2, c3, c4, c5, c6, c7, c8, cp, cpath, cpc⟩, cip, cic, cit⟩ ∧ MD.same n ⟨⟨c0, c1, c2, c3, c4, c5, c6, c7, c8, cp, cpath, cpc⟩, cip, cic, cit⟩ ⟨⟨k, t, a, f, s, r0, r1, r2, r3, pp, path, pc⟩, ip, ic, items⟩ = true ∧ Good (w9.heap.size + 1) w11.heap.size w11 n ⟨⟨c0, c1, c2, c3, c4, c5, c6, c7, c8, cp, cpath, cpc⟩, cip, cic, cit⟩) := ⟨hq11, hr11, hc1, MD.Above.mono (by simp) n _ hc2, by rw [MD.same_comm]; exact same_trans n _ _ _ HSS.out.1 hc3, Good.mono (by simp) (Nat.le_refl _) n _ hc5⟩
        clear hc1 hc2 hc3 hc4 hc5 hq11 hr11 HI9
        go_wp2_with fail
        refine (HSM.out w9 _ ⟨⟨e0, e1, e2, e3, e4, e5, e6, e7, e8, ep, epath, epc⟩, eip, eic, eit⟩ (HK.out _ HI12.out.old).1 (MD.In.below (HC.out.1.trans ((below1 w11 _).mono (by omega))) n _ HE.out.2.1) (by simp; omega) HE.out.2.2.1).mono ?_
        rintro r w13 ⟨rfl, b13⟩
        have HI13 : Hid (Inv W1 w4.heap.size w7 w13) := HI12.out.below h17 b13
        have hq13 : Below w11.heap.size w11 w13 := (below1 _ _).trans (b13.mono (by simp))
        have hrc13 : w13.heap[w11.heap.size]? = some (.cells #[.int .i64 c0, .string c1, .int .i64 c2, .int .u64 c3, .string c4, .int .i64 c5, .int .i64 c6, .int .i64 c7, .int .i64 c8, .slice cp cpath.length cpc, .slice cip cit.length cic] 28 (0, 0)) := (b13.block _ (by simp)).trans (heap_alloc_new _ _)
        have hre13 : w13.heap[w9.heap.size]? = some (.cells #[.int .i64 e0, .string e1, .int .i64 e2, .int .u64 e3, .string e4, .int .i64 e5, .int .i64 e6, .int .i64 e7, .int .i64 e8, .slice ep epath.length epc, .slice eip eit.length eic] 28 (0, 0)) := (hq13.block _ hz11).trans HC.out.2.1
        have hx13 := (HK.out _ HI13.out.old).2
        have he13 := row_at hre13
        have hz13 : w11.heap.size < w13.heap.size := row_ltT hrc13
        have HQ13 : Hid (Below w11.heap.size w11 w13 ∧ w13.heap[w11.heap.size]? = some (.cells #[.int .i64 c0, .string c1, .int .i64 c2, .int .u64 c3, .string c4, .int .i64 c5, .int .i64 c6, .int .i64 c7, .int .i64 c8, .slice cp cpath.length cpc, .slice cip cit.length cic] 28 (0, 0))) := ⟨hq13, hrc13⟩
        have HG13 : Hid (Good wr.heap.size w9.heap.size w13 n ⟨⟨e0, e1, e2, e3, e4, e5, e6, e7, e8, ep, epath, epc⟩, eip, eic, eit⟩) := Good.same (fun q _ q2 => (hq13.block q (by omega)).trans (HC.out.1.block q q2)) n _ HE.out.2.2.2
        clear b13 hq13 hrc13 hre13 HI12 HI11 hx11 he11
        go_wp2_with fail
        refine (spoil_any n wr.heap.size w9.heap.size ⟨⟨e0, e1, e2, e3, e4, e5, e6, e7, e8, ep, epath, epc⟩, eip, eic, eit⟩ w13 (by omega) HG13.out).mono ?_
        rintro r w14 ⟨⟨u', rfl⟩, hs14⟩
        have HI14 : Hid (Inv W1 w4.heap.size w7 w14) := HI13.out.spoilt h17 hzr (by omega) hs14
        have hrc14 : w14.heap[w11.heap.size]? = some (.cells #[.int .i64 c0, .string c1, .int .i64 c2, .int .u64 c3, .string c4, .int .i64 c5, .int .i64 c6, .int .i64 c7, .int .i64 c8, .slice cp cpath.length cpc, .slice cip cit.length cic] 28 (0, 0)) := (hs14.block _ hz13 (.inr (by omega))).trans HQ13.out.2
        have hx14 := (HK.out _ HI14.out.old).2
        have hcc14 := row_at hrc14
        have HQ14 : Hid (∀ q, w9.heap.size + 1 ≤ q → q < w11.heap.size → w14.heap[q]? = w11.heap[q]?) := fun q q1 q2 => (hs14.block q (by omega) (.inr (by omega))).trans (HQ13.out.1.block q q2)
        have hz14 : w11.heap.size < w14.heap.size := row_ltT hrc14
        have HR14 : Hid (w14.heap[w11.heap.size]? = some (.cells #[.int .i64 c0, .string c1, .int .i64 c2, .int .u64 c3, .string c4, .int .i64 c5, .int .i64 c6, .int .i64 c7, .int .i64 c8, .slice cp cpath.length cpc, .slice cip cit.length cic] 28 (0, 0))) := hrc14
        clear hs14 hx13 he13 HG13 HQ13 HI13 hrc14
        go_wp2_with fail
        refine (HSM.out w11 _ ⟨⟨c0, c1, c2, c3, c4, c5, c6, c7, c8, cp, cpath, cpc⟩, cip, cic, cit⟩ (HK.out _ HI14.out.old).1 (MD.In.aloft HQ14.out n _ HC.out.2.2.1 HC.out.2.2.2.1) (by omega) HC.out.2.2.2.2.1).mono ?_
        rintro r w15 ⟨rfl, b15⟩
        have HI15 : Hid (Inv W1 w4.heap.size w7 w15) := HI14.out.below h17 b15
        have hx15 := (HK.out _ HI15.out.old).2
        have HQ15 : Hid (Below w14.heap.size w14 w15) := b15
        clear b15 hx14 hcc14
        go_wp2_with fail
        refine (HSV.out T b d' w15 HT.out (HK.out _ HI15.out.old).1 (HV.out _ HI15.out).1 (HV.out _ HI15.out).2 HSS.out.1).mono ?_
        rintro r w16 ⟨rfl, b16⟩
        have HI16 : Hid (Inv W1 w4.heap.size w7 w16) := HI15.out.below h17 b16
        have hq16 : Below w14.heap.size w14 w16 := HQ15.out.trans (b16.mono HQ15.out.size)
        have hrc16 : w16.heap[w11.heap.size]? = some (.cells #[.int .i64 c0, .string c1, .int .i64 c2, .int .u64 c3, .string c4, .int .i64 c5, .int .i64 c6, .int .i64 c7, .int .i64 c8, .slice cp cpath.length cpc, .slice cip cit.length cic] 28 (0, 0)) := (hq16.block _ hz14).trans HR14.out
        have hcc16 := row_at hrc16
        have hz16 : w11.heap.size < w16.heap.size := row_ltT hrc16
        have HG16 : Hid (Good (w9.heap.size + 1) w11.heap.size w16 n ⟨⟨c0, c1, c2, c3, c4, c5, c6, c7, c8, cp, cpath, cpc⟩, cip, cic, cit⟩) := Good.same (fun q q1 q2 => (hq16.block q (by omega)).trans (HQ14.out q q1 q2)) n _ HC.out.2.2.2.2.2
        clear b16 hq16 hx15 hrc16 HQ15 HI15
        go_wp2_with fail
        refine (spoil_any n (w9.heap.size + 1) w11.heap.size ⟨⟨c0, c1, c2, c3, c4, c5, c6, c7, c8, cp, cpath, cpc⟩, cip, cic, cit⟩ w16 (by omega) HG16.out).mono ?_
        rintro r w17 ⟨⟨u'', rfl⟩, hs17⟩
        have HI17 : Hid (Inv W1 w4.heap.size w7 w17) := HI16.out.spoilt h17 (by omega) (by omega) hs17
        clear hs17 hcc16
        go_wp2_with fail
        exact ⟨⟨j + 1, by omega, by go_num, HI17⟩, by simp [intOf]; omega⟩
      · have i1 : ¬ (j : Int) < 2 := by omega
        go_wp2_with fail
        go_ret
        exact ⟨rfl, (HK.out _ HI.out.old).1⟩
end Go.Proofs.YtnhbpcmiolkllaaDoor
