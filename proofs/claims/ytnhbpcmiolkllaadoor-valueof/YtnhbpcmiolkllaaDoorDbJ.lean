/-
  The law ValueOf at what may not be, at nil, and at any datum.
  From the reading of an argument to a datum that lies in memory.
-/
import Derived.Test.YtnhbpcmiolkllaaDoorKg2
import Derived.Test.YtnhbpcmiolkllaaDoorJa2J
import Derived.Test.YtnhbpcmiolkllaaDoorEa2
import Derived.Test.YtnhbpcmiolkllaaDoorIc2J
import Derived.Test.YtnhbpcmiolkllaaDoorEbJ
namespace Go.Proofs.YtnhbpcmiolkllaaDoor
open Go.RowKit
attribute [local go_sem] refold2 cell3_0 cell3_1 b28_0 b28_01

theorem sum_same (n : Nat) (hI : ∀ x d : MD, MD.same n x d = true → MD.size n x = MD.size n d) : ∀ (xs ds : List MD), all2 (MD.same n) xs ds = true → xs.length = ds.length → (xs.map (MD.size n)).sum = (ds.map (MD.size n)).sum
  | [], [], _, _ => rfl
  | [], _ :: _, _, h => by simp at h
  | _ :: _, [], _, h => by simp at h
  | x :: xs, d :: ds, ha, hl => by
    have h1 : (MD.same n x d && all2 (MD.same n) xs ds) = true := ha
    rw [Bool.and_eq_true] at h1
    simp only [List.map_cons, List.sum_cons]
    rw [hI x d h1.1, sum_same n hI xs ds h1.2 (by simpa using hl)]
theorem same_size : ∀ (n : Nat) (x d : MD), MD.same n x d = true → MD.size n x = MD.size n d
  | 0, _, _, _ => rfl
  | n + 1, x, d, hs => by
    obtain ⟨e0, _, _, _, _, _, _, _, _, e9, _, ea⟩ := same_parts hs
    unfold MD.size
    rw [e0, sum_same n (same_size n) _ _ ea e9.symm]
theorem same_right (n : Nat) (x d : MD) (h : MD.same n x d = true) : MD.right n x = MD.right n d := by
  unfold MD.right
  rw [same_full n x d h, same_size n x d h]
set_option maxRecDepth 100000 in
set_option maxHeartbeats 8000000 in
theorem ofLaw_bad (n : Nat) (x : MD) (w : World) (hN : NamesAt w) (hx : MD.In w.heap.size w n x) (sx : MD.Small 140737488355328 n x) (hR : MD.right n x = false) :
    Calls Tryd.prog 4 #[x.val] w fun r w' => r = .returned (.bool true) ∧ Below w.heap.size w w' := by
  have HN : Hid (NamesAt w) := hN
  have HWX : Hid (∀ W, Below w.heap.size w W → Calls Tryd.prog 12 #[x.val, .int .i64 5000] W (WideP (MD.wd n x) 5000 W)) := fun W hW => wide_any n x 5000 W (by omega) (by omega) sx (hx.later (Nat.le_refl _) hW)
  have HRR : Hid (∀ W, Below w.heap.size w W → Calls Tryd.prog 11 #[x.val] W fun r w' => r = .returned (.bool false) ∧ Below W.heap.size W w') := fun W hW => by
    have h := refRightAny n x W (hx.later (Nat.le_refl _) hW)
    rw [hR] at h
    exact h
  have HLE : Hid (∀ W, Below w.heap.size w W → MD.wd n x ≤ 5000 → Calls Tryd.prog 13 #[x.val] W (LentP n x W)) := fun W hW h => lent_any n x W (hx.later (Nat.le_refl _) hW) h
  have HKP : Hid (∀ (W4 W : World) (o : MD), Below w.heap.size w W → MD.In W4.heap.size W4 n o → Marks W4 n o → MD.same n x o = true → Below W4.heap.size W4 W → Calls Tryd.prog 15 #[o.val, x.val] W fun r w' => r = .returned (.bool true) ∧ Below W.heap.size W w') := fun W4 W o h1 h2 h3 h4 h5 =>
    kept_any n o x W (h2.later (Nat.le_refl _) h5) (hx.later (Nat.le_refl _) h1) h4 (h3.later h5)
  have HOF : Hid (∀ (o : MD) (W : World), Below w.heap.size w W → MD.In W.heap.size W n o → MD.same n x o = true → Calls Tryd.prog 14 #[o.val] W fun r w' => (∃ m, r = .returned (.tuple #[.nilIface, .iface 79 (.pointer (some ⟨m, 0, none⟩))]) ∧ w'.heap[m]? = some (.cells #[.int .i64 1, .int .i64 0, .string ⟨#[]⟩] 83 (0, 0))) ∧ Below W.heap.size W w') := fun o W h1 h2 h3 => Of_wrong n o W (hN.kept h1) h2 ((same_right n x o h3) ▸ hR)
  clear hx sx hR hN
  obtain ⟨zx, hzx⟩ : ∃ zx, zx = MD.wd n x := ⟨_, rfl⟩
  rw [← hzx] at HWX HLE
  clear hzx
  obtain ⟨⟨k, t, a, f, s, r0, r1, r2, r3, pp, path, pc⟩, ip, ic, items⟩ := x
  simp only [MD.val, D] at HWX HRR HLE HKP HOF ⊢
  obtain ⟨W1, hW1⟩ : ∃ W1, W1 = w.alloc (.cells #[.int .i64 k, .string t, .int .i64 a, .int .u64 f, .string s, .int .i64 r0, .int .i64 r1, .int .i64 r2, .int .i64 r3, .slice pp path.length pc, .slice ip items.length ic] 28) := ⟨_, rfl⟩
  have hz1 : W1.heap.size = w.heap.size + 1 := by rw [hW1]; simp
  have hB1 : Below w.heap.size w W1 := by rw [hW1]; exact below1 _ _
  have HK : Hid (∀ W, Below W1.heap.size W1 W → Below w.heap.size w W ∧ ∀ j, W.cell? ⟨w.heap.size, j, none⟩ = (#[.int .i64 k, .string t, .int .i64 a, .int .u64 f, .string s, .int .i64 r0, .int .i64 r1, .int .i64 r2, .int .i64 r3, .slice pp path.length pc, .slice ip items.length ic] : Array Value)[j]?) := fun W hW =>
    ⟨hB1.trans (hW.mono (by omega)), row_at ((hW.block _ (by omega)).trans (by rw [hW1]; exact heap_alloc_new _ _))⟩
  go_enter Tryd.func4, Tryd.ntmps4
  go_wp2_with fail
  rw [← hW1]
  clear hW1
  refine (known_any _ (HN.out.kept hB1)).mono ?_
  rintro r w1 ⟨rfl, b1⟩
  have hc1 := (HK.out _ b1).2
  have HB1 : Hid (Below W1.heap.size W1 w1) := b1
  clear b1 hB1
  go_wp2_with fail
  refine (HWX.out _ (HK.out _ HB1.out).1).mono ?_
  rintro r w2 ⟨x4, rfl, h41, h42, h43, b2⟩
  have HB2 : Hid (Below W1.heap.size W1 w2) := HB1.out.trans (b2.mono HB1.out.size)
  have hc2 := (HK.out _ HB2.out).2
  have H43 : Hid (x4 ≤ 5000 → x4 = zx) := h43
  clear b2 h43 hc1
  by_cases hw4 : 5000 < x4
  · go_wp2_with fail
    go_ret
    exact ⟨rfl, (HK.out _ HB2.out).1⟩
  · have HZ : Hid (zx ≤ 5000) := by show _ ≤ _; have := H43.out (by omega); omega
    clear H43
    go_wp2_with fail
    refine (HRR.out _ (HK.out _ HB2.out).1).mono ?_
    rintro r w3 ⟨rfl, b3⟩
    have HB3 : Hid (Below W1.heap.size W1 w3) := HB2.out.trans (b3.mono HB2.out.size)
    have hc3 := (HK.out _ HB3.out).2
    have hz3 := HB3.out.size
    clear b3 hc2
    go_wp2_with fail
    refine (HLE.out _ (HK.out _ HB3.out).1 HZ.out).mono ?_
    rintro r w4 ⟨o, rfl, ho1, ho2, ho3, ho4, ho5, ho6⟩
    obtain ⟨⟨o0, o1, o2, o3, o4, o5, o6, o7, o8, op, opath, opc⟩, oip, oic, oit⟩ := o
    simp only [MD.val, D]
    have HB4 : Hid (Below W1.heap.size W1 w4) := HB3.out.trans (ho4.mono HB3.out.size)
    have hc4 := (HK.out _ HB4.out).2
    have hz4 := ho4.size
    have HO : Hid (MD.In w4.heap.size w4 n ⟨⟨o0, o1, o2, o3, o4, o5, o6, o7, o8, op, opath, opc⟩, oip, oic, oit⟩ ∧ MD.same n ⟨⟨k, t, a, f, s, r0, r1, r2, r3, pp, path, pc⟩, ip, ic, items⟩ ⟨⟨o0, o1, o2, o3, o4, o5, o6, o7, o8, op, opath, opc⟩, oip, oic, oit⟩ = true ∧ Good w3.heap.size w4.heap.size w4 n ⟨⟨o0, o1, o2, o3, o4, o5, o6, o7, o8, op, opath, opc⟩, oip, oic, oit⟩ ∧ Marks w4 n ⟨⟨o0, o1, o2, o3, o4, o5, o6, o7, o8, op, opath, opc⟩, oip, oic, oit⟩) := ⟨ho1, ho3, ho5, ho6⟩
    clear ho1 ho2 ho3 ho4 ho5 ho6 hc3
    go_wp2_with fail
    have HB5 : Hid (Below W1.heap.size W1 (w4.alloc (.cells #[.int .i64 o0, .string o1, .int .i64 o2, .int .u64 o3, .string o4, .int .i64 o5, .int .i64 o6, .int .i64 o7, .int .i64 o8, .slice op opath.length opc, .slice oip oit.length oic] 28))) := HB4.out.alloc HB4.out.size _
    refine (HOF.out ⟨⟨o0, o1, o2, o3, o4, o5, o6, o7, o8, op, opath, opc⟩, oip, oic, oit⟩ _ (HK.out _ HB5.out).1 (HO.out.1.later (Nat.le_refl _) (below1 _ _)) HO.out.2.1).mono ?_
    rintro r w6 ⟨⟨m, rfl, hm⟩, hb6⟩
    have hq6 : Below w4.heap.size w4 w6 := (below1 _ _).trans (hb6.mono (by simp))
    have HB6 : Hid (Below W1.heap.size W1 w6) := HB4.out.trans (hq6.mono HB4.out.size)
    have hc6 := (HK.out _ HB6.out).2
    have ho6 : ∀ j, w6.cell? ⟨w4.heap.size, j, none⟩ = (#[.int .i64 o0, .string o1, .int .i64 o2, .int .u64 o3, .string o4, .int .i64 o5, .int .i64 o6, .int .i64 o7, .int .i64 o8, .slice op opath.length opc, .slice oip oit.length oic] : Array Value)[j]? := row_at ((hb6.block _ (by simp)).trans (heap_alloc_new _ _))
    have hz6 : w4.heap.size < w6.heap.size := by have := hb6.size; simp at this; omega
    have HQ6 : Hid (Below w4.heap.size w4 w6) := hq6
    have HM6 : Hid (w6.heap[m]? = some (.cells #[.int .i64 1, .int .i64 0, .string ⟨#[]⟩] 83 (0, 0))) := hm
    clear hb6 hq6 hc4 HB5 hm
    go_wp2_with fail
    refine (HKP.out w4 w6 ⟨⟨o0, o1, o2, o3, o4, o5, o6, o7, o8, op, opath, opc⟩, oip, oic, oit⟩ (HK.out _ HB6.out).1 HO.out.1 HO.out.2.2.2 HO.out.2.1 HQ6.out).mono ?_
    rintro r w7 ⟨rfl, b7⟩
    have HB7 : Hid (Below W1.heap.size W1 w7) := HB6.out.trans (b7.mono HB6.out.size)
    have hc7 := (HK.out _ HB7.out).2
    have HM7 : Hid (w7.heap[m]? = some (.cells #[.int .i64 1, .int .i64 0, .string ⟨#[]⟩] 83 (0, 0))) := (b7.block m (row_ltT HM6.out)).trans HM6.out
    clear b7 hc6 ho6 hz6
    go_wp2_with fail
    refine (wrong_hit m w7 HM7.out).mono ?_
    rintro r w8 ⟨rfl, b8⟩
    have HB8 : Hid (Below W1.heap.size W1 w8) := HB7.out.trans (b8.mono HB7.out.size)
    clear b8 hc7
    go_wp2_with fail
    go_ret
    exact ⟨rfl, (HK.out _ HB8.out).1⟩
set_option maxRecDepth 100000 in
set_option maxHeartbeats 8000000 in
theorem ofLaw_zero (n : Nat) (x : MD) (w : World) (hN : NamesAt w) (hx : MD.In w.heap.size w n x) (sx : MD.Small 140737488355328 n x) (hR : MD.right n x = true) (hk : x.h.k = 0) :
    Calls Tryd.prog 4 #[x.val] w fun r w' => r = .returned (.bool true) ∧ Below w.heap.size w w' := by
  have HN : Hid (NamesAt w) := hN
  have HWX : Hid (∀ W, Below w.heap.size w W → Calls Tryd.prog 12 #[x.val, .int .i64 5000] W (WideP (MD.wd n x) 5000 W)) := fun W hW => wide_any n x 5000 W (by omega) (by omega) sx (hx.later (Nat.le_refl _) hW)
  have HRR : Hid (∀ W, Below w.heap.size w W → Calls Tryd.prog 11 #[x.val] W fun r w' => r = .returned (.bool true) ∧ Below W.heap.size W w') := fun W hW => by
    have h := refRightAny n x W (hx.later (Nat.le_refl _) hW)
    rw [hR] at h
    exact h
  have HLE : Hid (∀ W, Below w.heap.size w W → MD.wd n x ≤ 5000 → Calls Tryd.prog 13 #[x.val] W (LentP n x W)) := fun W hW h => lent_any n x W (hx.later (Nat.le_refl _) hW) h
  have HKP : Hid (∀ (W4 W : World) (o : MD), Below w.heap.size w W → MD.In W4.heap.size W4 n o → Marks W4 n o → MD.same n x o = true → Below W4.heap.size W4 W → Calls Tryd.prog 15 #[o.val, x.val] W fun r w' => r = .returned (.bool true) ∧ Below W.heap.size W w') := fun W4 W o h1 h2 h3 h4 h5 =>
    kept_any n o x W (h2.later (Nat.le_refl _) h5) (hx.later (Nat.le_refl _) h1) h4 (h3.later h5)
  have HOF : Hid (∀ (o : MD) (W : World), Below w.heap.size w W → MD.In W.heap.size W n o → MD.same n x o = true → Calls Tryd.prog 14 #[o.val] W fun r w' => r = .returned (.tuple #[.nilIface, .nilIface]) ∧ Below W.heap.size W w') := fun o W h1 h2 h3 => Of_zero n o W (hN.kept h1) h2 ((same_right n x o h3) ▸ hR) ((same_kind h3 (fun e => by subst e; exact h2.elim)).trans hk)
  have HK0 : Hid (x.h.k = 0) := hk
  clear hk
  clear hx sx hR hN
  obtain ⟨zx, hzx⟩ : ∃ zx, zx = MD.wd n x := ⟨_, rfl⟩
  rw [← hzx] at HWX HLE
  clear hzx
  obtain ⟨⟨k, t, a, f, s, r0, r1, r2, r3, pp, path, pc⟩, ip, ic, items⟩ := x
  simp only [MD.val, D] at HWX HRR HLE HKP HOF HK0 ⊢
  obtain ⟨W1, hW1⟩ : ∃ W1, W1 = w.alloc (.cells #[.int .i64 k, .string t, .int .i64 a, .int .u64 f, .string s, .int .i64 r0, .int .i64 r1, .int .i64 r2, .int .i64 r3, .slice pp path.length pc, .slice ip items.length ic] 28) := ⟨_, rfl⟩
  have hz1 : W1.heap.size = w.heap.size + 1 := by rw [hW1]; simp
  have hB1 : Below w.heap.size w W1 := by rw [hW1]; exact below1 _ _
  have HK : Hid (∀ W, Below W1.heap.size W1 W → Below w.heap.size w W ∧ ∀ j, W.cell? ⟨w.heap.size, j, none⟩ = (#[.int .i64 k, .string t, .int .i64 a, .int .u64 f, .string s, .int .i64 r0, .int .i64 r1, .int .i64 r2, .int .i64 r3, .slice pp path.length pc, .slice ip items.length ic] : Array Value)[j]?) := fun W hW =>
    ⟨hB1.trans (hW.mono (by omega)), row_at ((hW.block _ (by omega)).trans (by rw [hW1]; exact heap_alloc_new _ _))⟩
  go_enter Tryd.func4, Tryd.ntmps4
  go_wp2_with fail
  rw [← hW1]
  clear hW1
  refine (known_any _ (HN.out.kept hB1)).mono ?_
  rintro r w1 ⟨rfl, b1⟩
  have hc1 := (HK.out _ b1).2
  have HB1 : Hid (Below W1.heap.size W1 w1) := b1
  clear b1 hB1
  go_wp2_with fail
  refine (HWX.out _ (HK.out _ HB1.out).1).mono ?_
  rintro r w2 ⟨x4, rfl, h41, h42, h43, b2⟩
  have HB2 : Hid (Below W1.heap.size W1 w2) := HB1.out.trans (b2.mono HB1.out.size)
  have hc2 := (HK.out _ HB2.out).2
  have H43 : Hid (x4 ≤ 5000 → x4 = zx) := h43
  clear b2 h43 hc1
  by_cases hw4 : 5000 < x4
  · go_wp2_with fail
    go_ret
    exact ⟨rfl, (HK.out _ HB2.out).1⟩
  · have HZ : Hid (zx ≤ 5000) := by show _ ≤ _; have := H43.out (by omega); omega
    clear H43
    go_wp2_with fail
    refine (HRR.out _ (HK.out _ HB2.out).1).mono ?_
    rintro r w3 ⟨rfl, b3⟩
    have HB3 : Hid (Below W1.heap.size W1 w3) := HB2.out.trans (b3.mono HB2.out.size)
    have hc3 := (HK.out _ HB3.out).2
    have hz3 := HB3.out.size
    clear b3 hc2
    go_wp2_with fail
    refine (HLE.out _ (HK.out _ HB3.out).1 HZ.out).mono ?_
    rintro r w4 ⟨o, rfl, ho1, ho2, ho3, ho4, ho5, ho6⟩
    obtain ⟨⟨o0, o1, o2, o3, o4, o5, o6, o7, o8, op, opath, opc⟩, oip, oic, oit⟩ := o
    simp only [MD.val, D]
    have HB4 : Hid (Below W1.heap.size W1 w4) := HB3.out.trans (ho4.mono HB3.out.size)
    have hc4 := (HK.out _ HB4.out).2
    have hz4 := ho4.size
    have HO : Hid (MD.In w4.heap.size w4 n ⟨⟨o0, o1, o2, o3, o4, o5, o6, o7, o8, op, opath, opc⟩, oip, oic, oit⟩ ∧ MD.same n ⟨⟨k, t, a, f, s, r0, r1, r2, r3, pp, path, pc⟩, ip, ic, items⟩ ⟨⟨o0, o1, o2, o3, o4, o5, o6, o7, o8, op, opath, opc⟩, oip, oic, oit⟩ = true ∧ Good w3.heap.size w4.heap.size w4 n ⟨⟨o0, o1, o2, o3, o4, o5, o6, o7, o8, op, opath, opc⟩, oip, oic, oit⟩ ∧ Marks w4 n ⟨⟨o0, o1, o2, o3, o4, o5, o6, o7, o8, op, opath, opc⟩, oip, oic, oit⟩) := ⟨ho1, ho3, ho5, ho6⟩
    clear ho1 ho2 ho3 ho4 ho5 ho6 hc3
    go_wp2_with fail
    have HB5 : Hid (Below W1.heap.size W1 (w4.alloc (.cells #[.int .i64 o0, .string o1, .int .i64 o2, .int .u64 o3, .string o4, .int .i64 o5, .int .i64 o6, .int .i64 o7, .int .i64 o8, .slice op opath.length opc, .slice oip oit.length oic] 28))) := HB4.out.alloc HB4.out.size _
    refine (HOF.out ⟨⟨o0, o1, o2, o3, o4, o5, o6, o7, o8, op, opath, opc⟩, oip, oic, oit⟩ _ (HK.out _ HB5.out).1 (HO.out.1.later (Nat.le_refl _) (below1 _ _)) HO.out.2.1).mono ?_
    rintro r w6 ⟨rfl, hb6⟩
    have hq6 : Below w4.heap.size w4 w6 := (below1 _ _).trans (hb6.mono (by simp))
    have HB6 : Hid (Below W1.heap.size W1 w6) := HB4.out.trans (hq6.mono HB4.out.size)
    have hc6 := (HK.out _ HB6.out).2
    have ho6 : ∀ j, w6.cell? ⟨w4.heap.size, j, none⟩ = (#[.int .i64 o0, .string o1, .int .i64 o2, .int .u64 o3, .string o4, .int .i64 o5, .int .i64 o6, .int .i64 o7, .int .i64 o8, .slice op opath.length opc, .slice oip oit.length oic] : Array Value)[j]? := row_at ((hb6.block _ (by simp)).trans (heap_alloc_new _ _))
    have hz6 : w4.heap.size < w6.heap.size := by have := hb6.size; simp at this; omega
    have HQ6 : Hid (Below w4.heap.size w4 w6) := hq6
    clear hb6 hq6 hc4 HB5
    go_wp2_with fail
    refine (HKP.out w4 w6 ⟨⟨o0, o1, o2, o3, o4, o5, o6, o7, o8, op, opath, opc⟩, oip, oic, oit⟩ (HK.out _ HB6.out).1 HO.out.1 HO.out.2.2.2 HO.out.2.1 HQ6.out).mono ?_
    rintro r w7 ⟨rfl, b7⟩
    have HB7 : Hid (Below W1.heap.size W1 w7) := HB6.out.trans (b7.mono HB6.out.size)
    have hc7 := (HK.out _ HB7.out).2
    have hk0 : k = 0 := HK0.out
    clear HK0
    subst hk0
    clear b7 hc6 ho6 hz6
    go_wp2_with fail
    go_ret
    exact ⟨rfl, (HK.out _ HB7.out).1⟩
theorem ofLaw_any (n : Nat) (x : MD) (w : World) (hN : NamesAt w) (hx : MD.In w.heap.size w n x) (sx : MD.Small 140737488355328 n x) : Calls Tryd.prog 4 #[x.val] w fun r w' => r = .returned (.bool true) ∧ Below w.heap.size w w' := by
  by_cases h : MD.right n x = true
  · rcases kinds x.h.k with hk | hk | hk | hk | hk | hk | hk | hk | hk | hk | hk
    · exact ofLaw_zero n x w hN hx sx h hk
    · exact ofLaw_good n x w hN hx sx h (by rw [hk]; decide) fun o W h1 h2 h3 => (Of_kind n o W h1 h2 ((same_right n x o h3) ▸ h) 123 (fun b W' e hb => by rw [same_kind h3 (fun e0 => by subst e0; exact h2.elim), hk] at e; exact behind_1 b W' e hb) (fun v W' => ta1r v W')).mono fun _ _ hr => ⟨123, has_123, fun b d W' q1 q2 q3 q4 q5 => serves_123 n b x d W' q1 q2 q3 q4 q5 h hk, hr⟩
    · exact ofLaw_good n x w hN hx sx h (by rw [hk]; decide) fun o W h1 h2 h3 => (Of_kind n o W h1 h2 ((same_right n x o h3) ▸ h) 124 (fun b W' e hb => by rw [same_kind h3 (fun e0 => by subst e0; exact h2.elim), hk] at e; exact behind_2 b W' e hb) (fun v W' => ta2r v W')).mono fun _ _ hr => ⟨124, has_124, fun b d W' q1 q2 q3 q4 q5 => serves_124 n b x d W' q1 q2 q3 q4 q5 h hk, hr⟩
    · exact ofLaw_good n x w hN hx sx h (by rw [hk]; decide) fun o W h1 h2 h3 => (Of_kind n o W h1 h2 ((same_right n x o h3) ▸ h) 125 (fun b W' e hb => by rw [same_kind h3 (fun e0 => by subst e0; exact h2.elim), hk] at e; exact behind_3 b W' e hb) (fun v W' => ta3r v W')).mono fun _ _ hr => ⟨125, has_125, fun b d W' q1 q2 q3 q4 q5 => serves_125 n b x d W' q1 q2 q3 q4 q5 h hk, hr⟩
    · exact ofLaw_good n x w hN hx sx h (by rw [hk]; decide) fun o W h1 h2 h3 => (Of_kind n o W h1 h2 ((same_right n x o h3) ▸ h) 126 (fun b W' e hb => by rw [same_kind h3 (fun e0 => by subst e0; exact h2.elim), hk] at e; exact behind_4 b W' e hb) (fun v W' => ta4r v W')).mono fun _ _ hr => ⟨126, has_126, fun b d W' q1 q2 q3 q4 q5 => serves_126 n b x d W' q1 q2 q3 q4 q5 h hk, hr⟩
    · exact ofLaw_good n x w hN hx sx h (by rw [hk]; decide) fun o W h1 h2 h3 => (Of_kind n o W h1 h2 ((same_right n x o h3) ▸ h) 129 (fun b W' e hb => by rw [same_kind h3 (fun e0 => by subst e0; exact h2.elim), hk] at e; exact behind_5 b W' e hb) (fun v W' => ta5r v W')).mono fun _ _ hr => ⟨129, has_129, fun b d W' q1 q2 q3 q4 q5 => serves_129 n b x d W' q1 q2 q3 q4 q5 h hk, hr⟩
    · exact ofLaw_good n x w hN hx sx h (by rw [hk]; decide) fun o W h1 h2 h3 => (Of_kind n o W h1 h2 ((same_right n x o h3) ▸ h) 130 (fun b W' e hb => by rw [same_kind h3 (fun e0 => by subst e0; exact h2.elim), hk] at e; exact behind_6 b W' e hb) (fun v W' => ta6r v W')).mono fun _ _ hr => ⟨130, has_130, fun b d W' q1 q2 q3 q4 q5 => serves_130 n b x d W' q1 q2 q3 q4 q5 h hk, hr⟩
    · exact ofLaw_good n x w hN hx sx h (by rw [hk]; decide) fun o W h1 h2 h3 => (Of_kind n o W h1 h2 ((same_right n x o h3) ▸ h) 131 (fun b W' e hb => by rw [same_kind h3 (fun e0 => by subst e0; exact h2.elim), hk] at e; exact behind_7 b W' e hb) (fun v W' => ta7r v W')).mono fun _ _ hr => ⟨131, has_131, fun b d W' q1 q2 q3 q4 q5 => serves_131 n b x d W' q1 q2 q3 q4 q5 h hk, hr⟩
    · exact ofLaw_good n x w hN hx sx h (by rw [hk]; decide) fun o W h1 h2 h3 => (Of_struct n o W h1 h2 ((same_right n x o h3) ▸ h) ((same_kind h3 (fun e0 => by subst e0; exact h2.elim)).trans hk)).mono fun _ _ ⟨T, hr, hT⟩ => by
        have he : (MD.eqv n x x).2 = (MD.eqv n o o).2 := congrArg Prod.snd (same_eqv n x o x o h3 h3)
        rcases hT with ⟨rfl, hc⟩ | ⟨rfl, hc⟩
        · exact ⟨78, has_78, fun b d W' q1 q2 q3 q4 q5 => serves_78 n b x d W' q1 q2 q3 q4 q5 h hk (he.trans hc), hr⟩
        · exact ⟨73, has_73, fun b d W' q1 q2 q3 q4 q5 => serves_73 n b x d W' q1 q2 q3 q4 q5 h hk (by rw [he]; exact hc), hr⟩
    · exact ofLaw_good n x w hN hx sx h (by rw [hk]; decide) fun o W h1 h2 h3 => (Of_kind n o W h1 h2 ((same_right n x o h3) ▸ h) 132 (fun b W' e hb => by rw [same_kind h3 (fun e0 => by subst e0; exact h2.elim), hk] at e; exact behind_9 b W' e hb) (fun v W' => ta9r v W')).mono fun _ _ hr => ⟨132, has_132, fun b d W' q1 q2 q3 q4 q5 => serves_132 n b x d W' q1 q2 q3 q4 q5 h hk, hr⟩
    · exfalso
      cases n with
      | zero => exact hx
      | succ n =>
        have hf := right_full h
        have h1 : (headOK x.h x.items.length && (x.h.k != 8 || (decide (x.items.length ≤ 30) && x.items.all (MD.full n)))) = true := hf
        rw [Bool.and_eq_true] at h1
        have h2 := h1.1
        unfold headOK at h2
        rw [Bool.and_eq_true, Bool.and_eq_true] at h2
        have := tyB_range h2.1.1
        omega
  · exact ofLaw_bad n x w hN hx sx (by simpa using h)
end Go.Proofs.YtnhbpcmiolkllaaDoor
namespace Go.Proofs.YtnhbpcmiolkllaaDoor
open Go.ChangeShapes Go.WideShapes Go.RowKit Go.Deep

theorem cells22 : Tryd.prog.cellsOf 22 = 1 := by kernel_rfl
theorem cells23 : Tryd.prog.cellsOf 23 = 1 := by kernel_rfl
theorem cells25 : Tryd.prog.cellsOf 25 = 5 := by kernel_rfl
theorem cells26 : Tryd.prog.cellsOf 26 = 1 := by kernel_rfl
theorem wf_i64 {n : Int} (h : (Lit.int .i64 n).wf = true) : -9223372036854775808 ≤ n ∧ n ≤ 9223372036854775807 := by
  simp [Lit.wf, show IntKind.i64.min = -9223372036854775808 by decide, show IntKind.i64.max = 9223372036854775807 by decide] at h; exact h
theorem wf_u64 {n : Int} (h : (Lit.int .u64 n).wf = true) : 0 ≤ n ∧ n ≤ 18446744073709551615 := by
  simp [Lit.wf, show IntKind.u64.min = 0 by decide, show IntKind.u64.max = 18446744073709551615 by decide] at h; exact h

theorem add_flat {W : World} {a : Addr} {k : Nat} {v : Value} (h : W.cell? (a.add k) = some v) : W.cell? ⟨a.block, a.off + k, none⟩ = some v := by
  by_cases h0 : k = 0
  · have e : a.add k = a := by unfold Addr.add; rw [if_pos h0]
    rw [e] at h
    have hsp := spot_of_cell h
    rw [hsp] at h
    rw [h0]
    exact h
  · have e : a.add k = ⟨a.block, a.off + k, none⟩ := by unfold Addr.add; rw [if_neg h0]
    rw [e] at h
    exact h

end Go.Proofs.YtnhbpcmiolkllaaDoor
