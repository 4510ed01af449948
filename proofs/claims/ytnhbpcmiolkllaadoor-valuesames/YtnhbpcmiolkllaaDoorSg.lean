/-
  The law ValueSames, at any two data.
-/
import Derived.Test.YtnhbpcmiolkllaaDoorCc
import Derived.Test.YtnhbpcmiolkllaaDoorSc
import Derived.Test.YtnhbpcmiolkllaaDoorSf
import Derived.Test.YtnhbpcmiolkllaaDoorX
namespace Go.Proofs.YtnhbpcmiolkllaaDoor
open Go.RowKit
attribute [local go_sem] refold2 cell3_0 cell3_1 b28_0 b28_01

set_option maxRecDepth 100000 in
set_option maxHeartbeats 8000000 in
theorem samesLaw_any (n : Nat) (x y : MD) (w : World) (hN : NamesAt w) (hx : MD.In w.heap.size w n x) (hy : MD.In w.heap.size w n y) (sx : MD.Small 140737488355328 n x) (sy : MD.Small 140737488355328 n y) :
    Calls Tryd.prog 8 #[x.val, y.val] w fun r w' => r = .returned (.bool true) ∧ Below w.heap.size w w' := by
  have HWX : Hid (∀ W, Below w.heap.size w W → Calls Tryd.prog 12 #[x.val, .int .i64 5000] W (WideP (MD.wd n x) 5000 W)) := fun W hW => wide_any n x 5000 W (by omega) (by omega) sx (hx.later (Nat.le_refl _) hW)
  have HWY : Hid (∀ W, Below w.heap.size w W → Calls Tryd.prog 12 #[y.val, .int .i64 5000] W (WideP (MD.wd n y) 5000 W)) := fun W hW => wide_any n y 5000 W (by omega) (by omega) sy (hy.later (Nat.le_refl _) hW)
  have HCP : Hid (∀ W, Below w.heap.size w W → MD.wd n x ≤ 5000 → Calls Tryd.prog 28 #[x.val] W (CopyP n x W)) := fun W hW h => copied_any n x W (hx.later (Nat.le_refl _) hW) h
  have HSA : Hid (∀ W, Below w.heap.size w W → Calls Tryd.prog 29 #[x.val, y.val] W fun r w' => r = .returned (.bool (MD.same n x y)) ∧ Below W.heap.size W w') := fun W hW => same_any n x y W (hx.later (Nat.le_refl _) hW) (hy.later (Nat.le_refl _) hW)
  have HSB : Hid (∀ W, Below w.heap.size w W → Calls Tryd.prog 29 #[y.val, x.val] W fun r w' => r = .returned (.bool (MD.same n x y)) ∧ Below W.heap.size W w') := fun W hW => by
    rw [MD.same_comm n x y]; exact same_any n y x W (hy.later (Nat.le_refl _) hW) (hx.later (Nat.le_refl _) hW)
  have HRS : Hid (∀ W, Below w.heap.size w W → Calls Tryd.prog 18 #[x.val, y.val] W fun r w' => r = .returned (.bool (MD.same n x y)) ∧ Below W.heap.size W w') := fun W hW => refSame_any n x y W (hx.later (Nat.le_refl _) hW) (hy.later (Nat.le_refl _) hW)
  have HSO : Hid (∀ (W W' : World) (z : MD), Below w.heap.size w W → MD.In W.heap.size W n z → Below W.heap.size W W' → MD.same n x z = true → Calls Tryd.prog 29 #[x.val, z.val] W' fun r w' => r = .returned (.bool true) ∧ Below W'.heap.size W' w') := fun W W' z hW hz hW' hs => by
    have h := same_any n x z W' (hx.later (Nat.le_refl _) (hW.trans (hW'.mono hW.size))) (hz.later (Nat.le_refl _) hW')
    rw [hs] at h
    exact h
  generalize MD.same n x y = sv at HSA HSB HRS
  generalize MD.wd n y = zy at HWY
  clear hx hy sx sy
  obtain ⟨zx, hzx⟩ : ∃ zx, zx = MD.wd n x := ⟨_, rfl⟩
  rw [← hzx] at HWX HCP
  clear hzx
  obtain ⟨⟨k, t, a, f, s, r0, r1, r2, r3, pp, path, pc⟩, ip, ic, items⟩ := x
  obtain ⟨⟨k', t', a', f', s', r0', r1', r2', r3', pp', path', pc'⟩, ip', ic', items'⟩ := y
  simp only [MD.val, D] at HWX HWY HCP HSA HSB HRS HSO ⊢
  obtain ⟨W2, hW2⟩ : ∃ W2, W2 = (w.alloc (.cells #[.int .i64 k, .string t, .int .i64 a, .int .u64 f, .string s, .int .i64 r0, .int .i64 r1, .int .i64 r2, .int .i64 r3, .slice pp path.length pc, .slice ip items.length ic] 28)).alloc (.cells #[.int .i64 k', .string t', .int .i64 a', .int .u64 f', .string s', .int .i64 r0', .int .i64 r1', .int .i64 r2', .int .i64 r3', .slice pp' path'.length pc', .slice ip' items'.length ic'] 28) := ⟨_, rfl⟩
  have HK : Hid (∀ W, Below W2.heap.size W2 W → Below w.heap.size w W ∧ (∀ i, W.cell? ⟨w.heap.size, i, none⟩ = (#[.int .i64 k, .string t, .int .i64 a, .int .u64 f, .string s, .int .i64 r0, .int .i64 r1, .int .i64 r2, .int .i64 r3, .slice pp path.length pc, .slice ip items.length ic] : Array Value)[i]?) ∧ ∀ i, W.cell? ⟨w.heap.size + 1, i, none⟩ = (#[.int .i64 k', .string t', .int .i64 a', .int .u64 f', .string s', .int .i64 r0', .int .i64 r1', .int .i64 r2', .int .i64 r3', .slice pp' path'.length pc', .slice ip' items'.length ic'] : Array Value)[i]?) := fun W hW => by rw [hW2] at hW; exact kept2 hW
  have hz2 : W2.heap.size = w.heap.size + 2 := by rw [hW2]; simp
  have hB2 : Below w.heap.size w W2 := by rw [hW2]; exact below2 _ _ _
  go_enter Tryd.func8, Tryd.ntmps8
  go_wp2_with fail
  rw [← hW2]
  clear hW2
  refine (known_any _ (hN.kept hB2)).mono ?_
  rintro r w3 ⟨rfl, b3⟩
  have hc3 := (HK.out _ b3).2.1
  have hd3 := (HK.out _ b3).2.2
  have HB : Hid (Below W2.heap.size W2 w3) := b3
  clear b3
  go_wp2_with fail
  refine (HWX.out _ (HK.out _ HB.out).1).mono ?_
  rintro r w4 ⟨x4, rfl, h41, h42, h43, b4⟩
  have HB4 : Hid (Below W2.heap.size W2 w4) := HB.out.trans (b4.mono HB.out.size)
  have hc4 := (HK.out _ HB4.out).2.1
  have hd4 := (HK.out _ HB4.out).2.2
  have H43 : Hid (x4 ≤ 5000 → x4 = zx) := h43
  clear b4 h43 hc3 hd3
  by_cases hw4 : 5000 < x4
  · go_wp2_with fail
    go_ret
    exact ⟨rfl, (HK.out _ HB4.out).1⟩
  · go_wp2_with fail
    refine (HWY.out _ (HK.out _ HB4.out).1).mono ?_
    rintro r w4' ⟨y4, rfl, h41', h42', _, b4'⟩
    have HB4' : Hid (Below W2.heap.size W2 w4') := HB4.out.trans (b4'.mono HB4.out.size)
    have hc4' := (HK.out _ HB4'.out).2.1
    have hd4' := (HK.out _ HB4'.out).2.2
    have HZ : Hid (zx ≤ 5000) := by show _ ≤ _; have := H43.out (by omega); omega
    clear b4' hc4 hd4 H43
    by_cases hw4' : 5000 < y4
    · go_wp2_with fail
      go_ret
      exact ⟨rfl, (HK.out _ HB4'.out).1⟩
    · go_wp2_with fail
      refine (HCP.out _ (HK.out _ HB4'.out).1 HZ.out).mono ?_
      rintro r w5 ⟨own, rfl, ho1, _, ho3, b5⟩
      have HB5 : Hid (Below W2.heap.size W2 w5) := HB4'.out.trans (b5.mono HB4'.out.size)
      have HOW : Hid (∀ W', Below w5.heap.size w5 W' → Calls Tryd.prog 29 #[.agg #[.int .i64 k, .string t, .int .i64 a, .int .u64 f, .string s, .int .i64 r0, .int .i64 r1, .int .i64 r2, .int .i64 r3, .slice pp path.length pc, .slice ip items.length ic], own.val] W' fun r w' => r = .returned (.bool true) ∧ Below W'.heap.size W' w') := fun W' hW' => HSO.out w5 W' own (HK.out _ HB5.out).1 ho1 hW' ho3
      obtain ⟨⟨l0, l1, l2, l3, l4, l5, l6, l7, l8, lp, lpath, lpc⟩, lip, lic, lit⟩ := own
      simp only [MD.val, D] at HOW ⊢
      obtain ⟨W6, hW6⟩ : ∃ W6, W6 = w5.alloc (.cells #[.int .i64 l0, .string l1, .int .i64 l2, .int .u64 l3, .string l4, .int .i64 l5, .int .i64 l6, .int .i64 l7, .int .i64 l8, .slice lp lpath.length lpc, .slice lip lit.length lic] 28) := ⟨_, rfl⟩
      have hB6 : Below w5.heap.size w5 W6 := by rw [hW6]; exact below1 _ _
      have hz5 := HB5.out.size
      have HK6 : Hid (∀ W, Below W6.heap.size W6 W → Below w5.heap.size w5 W ∧ Below w.heap.size w W ∧ (∀ i, W.cell? ⟨w.heap.size, i, none⟩ = (#[.int .i64 k, .string t, .int .i64 a, .int .u64 f, .string s, .int .i64 r0, .int .i64 r1, .int .i64 r2, .int .i64 r3, .slice pp path.length pc, .slice ip items.length ic] : Array Value)[i]?) ∧ (∀ i, W.cell? ⟨w.heap.size + 1, i, none⟩ = (#[.int .i64 k', .string t', .int .i64 a', .int .u64 f', .string s', .int .i64 r0', .int .i64 r1', .int .i64 r2', .int .i64 r3', .slice pp' path'.length pc', .slice ip' items'.length ic'] : Array Value)[i]?) ∧ (∀ i, W.cell? ⟨w5.heap.size, i, none⟩ = (#[.int .i64 l0, .string l1, .int .i64 l2, .int .u64 l3, .string l4, .int .i64 l5, .int .i64 l6, .int .i64 l7, .int .i64 l8, .slice lp lpath.length lpc, .slice lip lit.length lic] : Array Value)[i]?)) := fun W hW => by
        have h1 : Below w5.heap.size w5 W := hB6.trans (hW.mono hB6.size)
        have h2 : Below W2.heap.size W2 W := HB5.out.trans (h1.mono HB5.out.size)
        rw [hW6] at hW
        exact ⟨h1, (HK.out _ h2).1, (HK.out _ h2).2.1, (HK.out _ h2).2.2, (kept1' hW).2⟩
      clear ho1 ho3 b5 hc4' hd4' HSO HCP HWX HWY
      go_wp2_with fail
      rw [← hW6]
      clear hW6
      refine wp_region_noPanic ?_
      refine wp_region_held (S := fun W => (∀ i, W.cell? ⟨w.heap.size, i, none⟩ = (#[.int .i64 k, .string t, .int .i64 a, .int .u64 f, .string s, .int .i64 r0, .int .i64 r1, .int .i64 r2, .int .i64 r3, .slice pp path.length pc, .slice ip items.length ic] : Array Value)[i]?) ∧ (∀ i, W.cell? ⟨w.heap.size + 1, i, none⟩ = (#[.int .i64 k', .string t', .int .i64 a', .int .u64 f', .string s', .int .i64 r0', .int .i64 r1', .int .i64 r2', .int .i64 r3', .slice pp' path'.length pc', .slice ip' items'.length ic'] : Array Value)[i]?) ∧ (∀ i, W.cell? ⟨w5.heap.size, i, none⟩ = (#[.int .i64 l0, .string l1, .int .i64 l2, .int .u64 l3, .string l4, .int .i64 l5, .int .i64 l6, .int .i64 l7, .int .i64 l8, .slice lp lpath.length lpc, .slice lip lit.length lic] : Array Value)[i]?)) (by kernel_rfl) ?_
      obtain ⟨W7, hW7⟩ : ∃ W7, W7 = W6.drew := ⟨_, rfl⟩
      have e7 : ({ W6 with drawn := W6.drawn + 1 } : World) = W7 := hW7.symm
      rw [e7]
      have hB7 : Below W6.heap.size W6 W7 := by rw [hW7]; exact (Below.refl _ _).drew
      have hS := (HK6.out W7 hB7).2.2
      clear e7 hW7
      refine wpAnyH_take (i := 0) (v := .agg #[.int .i64 k, .string t, .int .i64 a, .int .u64 f, .string s, .int .i64 r0, .int .i64 r1, .int .i64 r2, .int .i64 r3, .slice pp path.length pc, .slice ip items.length ic]) rfl (by kernel_rfl) (by kernel_rfl) (by kernel_rfl) (fun _ _ _ h => h) (Or.inl ⟨by rfl, ?r⟩) hS ?_
      case r => intro W hW; simp [go_sem, execOp, Act.eval, hW.1]
      simp only [List.getElem_toArray, List.getElem_cons_zero, Act.put, List.setIfInBounds_toArray, List.set_cons_succ, List.set_cons_zero]
      refine wpAnyH_take (i := 1) (v := .agg #[.int .i64 k', .string t', .int .i64 a', .int .u64 f', .string s', .int .i64 r0', .int .i64 r1', .int .i64 r2', .int .i64 r3', .slice pp' path'.length pc', .slice ip' items'.length ic']) rfl (by kernel_rfl) (by kernel_rfl) (by kernel_rfl) (fun _ _ _ h => h) (Or.inl ⟨by rfl, ?r⟩) hS ?_
      case r => intro W hW; simp [go_sem, execOp, Act.eval, hW.2.1]
      simp only [List.getElem_toArray, List.getElem_cons_zero, List.getElem_cons_succ, Act.put, List.setIfInBounds_toArray, List.set_cons_succ, List.set_cons_zero]
      refine wpAnyH_take (i := 3) (v := .agg #[.int .i64 k, .string t, .int .i64 a, .int .u64 f, .string s, .int .i64 r0, .int .i64 r1, .int .i64 r2, .int .i64 r3, .slice pp path.length pc, .slice ip items.length ic]) rfl (by kernel_rfl) (by kernel_rfl) (by kernel_rfl) (fun _ _ _ h => h) (Or.inl ⟨by rfl, ?r⟩) hS ?_
      case r => intro W hW; simp [go_sem, execOp, Act.eval, hW.1]
      simp only [List.getElem_toArray, List.getElem_cons_zero, List.getElem_cons_succ, Act.put, List.setIfInBounds_toArray, List.set_cons_succ, List.set_cons_zero]
      refine wpAnyH_take (i := 4) (v := .agg #[.int .i64 k', .string t', .int .i64 a', .int .u64 f', .string s', .int .i64 r0', .int .i64 r1', .int .i64 r2', .int .i64 r3', .slice pp' path'.length pc', .slice ip' items'.length ic']) rfl (by kernel_rfl) (by kernel_rfl) (by kernel_rfl) (fun _ _ _ h => h) (Or.inl ⟨by rfl, ?r⟩) hS ?_
      case r => intro W hW; simp [go_sem, execOp, Act.eval, hW.2.1]
      simp only [List.getElem_toArray, List.getElem_cons_zero, List.getElem_cons_succ, Act.put, List.setIfInBounds_toArray, List.set_cons_succ, List.set_cons_zero]
      refine wpAnyH_all (rs := [2]) (by kernel_rfl) (by simp) (fun i2 hi2 => ?_)
      obtain rfl : i2 = 2 := by simpa using hi2
      clear hi2
      refine wpOp_step rfl (fun K hK => ite_yes rfl ?_)
      simp only [List.getElem_toArray, List.getElem_cons_zero, List.getElem_cons_succ]
      go_simp
      refine (HSA.out _ (HK6.out _ hB7).2.1).mono ?_
      rintro e w8 ⟨rfl, b8⟩
      have hB8 : Below W6.heap.size W6 w8 := hB7.trans (b8.mono hB7.size)
      go_simp
      refine hK _ _ ⟨(HK6.out _ hB8).2.2, ?_⟩
      clear hK K hS
      have hS := (HK6.out _ hB8).2.2
      refine wpAnyH_all (rs := [5]) (by kernel_rfl) (by simp) (fun i2 hi2 => ?_)
      obtain rfl : i2 = 5 := by simpa using hi2
      clear hi2
      refine wpOp_step rfl (fun K hK => ite_yes rfl ?_)
      simp only [List.getElem_toArray, List.getElem_cons_zero, List.getElem_cons_succ]
      go_simp
      refine (HRS.out _ (HK6.out _ hB8).2.1).mono ?_
      rintro e w9 ⟨rfl, b9⟩
      have hB9 : Below W6.heap.size W6 w9 := hB8.trans (b9.mono hB8.size)
      go_simp
      refine hK _ _ ⟨(HK6.out _ hB9).2.2, ?_⟩
      clear hK K hS
      have hS := (HK6.out _ hB9).2.2
      refine wpAnyH_take (i := 6) (v := .bool true) rfl (by kernel_rfl) (by kernel_rfl) (by kernel_rfl) (fun _ _ _ h => h) (Or.inl ⟨by rfl, ?r⟩) hS ?_
      case r => intro W hW; simp [go_sem, execOp, Act.eval]
      simp only [List.getElem_toArray, List.getElem_cons_zero, List.getElem_cons_succ, Act.put, List.setIfInBounds_toArray, List.set_cons_succ, List.set_cons_zero]
      refine wpAnyH_take (i := 7) (v := .bool true) rfl (by kernel_rfl) (by kernel_rfl) (by kernel_rfl) (fun _ _ _ h => h) (Or.inl ⟨by rfl, ?r⟩) hS ?_
      case r => intro W hW; simp [go_sem, execOp, Act.eval]
      simp only [List.getElem_toArray, List.getElem_cons_zero, List.getElem_cons_succ, Act.put, List.setIfInBounds_toArray, List.set_cons_succ, List.set_cons_zero]
      refine wpAnyH_take (i := 8) (v := .agg #[.int .i64 k', .string t', .int .i64 a', .int .u64 f', .string s', .int .i64 r0', .int .i64 r1', .int .i64 r2', .int .i64 r3', .slice pp' path'.length pc', .slice ip' items'.length ic']) rfl (by kernel_rfl) (by kernel_rfl) (by kernel_rfl) (fun _ _ _ h => h) (Or.inl ⟨by rfl, ?r⟩) hS ?_
      case r => intro W hW; simp [go_sem, execOp, Act.eval, hW.2.1]
      simp only [List.getElem_toArray, List.getElem_cons_zero, List.getElem_cons_succ, Act.put, List.setIfInBounds_toArray, List.set_cons_succ, List.set_cons_zero]
      refine wpAnyH_take (i := 9) (v := .agg #[.int .i64 k, .string t, .int .i64 a, .int .u64 f, .string s, .int .i64 r0, .int .i64 r1, .int .i64 r2, .int .i64 r3, .slice pp path.length pc, .slice ip items.length ic]) rfl (by kernel_rfl) (by kernel_rfl) (by kernel_rfl) (fun _ _ _ h => h) (Or.inl ⟨by rfl, ?r⟩) hS ?_
      case r => intro W hW; simp [go_sem, execOp, Act.eval, hW.1]
      simp only [List.getElem_toArray, List.getElem_cons_zero, List.getElem_cons_succ, Act.put, List.setIfInBounds_toArray, List.set_cons_succ, List.set_cons_zero]
      refine wpAnyH_take (i := 11) (v := .agg #[.int .i64 k, .string t, .int .i64 a, .int .u64 f, .string s, .int .i64 r0, .int .i64 r1, .int .i64 r2, .int .i64 r3, .slice pp path.length pc, .slice ip items.length ic]) rfl (by kernel_rfl) (by kernel_rfl) (by kernel_rfl) (fun _ _ _ h => h) (Or.inl ⟨by rfl, ?r⟩) hS ?_
      case r => intro W hW; simp [go_sem, execOp, Act.eval, hW.1]
      simp only [List.getElem_toArray, List.getElem_cons_zero, List.getElem_cons_succ, Act.put, List.setIfInBounds_toArray, List.set_cons_succ, List.set_cons_zero]
      refine wpAnyH_take (i := 12) (v := .agg #[.int .i64 k', .string t', .int .i64 a', .int .u64 f', .string s', .int .i64 r0', .int .i64 r1', .int .i64 r2', .int .i64 r3', .slice pp' path'.length pc', .slice ip' items'.length ic']) rfl (by kernel_rfl) (by kernel_rfl) (by kernel_rfl) (fun _ _ _ h => h) (Or.inl ⟨by rfl, ?r⟩) hS ?_
      case r => intro W hW; simp [go_sem, execOp, Act.eval, hW.2.1]
      simp only [List.getElem_toArray, List.getElem_cons_zero, List.getElem_cons_succ, Act.put, List.setIfInBounds_toArray, List.set_cons_succ, List.set_cons_zero]
      refine wpAnyH_all (rs := [10]) (by kernel_rfl) (by simp) (fun i2 hi2 => ?_)
      obtain rfl : i2 = 10 := by simpa using hi2
      clear hi2
      refine wpOp_step rfl (fun K hK => ite_yes rfl ?_)
      simp only [List.getElem_toArray, List.getElem_cons_zero, List.getElem_cons_succ]
      go_simp
      refine (HSB.out _ (HK6.out _ hB9).2.1).mono ?_
      rintro e w10 ⟨rfl, b10⟩
      have hB10 : Below W6.heap.size W6 w10 := hB9.trans (b10.mono hB9.size)
      go_simp
      refine hK _ _ ⟨(HK6.out _ hB10).2.2, ?_⟩
      clear hK K hS
      have hS := (HK6.out _ hB10).2.2
      refine wpAnyH_all (rs := [13]) (by kernel_rfl) (by simp) (fun i2 hi2 => ?_)
      obtain rfl : i2 = 13 := by simpa using hi2
      clear hi2
      refine wpOp_step rfl (fun K hK => ite_yes rfl ?_)
      simp only [List.getElem_toArray, List.getElem_cons_zero, List.getElem_cons_succ]
      go_simp
      refine (HRS.out _ (HK6.out _ hB10).2.1).mono ?_
      rintro e w11 ⟨rfl, b11⟩
      have hB11 : Below W6.heap.size W6 w11 := hB10.trans (b11.mono hB10.size)
      go_simp
      refine hK _ _ ⟨(HK6.out _ hB11).2.2, ?_⟩
      clear hK K hS
      have hS := (HK6.out _ hB11).2.2
      refine wpAnyH_take (i := 14) (v := .bool true) rfl (by kernel_rfl) (by kernel_rfl) (by kernel_rfl) (fun _ _ _ h => h) (Or.inl ⟨by rfl, ?r⟩) hS ?_
      case r => intro W hW; simp [go_sem, execOp, Act.eval]
      simp only [List.getElem_toArray, List.getElem_cons_zero, List.getElem_cons_succ, Act.put, List.setIfInBounds_toArray, List.set_cons_succ, List.set_cons_zero]
      refine wpAnyH_take (i := 15) (v := .bool true) rfl (by kernel_rfl) (by kernel_rfl) (by kernel_rfl) (fun _ _ _ h => h) (Or.inl ⟨by rfl, ?r⟩) hS ?_
      case r => intro W hW; simp [go_sem, execOp, Act.eval]
      simp only [List.getElem_toArray, List.getElem_cons_zero, List.getElem_cons_succ, Act.put, List.setIfInBounds_toArray, List.set_cons_succ, List.set_cons_zero]
      refine wpAnyH_take (i := 16) (v := .bool true) rfl (by kernel_rfl) (by kernel_rfl) (by kernel_rfl) (fun _ _ _ h => h) (Or.inl ⟨by rfl, ?r⟩) hS ?_
      case r => intro W hW; simp [go_sem, execOp, Act.eval]
      simp only [List.getElem_toArray, List.getElem_cons_zero, List.getElem_cons_succ, Act.put, List.setIfInBounds_toArray, List.set_cons_succ, List.set_cons_zero]
      refine wpAnyH_take (i := 17) (v := .agg #[.int .i64 k, .string t, .int .i64 a, .int .u64 f, .string s, .int .i64 r0, .int .i64 r1, .int .i64 r2, .int .i64 r3, .slice pp path.length pc, .slice ip items.length ic]) rfl (by kernel_rfl) (by kernel_rfl) (by kernel_rfl) (fun _ _ _ h => h) (Or.inl ⟨by rfl, ?r⟩) hS ?_
      case r => intro W hW; simp [go_sem, execOp, Act.eval, hW.1]
      simp only [List.getElem_toArray, List.getElem_cons_zero, List.getElem_cons_succ, Act.put, List.setIfInBounds_toArray, List.set_cons_succ, List.set_cons_zero]
      refine wpAnyH_take (i := 18) (v := .agg #[.int .i64 l0, .string l1, .int .i64 l2, .int .u64 l3, .string l4, .int .i64 l5, .int .i64 l6, .int .i64 l7, .int .i64 l8, .slice lp lpath.length lpc, .slice lip lit.length lic]) rfl (by kernel_rfl) (by kernel_rfl) (by kernel_rfl) (fun _ _ _ h => h) (Or.inl ⟨by rfl, ?r⟩) hS ?_
      case r => intro W hW; simp [go_sem, execOp, Act.eval, hW.2.2]
      simp only [List.getElem_toArray, List.getElem_cons_zero, List.getElem_cons_succ, Act.put, List.setIfInBounds_toArray, List.set_cons_succ, List.set_cons_zero]
      refine wpAnyH_all (rs := [19]) (by kernel_rfl) (by simp) (fun i2 hi2 => ?_)
      obtain rfl : i2 = 19 := by simpa using hi2
      clear hi2
      refine wpOp_step rfl (fun K hK => ite_yes rfl ?_)
      simp only [List.getElem_toArray, List.getElem_cons_zero, List.getElem_cons_succ]
      go_simp
      refine (HOW.out _ (HK6.out _ hB11).1).mono ?_
      rintro e w12 ⟨rfl, b12⟩
      have hB12 : Below W6.heap.size W6 w12 := hB11.trans (b12.mono hB11.size)
      go_simp
      refine hK _ _ ⟨(HK6.out _ hB12).2.2, ?_⟩
      clear hK K hS
      have hS := (HK6.out _ hB12).2.2
      refine wpAnyH_take (i := 20) (v := .bool true) rfl (by kernel_rfl) (by kernel_rfl) (by kernel_rfl) (fun _ _ _ h => h) (Or.inl ⟨by rfl, ?r⟩) hS ?_
      case r => intro W hW; simp [go_sem, execOp, Act.eval]
      simp only [List.getElem_toArray, List.getElem_cons_zero, List.getElem_cons_succ, Act.put, List.setIfInBounds_toArray, List.set_cons_succ, List.set_cons_zero]
      refine wpAnyH_take (i := 21) (v := .bool true) rfl (by kernel_rfl) (by kernel_rfl) (by kernel_rfl) (fun _ _ _ h => h) (Or.inl ⟨by rfl, ?r⟩) hS ?_
      case r => intro W hW; simp [go_sem, execOp, Act.eval]
      simp only [List.getElem_toArray, List.getElem_cons_zero, List.getElem_cons_succ, Act.put, List.setIfInBounds_toArray, List.set_cons_succ, List.set_cons_zero]
      refine wpAnyH_done (by kernel_rfl) ?_ _
      refine NoPanic.normal ?_
      try simp only [Act.put]
      go_wp2_with fail
      go_ret
      exact ⟨rfl, (HK6.out _ hB12).2.1⟩
end Go.Proofs.YtnhbpcmiolkllaaDoor
