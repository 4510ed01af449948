/-
  The walk of right, at any datum.
-/
import Derived.Test.YtflonmlnedkmjaaDoorSbJ
namespace Go.Proofs.YtflonmlnedkmjaaDoor
open Go.RowKit
attribute [local go_sem] refold2 cell3_0 cell3_1 b28_0 b28_01 x56

theorem RightP.leaf {fu x : Bool} {z b : Nat} {rm : Int} {w W : World} (hB : Below b w W) (hR : RoomAt W b (rm - 1)) (hf : fu = x) (hz : z = 1) (h1 : 1 ≤ rm) : RightP fu z b rm w (.returned (.bool x)) W := by
  subst hz hf
  refine ⟨fu, rm - 1, rfl, hB, hR, ?_, fun _ => rfl⟩
  have : ((1 : Nat) : Int) ≤ rm := h1
  rw [decide_eq_true this, Bool.and_true]
theorem RightP.no {fu : Bool} {z b : Nat} {rm q : Int} {w W : World} (hB : Below b w W) (hR : RoomAt W b q) (hf : fu = false ∨ rm < z) : RightP fu z b rm w (.returned (.bool false)) W := by
  refine ⟨false, q, rfl, hB, hR, ?_, fun h => by cases h⟩
  rcases hf with h | h
  · rw [h]; rfl
  · rw [decide_eq_false (by omega), Bool.and_false]
theorem tyB_range {k : Int} {t : ByteArray} (h : tyB k t = true) : 0 ≤ k ∧ k ≤ 9 := by
  rcases kinds k with rfl | rfl | rfl | rfl | rfl | rfl | rfl | rfl | rfl | rfl | hk
  iterate 10 (exact ⟨by decide, by decide⟩)
  have e : tyB k t = false := by
    unfold tyB
    rw [if_neg (by omega), if_neg (by omega), if_neg (by omega), if_neg (by omega), if_neg (by omega), if_neg (by omega), if_neg (by omega), if_neg (by omega), if_neg (by omega), if_neg (by omega)]
  rw [e] at h; cases h

set_option maxRecDepth 100000 in
set_option maxHeartbeats 8000000 in
theorem right_step (n : Nat) (hI : ItemsC n) : RightC (n + 1) := by
  intro d b rm w hN hb0 hR h0 h1 hin
  have hfine := hin.fine
  have hpath := hin.path
  have hlen := hin.len
  have hits := hin.items
  clear hin
  obtain ⟨⟨k, t, a, f, s, r0, r1, r2, r3, pp, path, pc⟩, ip, ic, items⟩ := d
  have HI : Hid (∀ W, Below b w W → RoomAt W b (rm - 1) → 1 ≤ rm → Calls Tryd.prog 49 #[.slice ip items.length ic, .pointer (some ⟨b, 0, none⟩)] W (RightP (decide (items.length ≤ 30) && items.all (MD.full n)) (items.map (MD.size n)).sum b (rm - 1) W)) := fun W hW hRW h1m =>
    hI ⟨⟨k, t, a, f, s, r0, r1, r2, r3, pp, path, pc⟩, ip, ic, items⟩ b (rm - 1) W (hN.under hb0 hW) hb0 hRW (by omega) (by omega) (hits.below hW) hlen.1 hlen.2
  have HP : Hid (∀ W, Below b w W → Calls Tryd.prog 50 #[.agg #[.int .i64 r0, .int .i64 r1, .int .i64 r2, .int .i64 r3, .slice pp path.length pc]] W fun r w' => r = .returned (.bool (targetB r0 path)) ∧ Below W.heap.size W w') := fun W hW =>
    rightTarget_any ⟨k, t, a, f, s, r0, r1, r2, r3, pp, path, pc⟩ W ((hpath.below hW).mono (Nat.le_trans (Nat.le_of_lt hR.lt) hW.size)) (Nat.le_trans hfine.pl hfine.pm)
  have HFn : Hid (MD.Fine ⟨k, t, a, f, s, r0, r1, r2, r3, pp, path, pc⟩) := hfine
  obtain ⟨fu, hfu⟩ : ∃ fu, fu = MD.full (n + 1) ⟨⟨k, t, a, f, s, r0, r1, r2, r3, pp, path, pc⟩, ip, ic, items⟩ := ⟨_, rfl⟩
  obtain ⟨z, hz⟩ : ∃ z, z = MD.size (n + 1) ⟨⟨k, t, a, f, s, r0, r1, r2, r3, pp, path, pc⟩, ip, ic, items⟩ := ⟨_, rfl⟩
  rw [← hfu, ← hz]
  have HF : Hid (fu = (tyB k t && zeroK k a f s r0 r1 r2 r3 path.length items.length && kindB ⟨k, t, a, f, s, r0, r1, r2, r3, pp, path, pc⟩ && (k != 8 || (decide (items.length ≤ 30) && items.all (MD.full n))))) := hfu
  have HZ : Hid (z = 1 + (if k = 8 then (items.map (MD.size n)).sum else 0)) := hz
  have HZ1 : Hid (1 ≤ z) := by rw [hz]; exact MD.size_pos _ _
  simp only [MD.val, D]
  clear hfu hz hI hits hpath hlen hfine
  obtain ⟨W1, hW1⟩ : ∃ W1, W1 = (w.setCell ⟨b, 0, none⟩ (.int .i64 (rm - 1))).alloc (.cells #[.int .i64 k, .string t, .int .i64 a, .int .u64 f, .string s, .int .i64 r0, .int .i64 r1, .int .i64 r2, .int .i64 r3, .slice pp path.length pc, .slice ip items.length ic] 39) := ⟨_, rfl⟩
  have hc := hR.c
  have hf := hR.f
  have hbw := hR.lt
  have hB1 : Below b w W1 := by rw [hW1]; exact ((Below.refl _ _).setCell (p := ⟨b, 0, none⟩) (Nat.le_refl _) _).alloc (by simp; omega) _
  have hz1 : W1.heap.size = w.heap.size + 1 := by rw [hW1]; simp
  have HK : Hid (∀ W, Below W1.heap.size W1 W → ((∀ j, W.cell? ⟨w.heap.size, j, none⟩ = (#[.int .i64 k, .string t, .int .i64 a, .int .u64 f, .string s, .int .i64 r0, .int .i64 r1, .int .i64 r2, .int .i64 r3, .slice pp path.length pc, .slice ip items.length ic] : Array Value)[j]?) ∧ W.cell? ⟨b, 0, none⟩ = some (.int .i64 (rm - 1)))) := fun W hW => by
    refine ⟨fun j => ?_, ?_⟩
    · rw [hW.cell (p := ⟨w.heap.size, j, none⟩) (by show w.heap.size < _; omega), hW1, show w.heap.size = (w.setCell ⟨b, 0, none⟩ (.int .i64 (rm - 1))).heap.size by simp, World.cell?_alloc_new]
    · rw [hW.cell (p := ⟨b, 0, none⟩) (by show b < _; omega), hW1, World.cell?_alloc_lt _ _ _ (by simpa using hbw)]
      exact cell_set hc
  have HR1 : Hid (RoomAt W1 b (rm - 1)) := ⟨(HK.out W1 (Below.refl _ _)).2, by
    rw [hW1]; simp [go_sem, hf, hbw], by omega⟩
  have HN1 : Hid (NamesAt W1) := hN.under hb0 hB1
  have HT : Hid (∀ W, Below W1.heap.size W1 W → Calls Tryd.prog 42 #[.agg #[.int .i64 k, .string t, .int .i64 a, .int .u64 f, .string s, .int .i64 r0, .int .i64 r1, .int .i64 r2, .int .i64 r3, .slice pp path.length pc, .slice ip items.length ic]] W fun r w' => r = .returned (.bool (tyB k t)) ∧ Below W.heap.size W w') := fun W hW => rightType_any k t a f s r0 r1 r2 r3 _ _ W (HN1.out.kept hW)
  have HH : Hid (∀ W, Calls Tryd.prog 43 #[.agg #[.int .i64 k, .string t, .int .i64 a, .int .u64 f, .string s, .int .i64 r0, .int .i64 r1, .int .i64 r2, .int .i64 r3, .slice pp path.length pc, .slice ip items.length ic]] W fun r w' => r = .returned (.agg #[.int .i64 k, .string t, .int .i64 a, .int .u64 f, .string s, .int .i64 r0, .int .i64 r1, .int .i64 r2, .int .i64 r3, .int .i64 path.length, .int .i64 items.length]) ∧ Below W.heap.size W w') := fun W => headOf_any _ _ _ _ _ _ _ _ _ _ _ _ _ _ _ W
  clear hN
  have HRw : Hid (RoomAt w b rm) := hR
  clear hR
  by_cases hrm : rm = 0
  · have hlt : rm - 1 < 0 := by omega
    have HRM : Hid (rm = 0) := hrm
    clear hrm
    go_enter Tryd.func32, Tryd.ntmps32
    go_wp2_with fail
    rw [← hW1]
    clear hW1
    refine wp_region_noPanic ?_
    refine wp_region_held (S := fun W => (∀ j, W.cell? ⟨w.heap.size, j, none⟩ = (#[.int .i64 k, .string t, .int .i64 a, .int .u64 f, .string s, .int .i64 r0, .int .i64 r1, .int .i64 r2, .int .i64 r3, .slice pp path.length pc, .slice ip items.length ic] : Array Value)[j]?) ∧ W.cell? ⟨b, 0, none⟩ = some (.int .i64 (rm - 1))) (by kernel_rfl) ?_
    obtain ⟨W4, hW4⟩ : ∃ W4, W4 = W1.drew := ⟨_, rfl⟩
    have e4 : ({ W1 with drawn := W1.drawn + 1 } : World) = W4 := hW4.symm
    rw [e4]
    have hB4 : Below W1.heap.size W1 W4 := by rw [hW4]; exact (Below.refl _ _).drew
    have hS := HK.out W4 hB4
    clear e4 hW4
    refine wpAnyH_take (i := 0) (v := .pointer (some ⟨b, 0, none⟩)) rfl (by kernel_rfl) (by kernel_rfl) (by kernel_rfl) (fun _ _ _ h => h) (Or.inl ⟨by rfl, ?r⟩) hS ?_
    case r => intro W hW; simp [go_sem, execOp, Act.eval]
    simp only [List.getElem_toArray, List.getElem_cons_zero, Act.put, List.setIfInBounds_toArray, List.set_cons_succ, List.set_cons_zero]
    refine wpAnyH_take (i := 1) (v := .pointer (some ⟨b, 0, none⟩)) rfl (by kernel_rfl) (by kernel_rfl) (by kernel_rfl) (fun _ _ _ h => h) (Or.inl ⟨by rfl, ?r⟩) hS ?_
    case r => intro W hW; simp [go_sem, execOp, Act.eval]
    simp only [List.getElem_toArray, List.getElem_cons_zero, List.getElem_cons_succ, Act.put, List.setIfInBounds_toArray, List.set_cons_succ, List.set_cons_zero]
    refine wpAnyH_take (i := 2) (v := .int .i64 (rm - 1)) rfl (by kernel_rfl) (by kernel_rfl) (by kernel_rfl) (fun _ _ _ h => h) (Or.inl ⟨by rfl, ?r⟩) hS ?_
    case r => intro W hW; simp [go_sem, execOp, Act.eval, hW.2]
    simp only [List.getElem_toArray, List.getElem_cons_zero, List.getElem_cons_succ, Act.put, List.setIfInBounds_toArray, List.set_cons_succ, List.set_cons_zero]
    refine wpAnyH_take (i := 3) (v := .bool true) rfl (by kernel_rfl) (by kernel_rfl) (by kernel_rfl) (fun _ _ _ h => h) (Or.inl ⟨by rfl, ?r⟩) hS ?_
    case r => intro W hW; simp [go_sem, execOp, Act.eval, hlt]
    simp only [List.getElem_toArray, List.getElem_cons_zero, List.getElem_cons_succ, Act.put, List.setIfInBounds_toArray, List.set_cons_succ, List.set_cons_zero]
    refine wpAnyH_take (i := 4) (v := .bool true) rfl (by kernel_rfl) (by kernel_rfl) (by kernel_rfl) (fun _ _ _ h => h) (Or.inl ⟨by rfl, ?r⟩) hS ?_
    case r => intro W hW; simp [go_sem, execOp, Act.eval]
    simp only [List.getElem_toArray, List.getElem_cons_zero, List.getElem_cons_succ, Act.put, List.setIfInBounds_toArray, List.set_cons_succ, List.set_cons_zero]
    refine wpAnyH_take (i := 5) (v := undef) rfl (by kernel_rfl) (by kernel_rfl) (by kernel_rfl) (fun _ _ _ h => h) (Or.inr ⟨by rfl, rfl⟩) hS ?_
    simp only [List.getElem_toArray, List.getElem_cons_zero, List.getElem_cons_succ, Act.put, List.setIfInBounds_toArray, List.set_cons_succ, List.set_cons_zero]
    refine wpAnyH_all (rs := [6]) (by kernel_rfl) (by simp) (fun i2 hi2 => ?_)
    obtain rfl : i2 = 6 := by simpa using hi2
    clear hi2
    refine wpOp_step rfl (fun K hK => ite_no rfl ?_)
    simp only [List.getElem_toArray, List.getElem_cons_zero, List.getElem_cons_succ]
    refine hK _ _ ⟨HK.out _ hB4, ?_⟩
    clear hK K
    refine wpAnyH_take (i := 7) (v := undef) rfl (by kernel_rfl) (by kernel_rfl) (by kernel_rfl) (fun _ _ _ h => h) (Or.inr ⟨by rfl, rfl⟩) hS ?_
    simp only [List.getElem_toArray, List.getElem_cons_zero, List.getElem_cons_succ, Act.put, List.setIfInBounds_toArray, List.set_cons_succ, List.set_cons_zero]
    refine wpAnyH_take (i := 8) (v := .bool true) rfl (by kernel_rfl) (by kernel_rfl) (by kernel_rfl) (fun _ _ _ h => h) (Or.inl ⟨by rfl, ?r⟩) hS ?_
    case r => intro W hW; simp [go_sem, execOp, Act.eval]
    simp only [List.getElem_toArray, List.getElem_cons_zero, List.getElem_cons_succ, Act.put, List.setIfInBounds_toArray, List.set_cons_succ, List.set_cons_zero]
    refine wpAnyH_take (i := 9) (v := .bool true) rfl (by kernel_rfl) (by kernel_rfl) (by kernel_rfl) (fun _ _ _ h => h) (Or.inl ⟨by rfl, ?r⟩) hS ?_
    case r => intro W hW; simp [go_sem, execOp, Act.eval]
    simp only [List.getElem_toArray, List.getElem_cons_zero, List.getElem_cons_succ, Act.put, List.setIfInBounds_toArray, List.set_cons_succ, List.set_cons_zero]
    refine wpAnyH_take (i := 10) (v := undef) rfl (by kernel_rfl) (by kernel_rfl) (by kernel_rfl) (fun _ _ _ h => h) (Or.inr ⟨by rfl, rfl⟩) hS ?_
    simp only [List.getElem_toArray, List.getElem_cons_zero, List.getElem_cons_succ, Act.put, List.setIfInBounds_toArray, List.set_cons_succ, List.set_cons_zero]
    refine wpAnyH_take (i := 12) (v := undef) rfl (by kernel_rfl) (by kernel_rfl) (by kernel_rfl) (fun _ _ _ h => h) (Or.inr ⟨by rfl, rfl⟩) hS ?_
    simp only [List.getElem_toArray, List.getElem_cons_zero, List.getElem_cons_succ, Act.put, List.setIfInBounds_toArray, List.set_cons_succ, List.set_cons_zero]
    refine wpAnyH_all (rs := [11]) (by kernel_rfl) (by simp) (fun i2 hi2 => ?_)
    obtain rfl : i2 = 11 := by simpa using hi2
    clear hi2
    refine wpOp_step rfl (fun K hK => ite_no rfl ?_)
    simp only [List.getElem_toArray, List.getElem_cons_zero, List.getElem_cons_succ]
    refine hK _ _ ⟨HK.out _ hB4, ?_⟩
    clear hK K
    refine wpAnyH_all (rs := [13]) (by kernel_rfl) (by simp) (fun i2 hi2 => ?_)
    obtain rfl : i2 = 13 := by simpa using hi2
    clear hi2
    refine wpOp_step rfl (fun K hK => ite_no rfl ?_)
    simp only [List.getElem_toArray, List.getElem_cons_zero, List.getElem_cons_succ]
    refine hK _ _ ⟨HK.out _ hB4, ?_⟩
    clear hK K
    refine wpAnyH_all (rs := [14]) (by kernel_rfl) (by simp) (fun i2 hi2 => ?_)
    obtain rfl : i2 = 14 := by simpa using hi2
    clear hi2
    refine wpOp_step rfl (fun K hK => ite_no rfl ?_)
    simp only [List.getElem_toArray, List.getElem_cons_zero, List.getElem_cons_succ]
    refine hK _ _ ⟨HK.out _ hB4, ?_⟩
    clear hK K
    refine wpAnyH_take (i := 15) (v := undef) rfl (by kernel_rfl) (by kernel_rfl) (by kernel_rfl) (fun _ _ _ h => h) (Or.inr ⟨by rfl, rfl⟩) hS ?_
    simp only [List.getElem_toArray, List.getElem_cons_zero, List.getElem_cons_succ, Act.put, List.setIfInBounds_toArray, List.set_cons_succ, List.set_cons_zero]
    refine wpAnyH_take (i := 16) (v := .bool true) rfl (by kernel_rfl) (by kernel_rfl) (by kernel_rfl) (fun _ _ _ h => h) (Or.inl ⟨by rfl, ?r⟩) hS ?_
    case r => intro W hW; simp [go_sem, execOp, Act.eval]
    simp only [List.getElem_toArray, List.getElem_cons_zero, List.getElem_cons_succ, Act.put, List.setIfInBounds_toArray, List.set_cons_succ, List.set_cons_zero]
    refine wpAnyH_done (by kernel_rfl) ?_ _
    refine NoPanic.normal ?_
    try simp only [Act.put]
    go_wp2_with fail
    go_ret
    exact RightP.no (hB1.trans (hB4.mono (by omega))) (HR1.out.kept hB4) (.inr (by have := HZ1.out; have := HRM.out; omega))
  · have hlt : ¬ (rm - 1 < 0) := by omega
    have hr1 : 1 ≤ rm := by omega
    clear hrm
    obtain ⟨bt, hbt⟩ : ∃ bt, bt = tyB k t := ⟨_, rfl⟩
    rw [← hbt] at HT
    have HBT : Hid (bt = tyB k t) := hbt
    clear hbt
    cases bt with
    | false =>
      go_enter Tryd.func32, Tryd.ntmps32
      go_wp2_with fail
      rw [← hW1]
      clear hW1
      refine wp_region_noPanic ?_
      refine wp_region_held (S := fun W => (∀ j, W.cell? ⟨w.heap.size, j, none⟩ = (#[.int .i64 k, .string t, .int .i64 a, .int .u64 f, .string s, .int .i64 r0, .int .i64 r1, .int .i64 r2, .int .i64 r3, .slice pp path.length pc, .slice ip items.length ic] : Array Value)[j]?) ∧ W.cell? ⟨b, 0, none⟩ = some (.int .i64 (rm - 1))) (by kernel_rfl) ?_
      obtain ⟨W4, hW4⟩ : ∃ W4, W4 = W1.drew := ⟨_, rfl⟩
      have e4 : ({ W1 with drawn := W1.drawn + 1 } : World) = W4 := hW4.symm
      rw [e4]
      have hB4 : Below W1.heap.size W1 W4 := by rw [hW4]; exact (Below.refl _ _).drew
      have hS := HK.out W4 hB4
      clear e4 hW4
      refine wpAnyH_take (i := 0) (v := .pointer (some ⟨b, 0, none⟩)) rfl (by kernel_rfl) (by kernel_rfl) (by kernel_rfl) (fun _ _ _ h => h) (Or.inl ⟨by rfl, ?r⟩) hS ?_
      case r => intro W hW; simp [go_sem, execOp, Act.eval]
      simp only [List.getElem_toArray, List.getElem_cons_zero, Act.put, List.setIfInBounds_toArray, List.set_cons_succ, List.set_cons_zero]
      refine wpAnyH_take (i := 1) (v := .pointer (some ⟨b, 0, none⟩)) rfl (by kernel_rfl) (by kernel_rfl) (by kernel_rfl) (fun _ _ _ h => h) (Or.inl ⟨by rfl, ?r⟩) hS ?_
      case r => intro W hW; simp [go_sem, execOp, Act.eval]
      simp only [List.getElem_toArray, List.getElem_cons_zero, List.getElem_cons_succ, Act.put, List.setIfInBounds_toArray, List.set_cons_succ, List.set_cons_zero]
      refine wpAnyH_take (i := 2) (v := .int .i64 (rm - 1)) rfl (by kernel_rfl) (by kernel_rfl) (by kernel_rfl) (fun _ _ _ h => h) (Or.inl ⟨by rfl, ?r⟩) hS ?_
      case r => intro W hW; simp [go_sem, execOp, Act.eval, hW.2]
      simp only [List.getElem_toArray, List.getElem_cons_zero, List.getElem_cons_succ, Act.put, List.setIfInBounds_toArray, List.set_cons_succ, List.set_cons_zero]
      refine wpAnyH_take (i := 3) (v := .bool false) rfl (by kernel_rfl) (by kernel_rfl) (by kernel_rfl) (fun _ _ _ h => h) (Or.inl ⟨by rfl, ?r⟩) hS ?_
      case r => intro W hW; simp [go_sem, execOp, Act.eval, hr1]
      simp only [List.getElem_toArray, List.getElem_cons_zero, List.getElem_cons_succ, Act.put, List.setIfInBounds_toArray, List.set_cons_succ, List.set_cons_zero]
      refine wpAnyH_take (i := 4) (v := .bool false) rfl (by kernel_rfl) (by kernel_rfl) (by kernel_rfl) (fun _ _ _ h => h) (Or.inl ⟨by rfl, ?r⟩) hS ?_
      case r => intro W hW; simp [go_sem, execOp, Act.eval]
      simp only [List.getElem_toArray, List.getElem_cons_zero, List.getElem_cons_succ, Act.put, List.setIfInBounds_toArray, List.set_cons_succ, List.set_cons_zero]
      refine wpAnyH_take (i := 5) (v := .agg #[.int .i64 k, .string t, .int .i64 a, .int .u64 f, .string s, .int .i64 r0, .int .i64 r1, .int .i64 r2, .int .i64 r3, .slice pp path.length pc, .slice ip items.length ic]) rfl (by kernel_rfl) (by kernel_rfl) (by kernel_rfl) (fun _ _ _ h => h) (Or.inl ⟨by rfl, ?r⟩) hS ?_
      case r => intro W hW; simp [go_sem, execOp, Act.eval, hW.1]
      simp only [List.getElem_toArray, List.getElem_cons_zero, List.getElem_cons_succ, Act.put, List.setIfInBounds_toArray, List.set_cons_succ, List.set_cons_zero]
      refine wpAnyH_all (rs := [6]) (by kernel_rfl) (by simp) (fun i2 hi2 => ?_)
      obtain rfl : i2 = 6 := by simpa using hi2
      clear hi2
      refine wpOp_step rfl (fun K hK => ite_yes rfl ?_)
      simp only [List.getElem_toArray, List.getElem_cons_zero, List.getElem_cons_succ]
      go_simp
      refine (HT.out _ hB4).mono ?_
      rintro e w5 ⟨rfl, b5⟩
      have hb5 : Below W1.heap.size W1 w5 := hB4.trans (b5.mono hB4.size)
      go_simp
      refine hK _ _ ⟨HK.out _ hb5, ?_⟩
      clear hK K hS
      have hS := HK.out _ hb5
      refine wpAnyH_take (i := 7) (v := .bool true) rfl (by kernel_rfl) (by kernel_rfl) (by kernel_rfl) (fun _ _ _ h => h) (Or.inl ⟨by rfl, ?r⟩) hS ?_
      case r => intro W hW; simp [go_sem, execOp, Act.eval]
      simp only [List.getElem_toArray, List.getElem_cons_zero, List.getElem_cons_succ, Act.put, List.setIfInBounds_toArray, List.set_cons_succ, List.set_cons_zero]
      refine wpAnyH_take (i := 8) (v := .bool true) rfl (by kernel_rfl) (by kernel_rfl) (by kernel_rfl) (fun _ _ _ h => h) (Or.inl ⟨by rfl, ?r⟩) hS ?_
      case r => intro W hW; simp [go_sem, execOp, Act.eval]
      simp only [List.getElem_toArray, List.getElem_cons_zero, List.getElem_cons_succ, Act.put, List.setIfInBounds_toArray, List.set_cons_succ, List.set_cons_zero]
      refine wpAnyH_take (i := 9) (v := .bool true) rfl (by kernel_rfl) (by kernel_rfl) (by kernel_rfl) (fun _ _ _ h => h) (Or.inl ⟨by rfl, ?r⟩) hS ?_
      case r => intro W hW; simp [go_sem, execOp, Act.eval]
      simp only [List.getElem_toArray, List.getElem_cons_zero, List.getElem_cons_succ, Act.put, List.setIfInBounds_toArray, List.set_cons_succ, List.set_cons_zero]
      refine wpAnyH_take (i := 10) (v := undef) rfl (by kernel_rfl) (by kernel_rfl) (by kernel_rfl) (fun _ _ _ h => h) (Or.inr ⟨by rfl, rfl⟩) hS ?_
      simp only [List.getElem_toArray, List.getElem_cons_zero, List.getElem_cons_succ, Act.put, List.setIfInBounds_toArray, List.set_cons_succ, List.set_cons_zero]
      refine wpAnyH_take (i := 12) (v := undef) rfl (by kernel_rfl) (by kernel_rfl) (by kernel_rfl) (fun _ _ _ h => h) (Or.inr ⟨by rfl, rfl⟩) hS ?_
      simp only [List.getElem_toArray, List.getElem_cons_zero, List.getElem_cons_succ, Act.put, List.setIfInBounds_toArray, List.set_cons_succ, List.set_cons_zero]
      refine wpAnyH_all (rs := [11]) (by kernel_rfl) (by simp) (fun i2 hi2 => ?_)
      obtain rfl : i2 = 11 := by simpa using hi2
      clear hi2
      refine wpOp_step rfl (fun K hK => ite_no rfl ?_)
      simp only [List.getElem_toArray, List.getElem_cons_zero, List.getElem_cons_succ]
      refine hK _ _ ⟨HK.out _ hb5, ?_⟩
      clear hK K
      refine wpAnyH_all (rs := [13]) (by kernel_rfl) (by simp) (fun i2 hi2 => ?_)
      obtain rfl : i2 = 13 := by simpa using hi2
      clear hi2
      refine wpOp_step rfl (fun K hK => ite_no rfl ?_)
      simp only [List.getElem_toArray, List.getElem_cons_zero, List.getElem_cons_succ]
      refine hK _ _ ⟨HK.out _ hb5, ?_⟩
      clear hK K
      refine wpAnyH_all (rs := [14]) (by kernel_rfl) (by simp) (fun i2 hi2 => ?_)
      obtain rfl : i2 = 14 := by simpa using hi2
      clear hi2
      refine wpOp_step rfl (fun K hK => ite_no rfl ?_)
      simp only [List.getElem_toArray, List.getElem_cons_zero, List.getElem_cons_succ]
      refine hK _ _ ⟨HK.out _ hb5, ?_⟩
      clear hK K
      refine wpAnyH_take (i := 15) (v := undef) rfl (by kernel_rfl) (by kernel_rfl) (by kernel_rfl) (fun _ _ _ h => h) (Or.inr ⟨by rfl, rfl⟩) hS ?_
      simp only [List.getElem_toArray, List.getElem_cons_zero, List.getElem_cons_succ, Act.put, List.setIfInBounds_toArray, List.set_cons_succ, List.set_cons_zero]
      refine wpAnyH_take (i := 16) (v := .bool true) rfl (by kernel_rfl) (by kernel_rfl) (by kernel_rfl) (fun _ _ _ h => h) (Or.inl ⟨by rfl, ?r⟩) hS ?_
      case r => intro W hW; simp [go_sem, execOp, Act.eval]
      simp only [List.getElem_toArray, List.getElem_cons_zero, List.getElem_cons_succ, Act.put, List.setIfInBounds_toArray, List.set_cons_succ, List.set_cons_zero]
      refine wpAnyH_done (by kernel_rfl) ?_ _
      refine NoPanic.normal ?_
      try simp only [Act.put]
      go_wp2_with fail
      go_ret
      exact RightP.no (hB1.trans (hb5.mono (by omega))) (HR1.out.kept hb5) (.inl (by rw [HF.out, ← HBT.out]; rfl))
    | true =>
      obtain ⟨hk0, hk9⟩ := tyB_range HBT.out.symm
      obtain ⟨a', f', s', r0', r1', r2', r3', pp', m', c', ip', il', ic', hown, hhd⟩ := own_ex k hk0 hk9 t a f s r0 r1 r2 r3 pp path.length pc ip items.length ic
      have HO : Hid (∀ W, Calls Tryd.prog 44 #[.agg #[.int .i64 k, .string t, .int .i64 a, .int .u64 f, .string s, .int .i64 r0, .int .i64 r1, .int .i64 r2, .int .i64 r3, .slice pp path.length pc, .slice ip items.length ic]] W fun r w' => r = .returned (.agg #[.int .i64 k, .string t, .int .i64 a', .int .u64 f', .string s', .int .i64 r0', .int .i64 r1', .int .i64 r2', .int .i64 r3', .slice pp' m' c', .slice ip' il' ic']) ∧ Below W.heap.size W w') := hown
      have HH2 : Hid (∀ W, Calls Tryd.prog 43 #[.agg #[.int .i64 k, .string t, .int .i64 a', .int .u64 f', .string s', .int .i64 r0', .int .i64 r1', .int .i64 r2', .int .i64 r3', .slice pp' m' c', .slice ip' il' ic']] W fun r w' => r = .returned (.agg #[.int .i64 k, .string t, .int .i64 a', .int .u64 f', .string s', .int .i64 r0', .int .i64 r1', .int .i64 r2', .int .i64 r3', .int .i64 m', .int .i64 il']) ∧ Below W.heap.size W w') := fun W => headOf_any _ _ _ _ _ _ _ _ _ _ _ _ _ _ _ W
      obtain ⟨zk, hzk⟩ : ∃ zk, zk = zeroK k a f s r0 r1 r2 r3 path.length items.length := ⟨_, rfl⟩
      have HQ : ∀ W, (binOp .neq 98 (.agg #[.int .i64 k, .string t, .int .i64 a, .int .u64 f, .string s, .int .i64 r0, .int .i64 r1, .int .i64 r2, .int .i64 r3, .int .i64 path.length, .int .i64 items.length]) (.agg #[.int .i64 k, .string t, .int .i64 a', .int .u64 f', .string s', .int .i64 r0', .int .i64 r1', .int .i64 r2', .int .i64 r3', .int .i64 m', .int .i64 il'])).run Tryd.prog W = .ok (.bool (!zk)) W := fun W => by
        rw [hzk, ← hhd]; exact head_neq _ _ _ _ _ _ _ _ _ _ _ _ _ _ _ _ _ _ _ _ W
      have HZK : Hid (zk = zeroK k a f s r0 r1 r2 r3 path.length items.length) := hzk
      clear hown hhd hzk hk0 hk9
      go_enter Tryd.func32, Tryd.ntmps32
      go_wp2_with fail
      rw [← hW1]
      clear hW1
      refine wp_region_noPanic ?_
      refine wp_region_held (S := fun W => (∀ j, W.cell? ⟨w.heap.size, j, none⟩ = (#[.int .i64 k, .string t, .int .i64 a, .int .u64 f, .string s, .int .i64 r0, .int .i64 r1, .int .i64 r2, .int .i64 r3, .slice pp path.length pc, .slice ip items.length ic] : Array Value)[j]?) ∧ W.cell? ⟨b, 0, none⟩ = some (.int .i64 (rm - 1))) (by kernel_rfl) ?_
      obtain ⟨W4, hW4⟩ : ∃ W4, W4 = W1.drew := ⟨_, rfl⟩
      have e4 : ({ W1 with drawn := W1.drawn + 1 } : World) = W4 := hW4.symm
      rw [e4]
      have hB4 : Below W1.heap.size W1 W4 := by rw [hW4]; exact (Below.refl _ _).drew
      have hS := HK.out W4 hB4
      clear e4 hW4
      refine wpAnyH_take (i := 0) (v := .pointer (some ⟨b, 0, none⟩)) rfl (by kernel_rfl) (by kernel_rfl) (by kernel_rfl) (fun _ _ _ h => h) (Or.inl ⟨by rfl, ?r⟩) hS ?_
      case r => intro W hW; simp [go_sem, execOp, Act.eval]
      simp only [List.getElem_toArray, List.getElem_cons_zero, Act.put, List.setIfInBounds_toArray, List.set_cons_succ, List.set_cons_zero]
      refine wpAnyH_take (i := 1) (v := .pointer (some ⟨b, 0, none⟩)) rfl (by kernel_rfl) (by kernel_rfl) (by kernel_rfl) (fun _ _ _ h => h) (Or.inl ⟨by rfl, ?r⟩) hS ?_
      case r => intro W hW; simp [go_sem, execOp, Act.eval]
      simp only [List.getElem_toArray, List.getElem_cons_zero, List.getElem_cons_succ, Act.put, List.setIfInBounds_toArray, List.set_cons_succ, List.set_cons_zero]
      refine wpAnyH_take (i := 2) (v := .int .i64 (rm - 1)) rfl (by kernel_rfl) (by kernel_rfl) (by kernel_rfl) (fun _ _ _ h => h) (Or.inl ⟨by rfl, ?r⟩) hS ?_
      case r => intro W hW; simp [go_sem, execOp, Act.eval, hW.2]
      simp only [List.getElem_toArray, List.getElem_cons_zero, List.getElem_cons_succ, Act.put, List.setIfInBounds_toArray, List.set_cons_succ, List.set_cons_zero]
      refine wpAnyH_take (i := 3) (v := .bool false) rfl (by kernel_rfl) (by kernel_rfl) (by kernel_rfl) (fun _ _ _ h => h) (Or.inl ⟨by rfl, ?r⟩) hS ?_
      case r => intro W hW; simp [go_sem, execOp, Act.eval, hr1]
      simp only [List.getElem_toArray, List.getElem_cons_zero, List.getElem_cons_succ, Act.put, List.setIfInBounds_toArray, List.set_cons_succ, List.set_cons_zero]
      refine wpAnyH_take (i := 4) (v := .bool false) rfl (by kernel_rfl) (by kernel_rfl) (by kernel_rfl) (fun _ _ _ h => h) (Or.inl ⟨by rfl, ?r⟩) hS ?_
      case r => intro W hW; simp [go_sem, execOp, Act.eval]
      simp only [List.getElem_toArray, List.getElem_cons_zero, List.getElem_cons_succ, Act.put, List.setIfInBounds_toArray, List.set_cons_succ, List.set_cons_zero]
      refine wpAnyH_take (i := 5) (v := .agg #[.int .i64 k, .string t, .int .i64 a, .int .u64 f, .string s, .int .i64 r0, .int .i64 r1, .int .i64 r2, .int .i64 r3, .slice pp path.length pc, .slice ip items.length ic]) rfl (by kernel_rfl) (by kernel_rfl) (by kernel_rfl) (fun _ _ _ h => h) (Or.inl ⟨by rfl, ?r⟩) hS ?_
      case r => intro W hW; simp [go_sem, execOp, Act.eval, hW.1]
      simp only [List.getElem_toArray, List.getElem_cons_zero, List.getElem_cons_succ, Act.put, List.setIfInBounds_toArray, List.set_cons_succ, List.set_cons_zero]
      refine wpAnyH_all (rs := [6]) (by kernel_rfl) (by simp) (fun i2 hi2 => ?_)
      obtain rfl : i2 = 6 := by simpa using hi2
      clear hi2
      refine wpOp_step rfl (fun K hK => ite_yes rfl ?_)
      simp only [List.getElem_toArray, List.getElem_cons_zero, List.getElem_cons_succ]
      go_simp
      refine (HT.out _ hB4).mono ?_
      rintro e w5 ⟨rfl, b5⟩
      have hb5 : Below W1.heap.size W1 w5 := hB4.trans (b5.mono hB4.size)
      go_simp
      refine hK _ _ ⟨HK.out _ hb5, ?_⟩
      clear hK K hS
      have hS := HK.out _ hb5
      refine wpAnyH_take (i := 7) (v := .bool false) rfl (by kernel_rfl) (by kernel_rfl) (by kernel_rfl) (fun _ _ _ h => h) (Or.inl ⟨by rfl, ?r⟩) hS ?_
      case r => intro W hW; simp [go_sem, execOp, Act.eval]
      simp only [List.getElem_toArray, List.getElem_cons_zero, List.getElem_cons_succ, Act.put, List.setIfInBounds_toArray, List.set_cons_succ, List.set_cons_zero]
      refine wpAnyH_take (i := 8) (v := .bool false) rfl (by kernel_rfl) (by kernel_rfl) (by kernel_rfl) (fun _ _ _ h => h) (Or.inl ⟨by rfl, ?r⟩) hS ?_
      case r => intro W hW; simp [go_sem, execOp, Act.eval]
      simp only [List.getElem_toArray, List.getElem_cons_zero, List.getElem_cons_succ, Act.put, List.setIfInBounds_toArray, List.set_cons_succ, List.set_cons_zero]
      refine wpAnyH_take (i := 9) (v := .bool false) rfl (by kernel_rfl) (by kernel_rfl) (by kernel_rfl) (fun _ _ _ h => h) (Or.inl ⟨by rfl, ?r⟩) hS ?_
      case r => intro W hW; simp [go_sem, execOp, Act.eval]
      simp only [List.getElem_toArray, List.getElem_cons_zero, List.getElem_cons_succ, Act.put, List.setIfInBounds_toArray, List.set_cons_succ, List.set_cons_zero]
      refine wpAnyH_take (i := 10) (v := .agg #[.int .i64 k, .string t, .int .i64 a, .int .u64 f, .string s, .int .i64 r0, .int .i64 r1, .int .i64 r2, .int .i64 r3, .slice pp path.length pc, .slice ip items.length ic]) rfl (by kernel_rfl) (by kernel_rfl) (by kernel_rfl) (fun _ _ _ h => h) (Or.inl ⟨by rfl, ?r⟩) hS ?_
      case r => intro W hW; simp [go_sem, execOp, Act.eval, hW.1]
      simp only [List.getElem_toArray, List.getElem_cons_zero, List.getElem_cons_succ, Act.put, List.setIfInBounds_toArray, List.set_cons_succ, List.set_cons_zero]
      refine wpAnyH_take (i := 12) (v := .agg #[.int .i64 k, .string t, .int .i64 a, .int .u64 f, .string s, .int .i64 r0, .int .i64 r1, .int .i64 r2, .int .i64 r3, .slice pp path.length pc, .slice ip items.length ic]) rfl (by kernel_rfl) (by kernel_rfl) (by kernel_rfl) (fun _ _ _ h => h) (Or.inl ⟨by rfl, ?r⟩) hS ?_
      case r => intro W hW; simp [go_sem, execOp, Act.eval, hW.1]
      simp only [List.getElem_toArray, List.getElem_cons_zero, List.getElem_cons_succ, Act.put, List.setIfInBounds_toArray, List.set_cons_succ, List.set_cons_zero]
      refine wpAnyH_all (rs := [11]) (by kernel_rfl) (by simp) (fun i2 hi2 => ?_)
      obtain rfl : i2 = 11 := by simpa using hi2
      clear hi2
      refine wpOp_step rfl (fun K hK => ite_yes rfl ?_)
      simp only [List.getElem_toArray, List.getElem_cons_zero, List.getElem_cons_succ]
      go_simp
      refine (HH.out _).mono ?_
      rintro e w6 ⟨rfl, b6⟩
      have hb6 : Below W1.heap.size W1 w6 := hb5.trans (b6.mono hb5.size)
      go_simp
      refine hK _ _ ⟨HK.out _ hb6, ?_⟩
      clear hK K
      refine wpAnyH_all (rs := [13]) (by kernel_rfl) (by simp) (fun i2 hi2 => ?_)
      obtain rfl : i2 = 13 := by simpa using hi2
      clear hi2
      refine wpOp_step rfl (fun K hK => ite_yes rfl ?_)
      simp only [List.getElem_toArray, List.getElem_cons_zero, List.getElem_cons_succ]
      go_simp
      refine (HO.out _).mono ?_
      rintro e w7 ⟨rfl, b7⟩
      have hb7 : Below W1.heap.size W1 w7 := hb6.trans (b7.mono hb6.size)
      go_simp
      refine hK _ _ ⟨HK.out _ hb7, ?_⟩
      clear hK K
      refine wpAnyH_all (rs := [14]) (by kernel_rfl) (by simp) (fun i2 hi2 => ?_)
      obtain rfl : i2 = 14 := by simpa using hi2
      clear hi2
      refine wpOp_step rfl (fun K hK => ite_yes rfl ?_)
      simp only [List.getElem_toArray, List.getElem_cons_zero, List.getElem_cons_succ]
      go_simp
      refine (HH2.out _).mono ?_
      rintro e w8 ⟨rfl, b8⟩
      have hb8 : Below W1.heap.size W1 w8 := hb7.trans (b8.mono hb7.size)
      go_simp
      refine hK _ _ ⟨HK.out _ hb8, ?_⟩
      clear hK K
      clear hS
      have hS := HK.out _ hb8
      refine wpAnyH_take (i := 15) (v := .bool (!zk)) rfl (by kernel_rfl) (by kernel_rfl) (by kernel_rfl) (fun _ _ _ h => h) (Or.inl ⟨by rfl, ?r⟩) hS ?_
      case r => intro W hW; simp [go_sem, execOp, Act.eval, HQ]
      simp only [List.getElem_toArray, List.getElem_cons_zero, List.getElem_cons_succ, Act.put, List.setIfInBounds_toArray, List.set_cons_succ, List.set_cons_zero]
      refine wpAnyH_take (i := 16) (v := .bool (!zk)) rfl (by kernel_rfl) (by kernel_rfl) (by kernel_rfl) (fun _ _ _ h => h) (Or.inl ⟨by rfl, ?r⟩) hS ?_
      case r => intro W hW; simp [go_sem, execOp, Act.eval]
      simp only [List.getElem_toArray, List.getElem_cons_zero, List.getElem_cons_succ, Act.put, List.setIfInBounds_toArray, List.set_cons_succ, List.set_cons_zero]
      refine wpAnyH_done (by kernel_rfl) ?_ _
      refine NoPanic.normal ?_
      try simp only [Act.put]
      have hF : Below b w w8 := hB1.trans (hb8.mono (by omega))
      have HFW : Hid (Below b w w8 ∧ RoomAt w8 b (rm - 1)) := ⟨hF, HR1.out.kept hb8⟩
      have hz8 : w.heap.size < w8.heap.size := by have := hb8.size; omega
      have d8 := hS.1
      clear hF b5 b6 b7 b8 hb5 hb6 hb7 hb8 hB4 hB1 hS HQ HK HH HH2 HO HT
      cases zk with
      | false =>
        go_wp2_with fail
        go_ret
        exact RightP.no HFW.out.1 HFW.out.2 (.inl (by rw [HF.out, ← HZK.out, Bool.and_false]; rfl))
      | true =>
        have HF2 : Hid (fu = (kindB ⟨k, t, a, f, s, r0, r1, r2, r3, pp, path, pc⟩ && (k != 8 || (decide (items.length ≤ 30) && items.all (MD.full n))))) := by
          show _ = _
          rw [HF.out, ← HZK.out, ← HBT.out]; rfl
        have HRK : Hid (0 ≤ k ∧ k ≤ 9) := tyB_range HBT.out.symm
        clear HF HZK HBT
        rcases kinds k with rfl | rfl | rfl | rfl | rfl | rfl | rfl | rfl | rfl | rfl | hko
        · go_wp2_with fail
          go_ret
          exact RightP.leaf (x := true) HFW.out.1 HFW.out.2 (by rw [HF2.out]; rfl) (by rw [HZ.out]; rfl) hr1
        · have HX : Hid (fu = (a == 0 || a == 1)) := by show _ = _; rw [HF2.out]; simp [kindB]
          go_wp2_with fail
          all_goals (go_ret; refine RightP.leaf HFW.out.1 HFW.out.2 ?_ (by rw [HZ.out]; rfl) hr1; first | (rw [HX.out]; done) | (rw [HX.out]; simp_all))
        · go_wp2_with fail
          go_ret
          exact RightP.leaf (x := true) HFW.out.1 HFW.out.2 (by rw [HF2.out]; rfl) (by rw [HZ.out]; rfl) hr1
        · have HX : Hid (fu = (f == 9221120237041090561 || !isNan f.toNat)) := by show _ = _; rw [HF2.out]; simp [kindB]
          have HM : Hid (∀ W, Calls Tryd.prog 45 #[.float .f64 f.toNat] W fun r w' => r = .returned (.bool (isNan f.toNat)) ∧ w' = W) := fun W => mathIsNaN_any _ W
          generalize isNan f.toNat = nn at HX HM
          go_wp2_with (go_at_call 45; refine (HM.out _).mono ?_; rintro r w' ⟨rfl, rfl⟩)
          all_goals (go_ret; refine RightP.leaf HFW.out.1 HFW.out.2 ?_ (by rw [HZ.out]; rfl) hr1; first | (rw [HX.out]; done) | (rw [HX.out]; simp_all))
        · have HX : Hid (fu = decide ((s.size : Int) ≤ 65536)) := by show _ = _; rw [HF2.out]; simp [kindB]; omega
          go_wp2_with fail
          go_ret
          exact RightP.leaf HFW.out.1 HFW.out.2 HX.out (by rw [HZ.out]; rfl) hr1
        · have HX : Hid (fu = pieceB r0 r1 r2 r3) := by show _ = _; rw [HF2.out]; simp [kindB]
          have HM : Hid (∀ W, Calls Tryd.prog 47 #[.agg #[.int .i64 r0, .int .i64 r1, .int .i64 r2, .int .i64 r3, .slice pp path.length pc]] W fun r w' => r = .returned (.bool (pieceB r0 r1 r2 r3)) ∧ Below W.heap.size W w') := fun W => rightPiece_any r0 r1 r2 r3 pp path.length pc W HFn.out.c0 HFn.out.c1
          generalize pieceB r0 r1 r2 r3 = nn at HX HM
          go_wp2_with (go_at_call 47; refine (HM.out _).mono ?_; rintro r w9 ⟨rfl, b9⟩)
          go_ret
          exact RightP.leaf (HFW.out.1.trans (b9.mono (Nat.le_of_lt HFW.out.2.lt))) (HFW.out.2.kept b9) HX.out (by rw [HZ.out]; rfl) hr1
        · have HX : Hid (fu = objB r0) := by show _ = _; rw [HF2.out]; simp [kindB]
          have HM : Hid (∀ W, Calls Tryd.prog 48 #[.int .i64 r0] W fun r w' => r = .returned (.bool (objB r0)) ∧ w' = W) := fun W => rightObject_any r0 W
          generalize objB r0 = nn at HX HM
          go_wp2_with (go_at_call 48; refine (HM.out _).mono ?_; rintro r w' ⟨rfl, rfl⟩)
          go_ret
          exact RightP.leaf HFW.out.1 HFW.out.2 HX.out (by rw [HZ.out]; rfl) hr1
        · have HX : Hid (fu = objB r0) := by show _ = _; rw [HF2.out]; simp [kindB]
          have HM : Hid (∀ W, Calls Tryd.prog 48 #[.int .i64 r0] W fun r w' => r = .returned (.bool (objB r0)) ∧ w' = W) := fun W => rightObject_any r0 W
          generalize objB r0 = nn at HX HM
          go_wp2_with (go_at_call 48; refine (HM.out _).mono ?_; rintro r w' ⟨rfl, rfl⟩)
          go_ret
          exact RightP.leaf HFW.out.1 HFW.out.2 HX.out (by rw [HZ.out]; rfl) hr1
        · have HX : Hid (fu = (decide (items.length ≤ 30) && items.all (MD.full n))) := by show _ = _; rw [HF2.out]; simp [kindB]
          have HY : Hid (z = 1 + (items.map (MD.size n)).sum) := by show _ = _; rw [HZ.out, if_pos rfl]
          have HM : Hid (Calls Tryd.prog 49 #[.slice ip items.length ic, .pointer (some ⟨b, 0, none⟩)] w8 (RightP fu (items.map (MD.size n)).sum b (rm - 1) w8)) := by
            rw [HX.out]; exact HI.out w8 HFW.out.1 HFW.out.2 hr1
          go_wp2_with (go_at_call 49; refine HM.out.mono ?_; rintro r w9 ⟨x, q, rfl, hq⟩; have HQ : Hid (Below b w8 w9 ∧ RoomAt w9 b q ∧ x = (fu && decide (((items.map (MD.size n)).sum : Int) ≤ rm - 1)) ∧ (x = true → q = rm - 1 - (items.map (MD.size n)).sum)) := hq; clear hq)
          go_ret
          obtain ⟨q1, q2, q3, q4⟩ := HQ.out
          refine ⟨x, q, rfl, HFW.out.1.trans q1, q2, ?_, fun h => ?_⟩
          · rw [q3, HY.out]; congr 1; apply decide_eq_decide.2; omega
          · rw [q4 h, HY.out]; omega
        · have HX : Hid (fu = targetB r0 path) := by show _ = _; rw [HF2.out]; simp [kindB]
          have HM : Hid (Calls Tryd.prog 50 #[.agg #[.int .i64 r0, .int .i64 r1, .int .i64 r2, .int .i64 r3, .slice pp path.length pc]] w8 fun r w' => r = .returned (.bool (targetB r0 path)) ∧ Below w8.heap.size w8 w') := HP.out w8 HFW.out.1
          generalize targetB r0 path = nn at HX HM
          go_wp2_with (go_at_call 50; refine HM.out.mono ?_; rintro r w9 ⟨rfl, b9⟩)
          go_ret
          exact RightP.leaf (HFW.out.1.trans (b9.mono (Nat.le_of_lt HFW.out.2.lt))) (HFW.out.2.kept b9) HX.out (by rw [HZ.out]; rfl) hr1
        · have := HRK.out; omega

theorem right_any : ∀ n, RightC n
  | 0 => fun _ _ _ _ _ _ _ _ _ h => h.elim
  | n + 1 => right_step n (rightItems_step n (right_any n))
end Go.Proofs.YtflonmlnedkmjaaDoor
