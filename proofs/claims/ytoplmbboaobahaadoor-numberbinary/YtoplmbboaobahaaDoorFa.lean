/-
  Sums, differences, products and quotients of floats; faults of shifts; where there is no such operation.
-/
import Derived.Test.YtoplmbboaobahaaDoorQ
import Derived.Test.YtoplmbboaobahaaDoorY
namespace Go.Proofs.YtoplmbboaobahaaDoor
open Go.RowKit
attribute [local go_sem] refold2 cell3_0 cell3_1 b28_0 b28_01 b28_012 b28_013 b28_014 b35_01 b35_0 b35 mkI69 x56 x57

/-- What is done with floats. -/
inductive FOp | add | sub | mul | quo
namespace FOp
def txt : FOp → ByteArray
  | add => ⟨#[43]⟩ | sub => ⟨#[45]⟩ | mul => ⟨#[42]⟩ | quo => ⟨#[47]⟩
def bop : FOp → BinOp
  | add => .add | sub => .sub | mul => .mul | quo => .quo
end FOp

/-- The bits that come out. -/
def fC (o : FOp) (x y : Nat) : Int := match floatBits o.bop .f64 x y with
  | some r => canon r
  | none => 9221120237041090561

theorem nan_cut (x y t : Nat) : isNan (Question.cut (.nanBits .f64 x y) t) = true ∧ Question.cut (.nanBits .f64 x y) t < 18446744073709551616 := by
  have e : Question.cut (.nanBits .f64 x y) t = (t % 2) * 9223372036854775808 + 9218868437227405312 + 1 + (t / 2) % 4503599627370495 := rfl
  rw [e]
  unfold isNan
  have h1 : t / 2 % 4503599627370495 < 4503599627370495 := Nat.mod_lt _ (by decide)
  have h2 : t % 2 < 2 := Nat.mod_lt _ (by decide)
  generalize t / 2 % 4503599627370495 = b at h1
  generalize t % 2 = a at h2
  refine ⟨decide_eq_true ?_, by omega⟩
  have h3 : a = 0 ∨ a = 1 := by omega
  rcases h3 with rfl | rfl <;> omega

theorem float_run (o : FOp) (t : TypeId) (x y : Nat) (w : World) : ∃ (r : Nat) (W : World), (binOp o.bop t (.float .f64 x) (.float .f64 y)).run Tryd.prog w = .ok (.float .f64 r) W ∧ (W = w ∨ W = w.drew) ∧ r < 18446744073709551616 ∧ canon r = fC o x y := by
  unfold fC
  cases h : floatBits o.bop .f64 x y with
  | some r =>
    refine ⟨r, w, run_float_arith w _ t .f64 x y r h, .inl rfl, ?_, rfl⟩
    have hw := floatBits_wf h
    simp [Lit.wf] at hw
    exact hw
  | none =>
    obtain ⟨h1, h2⟩ := nan_cut x y (w.tape w.drawn (.nanBits .f64 x y))
    refine ⟨_, w.drew, ?_, .inr rfl, h2, ?_⟩
    · unfold floatBits at h
      cases o <;> simp only [FOp.bop] at h ⊢ <;> simp [binOp, Op.floatArith, h, Question.forced]
    · unfold canon
      rw [Int.toNat_natCast, h1]
      rfl

theorem below_or {w W : World} (h : W = w ∨ W = w.drew) : Below w.heap.size w W := by
  rcases h with rfl | rfl
  · exact Below.refl _ _
  · exact (Below.refl _ _).drew

set_option maxRecDepth 100000 in
set_option maxHeartbeats 1000000 in
theorem ofFloats_any (o : FOp) (f g : Int) (w : World) :
    Calls Tryd.prog 43 #[.string o.txt, .int .u64 f, .int .u64 g] w fun r w' => ∃ v : Nat, r = .returned (.int .u64 v) ∧ v < 18446744073709551616 ∧ Hid (canon v = fC o f.toNat g.toNat) ∧ Below w.heap.size w w' := by
  obtain ⟨v, W, hrun, hW, hv, hc⟩ := float_run o 83 f.toNat g.toNat w
  have HC : Hid (canon v = fC o f.toNat g.toNat) := hc
  have HB : Hid (Below w.heap.size w W) := below_or hW
  clear hc hW
  cases o <;> simp only [FOp.txt, FOp.bop] at hrun ⊢
  all_goals
    go_enter Tryd.func43, Tryd.ntmps43
    go_wp2
    go_ret
    exact ⟨v, rfl, hv, HC, HB.out⟩

set_option maxRecDepth 100000 in
set_option maxHeartbeats 4000000 in
theorem binary_flt (o : FOp) (t : ByteArray) (a b f f' : Int) (s s' : ByteArray) (r0 r1 r2 r3 : Int) (p i : Value) (q0 q1 q2 q3 : Int) (p' i' : Value) (w : World) (ht : t.size ≤ 140737488351232) :
    Calls Tryd.prog 15 #[.string o.txt, D 3 t a f s r0 r1 r2 r3 p i, D 3 t b f' s' q0 q1 q2 q3 p' i'] w fun r w' => r = .returned (.tuple #[.agg #[.int .i64 3, .string t, .int .i64 0, .int .u64 (fC o f.toNat f'.toNat), .string ⟨#[]⟩, .int .i64 0, .int .i64 0, .int .i64 0, .int .i64 0, .slice none 0 0, .slice none 0 0], .nilIface]) ∧ Below w.heap.size w w' := by
  have HO : Hid (∀ W, Calls Tryd.prog 43 #[.string o.txt, .int .u64 f, .int .u64 f'] W fun r w' => ∃ v : Nat, r = .returned (.int .u64 v) ∧ v < 18446744073709551616 ∧ Hid (canon v = fC o f.toNat f'.toNat) ∧ Below W.heap.size W w') := fun W => ofFloats_any o f f' W
  have HF : Hid (∀ (v : Nat) W, v < 18446744073709551616 → Calls Tryd.prog 34 #[.string t, .int .u64 v] W fun r w' => r = .returned (dat 3 t 0 (canon v) ⟨#[]⟩) ∧ Below W.heap.size W w') := fun v W h => floatOf_any t _ W ht (by omega) (by omega)
  generalize fC o f.toNat f'.toNat = c at HO ⊢
  clear ht
  simp only [D]
  obtain ⟨W3, hW3⟩ : ∃ W3, W3 = ((w.alloc (.cells #[.int .i64 3, .string t, .int .i64 a, .int .u64 f, .string s, .int .i64 r0, .int .i64 r1, .int .i64 r2, .int .i64 r3, p, i] 28)).alloc (.cells #[.int .i64 3, .string t, .int .i64 b, .int .u64 f', .string s', .int .i64 q0, .int .i64 q1, .int .i64 q2, .int .i64 q3, p', i'] 28)).alloc (.cells #[.int .i64 0, .string ⟨#[]⟩, .int .i64 0, .int .u64 0, .string ⟨#[]⟩, .int .i64 0, .int .i64 0, .int .i64 0, .int .i64 0, .slice none 0 0, .slice none 0 0] 28) := ⟨_, rfl⟩
  have HK : Hid (∀ W, Below (w.heap.size + 1 + 1) W3 W → (W.cell? ⟨w.heap.size, 1, none⟩ = some (.string t) ∧ W.cell? ⟨w.heap.size, 3, none⟩ = some (.int .u64 f) ∧ W.cell? ⟨w.heap.size + 1, 3, none⟩ = some (.int .u64 f'))) := fun W hW => by
    rw [hW.cell (p := ⟨w.heap.size, 1, none⟩) (by simp; omega), hW.cell (p := ⟨w.heap.size, 3, none⟩) (by simp; omega), hW.cell (p := ⟨w.heap.size + 1, 3, none⟩) (by simp), hW3]
    exact ⟨cell3_0 _ _ _ _ _ 1, cell3_0 _ _ _ _ _ 3, cell3_1 _ _ _ _ _ 3⟩
  have hrow : Hid (W3.heap[w.heap.size + 1 + 1]? = some (.cells zeros 28 (0, 0))) := by rw [hW3]; exact heap3_2 _ _ _ _
  have hB3 : Below w.heap.size w W3 := by rw [hW3]; exact below3 _ _ _ _
  have hz3 : W3.heap.size = w.heap.size + 3 := by rw [hW3]; simp
  simp only [dat, D] at HF ⊢
  cases o <;> simp only [FOp.txt] at HO ⊢
  all_goals
    go_enter Tryd.func15, Tryd.ntmps15
    go_wp2_with fail
    rw [← hW3]
    clear hW3
    refine wp_region_noPanic ?_
    refine wp_region_held (S := fun W => W.cell? ⟨w.heap.size, 1, none⟩ = some (.string t) ∧ W.cell? ⟨w.heap.size, 3, none⟩ = some (.int .u64 f) ∧ W.cell? ⟨w.heap.size + 1, 3, none⟩ = some (.int .u64 f')) (by kernel_rfl) ?_
    obtain ⟨W4, hW4⟩ : ∃ W4, W4 = W3.drew := ⟨_, rfl⟩
    have e4 : ({ W3 with drawn := W3.drawn + 1 } : World) = W4 := hW4.symm
    rw [e4]
    have hB4 : Below (w.heap.size + 1 + 1 + 1) W3 W4 := by rw [hW4]; exact (Below.refl _ _).drew
    have hz4 : W4.heap.size = w.heap.size + 1 + 1 + 1 := by rw [hW4]; exact hz3
    have hS := HK.out W4 (hB4.mono (by omega))
    clear e4 hW4
    refine wpAnyH_take (i := 0) (v := .pointer (some ⟨w.heap.size, 1, none⟩)) rfl (by kernel_rfl) (by kernel_rfl) (by kernel_rfl) (fun _ _ _ h => h) (Or.inl ⟨by rfl, ?r⟩) hS ?_
    case r => intro W hW; simp [go_sem, execOp, Act.eval]
    simp only [List.getElem_toArray, List.getElem_cons_zero, Act.put, List.setIfInBounds_toArray, List.set_cons_succ, List.set_cons_zero]
    refine wpAnyH_take (i := 1) (v := .string t) rfl (by kernel_rfl) (by kernel_rfl) (by kernel_rfl) (fun _ _ _ h => h) (Or.inl ⟨by rfl, ?r⟩) hS ?_
    case r => intro W hW; obtain ⟨h1, _, _⟩ := hW; simp [go_sem, execOp, Act.eval, h1]
    simp only [List.getElem_toArray, List.getElem_cons_zero, List.getElem_cons_succ, Act.put, List.setIfInBounds_toArray, List.set_cons_succ, List.set_cons_zero]
    refine wpAnyH_take (i := 3) (v := .pointer (some ⟨w.heap.size, 3, none⟩)) rfl (by kernel_rfl) (by kernel_rfl) (by kernel_rfl) (fun _ _ _ h => h) (Or.inl ⟨by rfl, ?r⟩) hS ?_
    case r => intro W hW; simp [go_sem, execOp, Act.eval]
    simp only [List.getElem_toArray, List.getElem_cons_zero, List.getElem_cons_succ, Act.put, List.setIfInBounds_toArray, List.set_cons_succ, List.set_cons_zero]
    refine wpAnyH_take (i := 4) (v := .int .u64 f) rfl (by kernel_rfl) (by kernel_rfl) (by kernel_rfl) (fun _ _ _ h => h) (Or.inl ⟨by rfl, ?r⟩) hS ?_
    case r => intro W hW; obtain ⟨_, h2, _⟩ := hW; simp [go_sem, execOp, Act.eval, h2]
    simp only [List.getElem_toArray, List.getElem_cons_zero, List.getElem_cons_succ, Act.put, List.setIfInBounds_toArray, List.set_cons_succ, List.set_cons_zero]
    refine wpAnyH_take (i := 5) (v := .pointer (some ⟨w.heap.size + 1, 3, none⟩)) rfl (by kernel_rfl) (by kernel_rfl) (by kernel_rfl) (fun _ _ _ h => h) (Or.inl ⟨by rfl, ?r⟩) hS ?_
    case r => intro W hW; simp [go_sem, execOp, Act.eval]
    simp only [List.getElem_toArray, List.getElem_cons_zero, List.getElem_cons_succ, Act.put, List.setIfInBounds_toArray, List.set_cons_succ, List.set_cons_zero]
    refine wpAnyH_take (i := 6) (v := .int .u64 f') rfl (by kernel_rfl) (by kernel_rfl) (by kernel_rfl) (fun _ _ _ h => h) (Or.inl ⟨by rfl, ?r⟩) hS ?_
    case r => intro W hW; obtain ⟨_, _, h3⟩ := hW; simp [go_sem, execOp, Act.eval, h3]
    simp only [List.getElem_toArray, List.getElem_cons_zero, List.getElem_cons_succ, Act.put, List.setIfInBounds_toArray, List.set_cons_succ, List.set_cons_zero]
    refine wpAnyH_all (rs := [2]) (by kernel_rfl) (by simp) (fun i0 hi0 => ?_)
    obtain rfl : i0 = 2 := by simpa using hi0
    clear hi0
    refine wpOp_step rfl (fun K hK => ite_yes rfl ?_)
    simp only [List.getElem_toArray, List.getElem_cons_zero, List.getElem_cons_succ]
    go_simp
    refine hK _ _ ⟨hS, ?_⟩
    clear hK K
    refine wpAnyH_all (rs := [7]) (by kernel_rfl) (by simp) (fun i0 hi0 => ?_)
    obtain rfl : i0 = 7 := by simpa using hi0
    clear hi0
    refine wpOp_step rfl (fun K hK => ite_yes rfl ?_)
    simp only [List.getElem_toArray, List.getElem_cons_zero, List.getElem_cons_succ]
    go_simp
    refine (HO.out _).mono ?_
    rintro e w1 ⟨v, rfl, hv, HC, hb1⟩
    go_simp
    refine hK _ _ ⟨HK.out _ (hB4.trans (hb1.mono (by omega)) |>.mono (by omega)), ?_⟩
    clear hK K
    refine wpAnyH_all (rs := [8]) (by kernel_rfl) (by simp) (fun i0 hi0 => ?_)
    obtain rfl : i0 = 8 := by simpa using hi0
    clear hi0
    refine wpOp_step rfl (fun K hK => ite_yes rfl ?_)
    simp only [List.getElem_toArray, List.getElem_cons_zero, List.getElem_cons_succ]
    go_simp
    refine (HF.out v _ hv).mono ?_
    rintro e w2 ⟨rfl, hb2⟩
    have hb := hb1.trans (hb2.mono hb1.size)
    rw [HC.out]
    go_simp
    refine hK _ _ ⟨HK.out _ (hB4.trans (hb.mono (by omega)) |>.mono (by omega)), ?_⟩
    clear hK K
    refine wpAnyH_all (rs := [9]) (by kernel_rfl) (by simp) (fun i0 hi0 => ?_)
    obtain rfl : i0 = 9 := by simpa using hi0
    clear hi0
    refine wpOp_step rfl (fun K hK => ite_yes rfl ?_)
    simp only [List.getElem_toArray, List.getElem_cons_zero, List.getElem_cons_succ]
    refine wp_store_row 28 _ _ rfl (w.heap.size + 1 + 1) _ rfl rfl 28 zeros ((hb.block _ (by omega)).trans ((hB4.block _ (by omega)).trans hrow.out)) info28 rfl (by simp [Value.oneCell']) ?_
    refine hK _ _ ⟨HK.out _ (brow ((hB4.trans (hb.mono (by omega))).mono (by omega)) (Nat.le_refl _) _), ?_⟩
    clear hK K
    simp only [Act.put]
    refine wpAnyH_take (i := 10) (v := .nilIface) rfl (by kernel_rfl) (by kernel_rfl) (by kernel_rfl) (fun _ _ _ h => h) (Or.inl ⟨by rfl, ?r⟩) (HK.out _ (brow ((hB4.trans (hb.mono (by omega))).mono (by omega)) (Nat.le_refl _) _)) ?_
    case r => intro W hW; simp [go_sem, execOp, Act.eval]
    refine wpAnyH_done (by kernel_rfl) ?_ _
    refine NoPanic.normal ?_
    simp only [List.getElem_toArray, List.getElem_cons_zero, List.getElem_cons_succ, Act.put, List.setIfInBounds_toArray, List.set_cons_succ, List.set_cons_zero]
    go_wp2_with fail
    have hr3 := (hb.block (w.heap.size + 1 + 1) (by omega)).trans ((hB4.block (w.heap.size + 1 + 1) (by omega)).trans hrow.out)
    refine bodyPost_ret (v := .tuple #[.agg #[.int .i64 3, .string t, .int .i64 0, .int .u64 c, .string ⟨#[]⟩, .int .i64 0, .int .i64 0, .int .i64 0, .int .i64 0, .slice none 0 0, .slice none 0 0], .nilIface]) (by simp [results, Tryd.results15, go_sem, row_cell hr3]) rfl ⟨rfl, ?_⟩
    exact brow ((hB3.trans (hB4.mono (by omega))).trans (hb.mono (by omega))) (by omega) _

end Go.Proofs.YtoplmbboaobahaaDoor
