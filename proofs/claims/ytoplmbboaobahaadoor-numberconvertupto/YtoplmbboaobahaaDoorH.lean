/-
  The walks of Unary at ints, of Convert to an int's other type, of Cut and Float at the chapter's examples, and of told.
-/
import Derived.Test.YtoplmbboaobahaaDoorG
import Derived.Test.YtoplmbboaobahaaDoorC
import Derived.BigRegion
namespace Go.Proofs.YtoplmbboaobahaaDoor
open Go.RowKit

theorem refold1 (w : World) (o : Obj) : ({ heap := w.heap.push o, tape := w.tape, drawn := w.drawn, os := w.os, output := w.output } : World) = w.alloc o := rfl

attribute [local go_sem] refold2 b28_0 b28_01 b28_012 b28_013 b28_014 b35_01 b35_0 b35 mkI69 x56 x57

/-- What Unary's two operations do with an int. -/
def UnV : Bool → Int → Int
  | true, a => wr (-a)
  | false, a => bits BinOp.xor .i64 (-1) a
def UnT : Bool → ByteArray
  | true => ⟨#[45]⟩
  | false => ⟨#[94]⟩

theorem turned_any (g : Bool) (a : Int) (w : World) : Calls Tryd.prog 36 #[.string (UnT g), .int .i64 a] w fun r w' => r = .returned (.int .i64 (UnV g a)) ∧ w' = w := by
  cases g
  · exact turned_xor a w
  · exact turned_neg a w

theorem heap2_1 (w : World) (o1 o2 : Obj) : ((w.alloc o1).alloc o2).heap[w.heap.size + 1]? = some o2 := by
  rw [show w.heap.size + 1 = (w.alloc o1).heap.size by simp]; exact heap_alloc_new _ _

set_option maxRecDepth 100000 in
set_option maxHeartbeats 4000000 in
theorem unary_int (g : Bool) (t : ByteArray) (a f : Int) (s : ByteArray) (r0 r1 r2 r3 : Int) (p i : Value) (w : World) (ht : t.size ≤ 140737488351232) :
    Calls Tryd.prog 10 #[.string (UnT g), D 2 t a f s r0 r1 r2 r3 p i] w fun r w' => r = .returned (.tuple #[dat 2 t (UnV g a) 0 ⟨#[]⟩, .nilIface]) ∧ Below w.heap.size w w' := by
  simp only [D]
  have HC : Hid (∀ W, Calls Tryd.prog 36 #[.string (UnT g), .int .i64 a] W fun r w' => r = .returned (.int .i64 (UnV g a)) ∧ w' = W) := fun W => turned_any g a W
  obtain ⟨c, hc⟩ : ∃ c, c = UnV g a := ⟨_, rfl⟩
  rw [← hc] at HC ⊢
  have HI : Hid (∀ W, Calls Tryd.prog 35 #[.string t, .int .i64 c] W fun r w' => r = .returned (dat 2 t c 0 ⟨#[]⟩) ∧ Below W.heap.size W w') := fun W => intOf_any t c W ht
  clear hc
  obtain ⟨W3, hW3⟩ : ∃ W3, W3 = (w.alloc (.cells #[.int .i64 2, .string t, .int .i64 a, .int .u64 f, .string s, .int .i64 r0, .int .i64 r1, .int .i64 r2, .int .i64 r3, p, i] 28)).alloc (.cells #[.int .i64 0, .string ⟨#[]⟩, .int .i64 0, .int .u64 0, .string ⟨#[]⟩, .int .i64 0, .int .i64 0, .int .i64 0, .int .i64 0, .slice none 0 0, .slice none 0 0] 28) := ⟨_, rfl⟩
  have HK : Hid (∀ W, Below (w.heap.size + 1) W3 W → (W.cell? ⟨w.heap.size, 1, none⟩ = some (.string t) ∧ W.cell? ⟨w.heap.size, 2, none⟩ = some (.int .i64 a))) := fun W hW => by
    rw [hW.cell (p := ⟨w.heap.size, 1, none⟩) (by simp), hW.cell (p := ⟨w.heap.size, 2, none⟩) (by simp), hW3]
    exact ⟨by simp [go_sem], by simp [go_sem]⟩
  have hrow : Hid (W3.heap[w.heap.size + 1]? = some (.cells zeros 28 (0, 0))) := by rw [hW3]; exact heap2_1 _ _ _
  have hB3 : Below w.heap.size w W3 := by rw [hW3]; exact below2 _ _ _
  have hz3 : W3.heap.size = w.heap.size + 1 + 1 := by rw [hW3]; simp
  simp only [dat, D] at HI ⊢
  cases g <;> simp only [UnT] at HC ⊢
  all_goals
    go_enter Tryd.func10, Tryd.ntmps10
    go_wp2_with fail
    rw [← hW3]
    clear hW3
    refine wp_region_noPanic ?_
    refine wp_region_held (S := fun W => W.cell? ⟨w.heap.size, 1, none⟩ = some (.string t) ∧ W.cell? ⟨w.heap.size, 2, none⟩ = some (.int .i64 a)) (by kernel_rfl) ?_
    obtain ⟨W4, hW4⟩ : ∃ W4, W4 = W3.drew := ⟨_, rfl⟩
    have e4 : ({ W3 with drawn := W3.drawn + 1 } : World) = W4 := hW4.symm
    rw [e4]
    have hB4 : Below (w.heap.size + 1 + 1) W3 W4 := by rw [hW4]; exact (Below.refl _ _).drew
    have hz4 : W4.heap.size = w.heap.size + 1 + 1 := by rw [hW4]; exact hz3
    have hS := HK.out W4 (hB4.mono (by omega))
    clear e4 hW4
    refine wpAnyH_take (i := 0) (v := .pointer (some ⟨w.heap.size, 1, none⟩)) rfl (by kernel_rfl) (by kernel_rfl) (by kernel_rfl) (fun _ _ _ h => h) (Or.inl ⟨by rfl, ?r⟩) hS ?_
    case r => intro W hW; simp [go_sem, execOp, Act.eval]
    simp only [List.getElem_toArray, List.getElem_cons_zero, Act.put, List.setIfInBounds_toArray, List.set_cons_succ, List.set_cons_zero]
    refine wpAnyH_take (i := 1) (v := .string t) rfl (by kernel_rfl) (by kernel_rfl) (by kernel_rfl) (fun _ _ _ h => h) (Or.inl ⟨by rfl, ?r⟩) hS ?_
    case r => intro W hW; obtain ⟨h1, _⟩ := hW; simp [go_sem, execOp, Act.eval, h1]
    simp only [List.getElem_toArray, List.getElem_cons_zero, List.getElem_cons_succ, Act.put, List.setIfInBounds_toArray, List.set_cons_succ, List.set_cons_zero]
    refine wpAnyH_take (i := 3) (v := .pointer (some ⟨w.heap.size, 2, none⟩)) rfl (by kernel_rfl) (by kernel_rfl) (by kernel_rfl) (fun _ _ _ h => h) (Or.inl ⟨by rfl, ?r⟩) hS ?_
    case r => intro W hW; simp [go_sem, execOp, Act.eval]
    simp only [List.getElem_toArray, List.getElem_cons_zero, List.getElem_cons_succ, Act.put, List.setIfInBounds_toArray, List.set_cons_succ, List.set_cons_zero]
    refine wpAnyH_take (i := 4) (v := .int .i64 a) rfl (by kernel_rfl) (by kernel_rfl) (by kernel_rfl) (fun _ _ _ h => h) (Or.inl ⟨by rfl, ?r⟩) hS ?_
    case r => intro W hW; obtain ⟨_, h2⟩ := hW; simp [go_sem, execOp, Act.eval, h2]
    simp only [List.getElem_toArray, List.getElem_cons_zero, List.getElem_cons_succ, Act.put, List.setIfInBounds_toArray, List.set_cons_succ, List.set_cons_zero]
    refine wpAnyH_all (rs := [2]) (by kernel_rfl) (by simp) (fun i0 hi0 => ?_)
    obtain rfl : i0 = 2 := by simpa using hi0
    clear hi0
    refine wpOp_step rfl (fun K hK => ite_yes rfl ?_)
    simp only [List.getElem_toArray, List.getElem_cons_zero, List.getElem_cons_succ]
    go_simp
    refine hK _ _ ⟨hS, ?_⟩
    clear hK K
    refine wpAnyH_all (rs := [5]) (by kernel_rfl) (by simp) (fun i0 hi0 => ?_)
    obtain rfl : i0 = 5 := by simpa using hi0
    clear hi0
    refine wpOp_step rfl (fun K hK => ite_yes rfl ?_)
    simp only [List.getElem_toArray, List.getElem_cons_zero, List.getElem_cons_succ]
    go_simp
    refine (HC.out _).mono ?_
    rintro e w1 ⟨rfl, rfl⟩
    go_simp
    refine hK _ _ ⟨hS, ?_⟩
    clear hK K
    refine wpAnyH_all (rs := [6]) (by kernel_rfl) (by simp) (fun i0 hi0 => ?_)
    obtain rfl : i0 = 6 := by simpa using hi0
    clear hi0
    refine wpOp_step rfl (fun K hK => ite_yes rfl ?_)
    simp only [List.getElem_toArray, List.getElem_cons_zero, List.getElem_cons_succ]
    go_simp
    refine (HI.out _).mono ?_
    rintro e w2 ⟨rfl, hb⟩
    go_simp
    refine hK _ _ ⟨HK.out _ (hB4.trans (hb.mono (by omega)) |>.mono (by omega)), ?_⟩
    clear hK K
    refine wpAnyH_all (rs := [7]) (by kernel_rfl) (by simp) (fun i0 hi0 => ?_)
    obtain rfl : i0 = 7 := by simpa using hi0
    clear hi0
    refine wpOp_step rfl (fun K hK => ite_yes rfl ?_)
    simp only [List.getElem_toArray, List.getElem_cons_zero, List.getElem_cons_succ]
    refine wp_store_row 28 _ _ rfl (w.heap.size + 1) _ rfl rfl 28 zeros ((hb.block _ (by omega)).trans ((hB4.block _ (by omega)).trans hrow.out)) info28 rfl (by simp [Value.oneCell']) ?_
    refine hK _ _ ⟨HK.out _ (brow ((hB4.trans (hb.mono (by omega))).mono (by omega)) (Nat.le_refl _) _), ?_⟩
    clear hK K
    simp only [Act.put]
    refine wpAnyH_take (i := 8) (v := .nilIface) rfl (by kernel_rfl) (by kernel_rfl) (by kernel_rfl) (fun _ _ _ h => h) (Or.inl ⟨by rfl, ?r⟩) (HK.out _ (brow ((hB4.trans (hb.mono (by omega))).mono (by omega)) (Nat.le_refl _) _)) ?_
    case r => intro W hW; simp [go_sem, execOp, Act.eval]
    refine wpAnyH_done (by kernel_rfl) ?_ _
    refine NoPanic.normal ?_
    simp only [List.getElem_toArray, List.getElem_cons_zero, List.getElem_cons_succ, Act.put, List.setIfInBounds_toArray, List.set_cons_succ, List.set_cons_zero]
    go_wp2_with fail
    have hr3 := (hb.block (w.heap.size + 1) (by omega)).trans ((hB4.block (w.heap.size + 1) (by omega)).trans hrow.out)
    refine bodyPost_ret (v := .tuple #[.agg #[.int .i64 2, .string t, .int .i64 c, .int .u64 0, .string ⟨#[]⟩, .int .i64 0, .int .i64 0, .int .i64 0, .int .i64 0, .slice none 0 0, .slice none 0 0], .nilIface]) (by simp [results, Tryd.results10, go_sem, row_cell hr3]) rfl ⟨rfl, ?_⟩
    exact brow ((hB3.trans (hB4.mono (by omega))).trans (hb.mono (by omega))) (by omega) _

set_option maxRecDepth 100000 in
set_option maxHeartbeats 1000000 in
theorem renamed_int (u : ByteArray) (t : ByteArray) (a f : Int) (s : ByteArray) (r0 r1 r2 r3 : Int) (p i : Value) (w : World) (hu : u.size ≤ 140737488351232) :
    Calls Tryd.prog 54 #[.string u, D 2 t a f s r0 r1 r2 r3 p i] w fun r w' => r = .returned (dat 2 u a 0 ⟨#[]⟩) ∧ Below w.heap.size w w' := by
  simp only [D]
  go_enter Tryd.func54, Tryd.ntmps54
  go_wp2_with (go_at_call 35; refine (intOf_any _ _ _ hu).mono ?_; simp only [dat, D]; rintro r w' ⟨rfl, hb⟩; obtain ⟨⟨c0, c1, c2, c3, c4, c5, c6, c7, c8, c9, c10⟩, hf2⟩ := box_kept ((hb.block (w.heap.size + 1) (by simp)).trans (heap2_1 _ _ _)))
  refine bodyPost_ret (v := dat 2 u a 0 ⟨#[]⟩) (by simp [results, Tryd.results54, go_sem, c0, c1, c2, c3, c4, c5, c6, c7, c8, c9, c10, dat, D]) rfl ⟨rfl, ?_⟩
  exact bset ((below2 w _ _).trans (hb.mono (by simp; omega))) (by omega) _ _ _ _ _ _ _ _ _ _ _

set_option maxRecDepth 100000 in
set_option maxHeartbeats 1000000 in
theorem convert_int (u : ByteArray) (t : ByteArray) (a f : Int) (s : ByteArray) (r0 r1 r2 r3 : Int) (p i : Value) (w : World) (hu : u.size ≤ 140737488351232) :
    Calls Tryd.prog 18 #[.int .i64 2, .string u, D 2 t a f s r0 r1 r2 r3 p i] w fun r w' => r = .returned (.tuple #[dat 2 u a 0 ⟨#[]⟩, .nilIface]) ∧ Below w.heap.size w w' := by
  have HR : Hid (∀ W, Calls Tryd.prog 54 #[.string u, D 2 t a f s r0 r1 r2 r3 p i] W fun r w' => r = .returned (dat 2 u a 0 ⟨#[]⟩) ∧ Below W.heap.size W w') := fun W => renamed_int u t a f s r0 r1 r2 r3 p i W hu
  clear hu
  simp only [dat, D] at HR ⊢
  go_enter Tryd.func18, Tryd.ntmps18
  go_wp2_with (go_at_call 54; refine (HR.out _).mono ?_; rintro r w' ⟨rfl, hb⟩; obtain ⟨⟨c0, c1, c2, c3, c4, c5, c6, c7, c8, c9, c10⟩, hf2⟩ := box_kept ((hb.block (w.heap.size + 1) (by simp)).trans (heap2_1 _ _ _)))
  refine bodyPost_ret (v := .tuple #[dat 2 u a 0 ⟨#[]⟩, .nilIface]) (by simp [results, Tryd.results18, go_sem, c0, c1, c2, c3, c4, c5, c6, c7, c8, c9, c10, dat, D]) rfl ⟨rfl, ?_⟩
  exact bset ((below2 w _ _).trans (hb.mono (by simp; omega))) (by omega) _ _ _ _ _ _ _ _ _ _ _

theorem x107 (W : World) : (callFunc 107 #[.string ⟨#[49, 46, 53]⟩, .int .u8 46]).run Tryd.prog W = .ok (.value (.int .i64 1)) W :=
  (@run_callFunc_extern Tryd.prog 107 _ Extern.BytealgIndexByte.indexByte Tryd.func107 (by kernel_rfl) (by kernel_rfl) (by kernel_rfl) (by kernel_rfl) _ W).trans rfl

theorem byte46 (h : 0 < (⟨#[46]⟩ : ByteArray).size) : ((⟨#[46]⟩ : ByteArray)[0]'h).toNat = 46 := rfl

set_option maxRecDepth 100000 in
set_option maxHeartbeats 1000000 in
theorem cut1_x (w : World) : Calls Tryd.prog 78 #[.string ⟨#[49, 46, 53]⟩, .string ⟨#[46]⟩] w fun r w' => r = .returned (.tuple #[.string ⟨#[49]⟩, .string ⟨#[53]⟩, .bool true]) ∧ Below w.heap.size w w' := by
  have h107 := x107
  have hby := byte46
  go_enter Tryd.func78, Tryd.ntmps78
  go_wp2
  go_region
  go_wp2
  refine bodyPost_ret (v := .tuple #[.string ⟨#[49]⟩, .string ⟨#[53]⟩, .bool true]) (by simp [results, Tryd.results78, go_sem]; exact ⟨rfl, rfl⟩) rfl ⟨rfl, ?_⟩
  exact (Below.refl _ _).drew

theorem cut_x (w : World) : Calls Tryd.prog 61 #[.string ⟨#[49, 46, 53]⟩, .string ⟨#[46]⟩] w fun r w' => r = .returned (.tuple #[.string ⟨#[49]⟩, .string ⟨#[53]⟩, .bool true]) ∧ Below w.heap.size w w' := by
  go_enter Tryd.func61, Tryd.ntmps61
  go_wp2_with (go_at_call 78; refine (cut1_x _).mono ?_; rintro r w' ⟨rfl, hb⟩)
  refine bodyPost_ret (v := .tuple #[.string ⟨#[49]⟩, .string ⟨#[53]⟩, .bool true]) (by simp [results, Tryd.results61, go_sem]) rfl ⟨rfl, hb⟩
end Go.Proofs.YtoplmbboaobahaaDoor
