/-
  A call begins that hides another one: trace.begin.
-/
import Derived.Test.YtapakbibofnhkaaDoorO
namespace Go.Proofs.YtapakbibofnhkaaDoor
open Go.RowKit Go.ChangeMaps
attribute [local go_sem] b66 b69

set_option maxRecDepth 100000 in
set_option maxHeartbeats 4000000 in
theorem begin_some (B cb M : Nat) (ap op : Option Addr) (ac oc : Nat) (all : List Cl) (opn : List Nat) (f : Mk → Option Nat) (ek a : Int) (t : ByteArray) (w : World) (h : CAt B cb M (.slice ap all.length ac) (.slice op opn.length oc) all opn f w) (n0 : Nat) (hf : f (a, t) = some n0) (hla : all.length ≤ 1048576) (hlo : opn.length ≤ 1048576) (hB : B ≤ w.heap.size) :
    Calls Tryd.prog 23 #[.pointer (some ⟨cb, 0, none⟩), .agg #[.int .i64 ek, .int .i64 a, .string t]] w fun r w' => r = .returned (.tuple #[]) ∧ ∃ av' ov', CAt B cb M av' ov' (all ++ [(⟨a, t, opn.length + 1, false, (n0 : Int)⟩ : Cl)]) (opn ++ [all.length]) (fun x => if keq x (a, t) then some all.length else f x) w' ∧ KS (cS cb M (.slice ap all.length ac) (.slice op opn.length oc)) w w' ∧ ∀ b, cS cb M av' ov' b → cS cb M (.slice ap all.length ac) (.slice op opn.length oc) b ∨ w.heap.size ≤ b := by
  obtain ⟨i0, hi0, hz0, hz1, hz2⟩ := info_parts info3
  obtain ⟨i1, hi1, hy0, hy1, hy2⟩ := info_parts info69
  have h0 : Hid _ := h
  have hf0 : Hid (f (a, t) = some n0) := hf
  have hcs := heap_lt h.box
  clear h hf
  go_enter Tryd.func23, Tryd.ntmps23
  go_wp2_with fail
  rename_i K1 hK1
  obtain ⟨U, hU⟩ : ∃ W, W = w.alloc (.cells #[.int .i64 ek, .int .i64 a, .string t] 33) := ⟨_, rfl⟩
  rw [← hU]
  have u0 : Below w.heap.size w U := by rw [hU]; exact below1 w _
  have e0 : U.heap[w.heap.size]? = some (.cells #[.int .i64 ek, .int .i64 a, .string t] 33) := by rw [hU]; exact heap_alloc_new _ _
  have C0 : CAt B cb M (.slice ap all.length ac) (.slice op opn.length oc) all opn f U := h0.out.below u0
  have y0 := heap_lt e0
  clear hU
  have tail : ∀ (nb : Nat) (Y : World), Below w.heap.size w Y → CAt B cb M (.slice ap all.length ac) (.slice op opn.length oc) all opn f Y → w.heap.size ≤ nb → Y.heap[nb]? = some (.cells #[.int .i64 a, .string t, .int .i64 ((opn.length : Int) + 1), .bool false, .int .i64 (-1)] 69) → K1 ⟨#[.pointer (some ⟨cb, 0, none⟩), .agg #[.int .i64 ek, .int .i64 a, .string t], undef, .pointer (some ⟨w.heap.size, 0, none⟩), .pointer (some ⟨nb, 0, none⟩), undef, undef, .agg #[.int .i64 ek, .int .i64 a, .string t], .agg #[.int .i64 a, .string t], .pointer (some ⟨cb, 0, none⟩), .pointer (some ⟨cb, 0, none⟩), .pointer (some ⟨cb, 1, none⟩), .slice op opn.length oc, .int .i64 (opn.length : Int), .int .i64 ((opn.length : Int) + 1), .agg #[.int .i64 a, .string t, .int .i64 ((opn.length : Int) + 1), .bool false, .int .i64 (-1)], undef, undef, undef, undef, undef, undef, undef, undef, undef, undef, undef, undef, undef, undef, undef, undef, undef, undef, undef, undef, undef, undef, undef, undef, undef, undef, undef, undef, undef, undef, undef, undef, undef, undef, undef, undef, undef, undef, undef, undef, undef, undef, undef, undef, undef, undef, undef, undef], []⟩ Y := by
    clear u0 e0 C0 y0
    intro nb Y y0 cY hnb oY
    refine hK1 _ _ ?_
    clear hK1 K1
    go_wp2_with fail
    have hl : ∀ q, (Instr.lookup 49 (.map (some M)) (.agg #[.int .i64 a, .string t]) true).run Tryd.prog (Y.drewN q) = .ok (.tuple #[.int .i64 (n0 : Int), .bool true]) (Y.drewN q) := fun q => by
      have := look_map (cY.map.kept (W' := Y.drewN q) rfl) (a, t)
      rw [hf0.out] at this
      exact this
    have cc := (cells_of cY.box).1
    have co := (cells_of oY).1
    go_quiet (fail)
    obtain ⟨Y2, hY2⟩ : ∃ W, W = Y.drewN nq := ⟨_, rfl⟩
    rw [← hY2]
    have y2 : Below w.heap.size w Y2 := by rw [hY2]; exact below_drewN y0 _
    have C2 : CAt B cb M (.slice ap all.length ac) (.slice op opn.length oc) all opn f Y2 := cY.below (by rw [hY2]; exact below_drewN (Below.refl _ _) _)
    have o2 : Y2.heap[nb]? = some (.cells #[.int .i64 a, .string t, .int .i64 ((opn.length : Int) + 1), .bool false, .int .i64 (-1)] 69) := by rw [hY2]; exact oY
    clear hY2 hl cc co cY oY y0
    have co2 := (cells_of o2).1
    have cf2 := (cells_of o2).2
    go_wp2_with fail
    obtain ⟨Y3, hY3⟩ : ∃ W, W = Y2.setCell ⟨nb, 4, none⟩ (.int .i64 (n0 : Int)) := ⟨_, rfl⟩
    rw [← hY3]
    have kn : KS (· = nb) Y2 Y3 := by rw [hY3]; exact KS.set _ _ _ _ _ rfl
    have C3 : CAt B cb M (.slice ap all.length ac) (.slice op opn.length oc) all opn f Y3 := C2.ks kn (fun b hb q => by have := h0.out.S_lt b hb; omega)
    have o3 : Y3.heap[nb]? = some (.cells #[.int .i64 a, .string t, .int .i64 ((opn.length : Int) + 1), .bool false, .int .i64 (n0 : Int)] 69) := by rw [hY3]; exact heap_set o2 4 _
    have k3 : KS (cS cb M (.slice ap all.length ac) (.slice op opn.length oc)) w Y3 := (KS.of y2).trans kn (fun b hb q => by omega)
    clear hY3 kn
    clear co2 cf2
    refine wp_region_noPanic ?_
    refine wp_region_held (S := fun W => (∀ j, W.cell? ⟨cb, j, none⟩ = (#[.slice ap all.length ac, .slice op opn.length oc, .map (some M)] : Array Value)[j]?) ∧ (∀ j, W.cell? ⟨nb, j, none⟩ = (#[.int .i64 a, .string t, .int .i64 ((opn.length : Int) + 1), .bool false, .int .i64 (n0 : Int)] : Array Value)[j]?)) (by kernel_rfl) ?_
    obtain ⟨W5, hW5⟩ : ∃ W4, W4 = (Y3).drew := ⟨_, rfl⟩
    have e4 : ({ Y3 with drawn := (Y3).drawn + 1 } : World) = W5 := hW5.symm
    rw [e4]
    have hB4 : Below (Y3).heap.size (Y3) W5 := by rw [hW5]; exact (Below.refl _ _).drew
    have hS : (∀ j, W5.cell? ⟨cb, j, none⟩ = (#[.slice ap all.length ac, .slice op opn.length oc, .map (some M)] : Array Value)[j]?) ∧ (∀ j, W5.cell? ⟨nb, j, none⟩ = (#[.int .i64 a, .string t, .int .i64 ((opn.length : Int) + 1), .bool false, .int .i64 (n0 : Int)] : Array Value)[j]?) := ⟨(cells_of ((hB4.block _ (heap_lt C3.box)).trans C3.box)).1, (cells_of ((hB4.block _ (heap_lt o3)).trans o3)).1⟩
    have HW5 : Hid (W5 = (Y3).drew) := hW5
    clear e4 hW5
    refine wpAnyH_take (i := 0) (v := .pointer (some ⟨cb, 0, none⟩)) rfl (by kernel_rfl) (by kernel_rfl) (by kernel_rfl) (fun _ _ _ h => h) (Or.inl ⟨by rfl, ?r⟩) hS ?_
    case r => intro W hW; simp [go_sem, execOp, Act.eval]
    simp only [List.getElem_toArray, List.getElem_cons_zero, Act.put, List.setIfInBounds_toArray, List.set_cons_succ, List.set_cons_zero]
    refine wpAnyH_take (i := 1) (v := .pointer (some ⟨cb, 0, none⟩)) rfl (by kernel_rfl) (by kernel_rfl) (by kernel_rfl) (fun _ _ _ h => h) (Or.inl ⟨by rfl, ?r⟩) hS ?_
    case r => intro W hW; simp [go_sem, execOp, Act.eval]
    simp only [List.getElem_toArray, List.getElem_cons_zero, List.getElem_cons_succ, Act.put, List.setIfInBounds_toArray, List.set_cons_succ, List.set_cons_zero]
    refine wpAnyH_take (i := 2) (v := .pointer (some ⟨cb, 2, none⟩)) rfl (by kernel_rfl) (by kernel_rfl) (by kernel_rfl) (fun _ _ _ h => h) (Or.inl ⟨by rfl, ?r⟩) hS ?_
    case r => intro W hW; simp [go_sem, execOp, Act.eval]
    simp only [List.getElem_toArray, List.getElem_cons_zero, List.getElem_cons_succ, Act.put, List.setIfInBounds_toArray, List.set_cons_succ, List.set_cons_zero]
    refine wpAnyH_take (i := 3) (v := .map (some M)) rfl (by kernel_rfl) (by kernel_rfl) (by kernel_rfl) (fun _ _ _ h => h) (Or.inl ⟨by rfl, ?r⟩) hS ?_
    case r => intro W hW; simp [go_sem, execOp, Act.eval, hW.1]
    simp only [List.getElem_toArray, List.getElem_cons_zero, List.getElem_cons_succ, Act.put, List.setIfInBounds_toArray, List.set_cons_succ, List.set_cons_zero]
    refine wpAnyH_take (i := 4) (v := .pointer (some ⟨nb, 0, none⟩)) rfl (by kernel_rfl) (by kernel_rfl) (by kernel_rfl) (fun _ _ _ h => h) (Or.inl ⟨by rfl, ?r⟩) hS ?_
    case r => intro W hW; simp [go_sem, execOp, Act.eval]
    simp only [List.getElem_toArray, List.getElem_cons_zero, List.getElem_cons_succ, Act.put, List.setIfInBounds_toArray, List.set_cons_succ, List.set_cons_zero]
    refine wpAnyH_take (i := 5) (v := .agg #[.int .i64 a, .string t]) rfl (by kernel_rfl) (by kernel_rfl) (by kernel_rfl) (fun _ _ _ h => h) (Or.inl ⟨by rfl, ?r⟩) hS ?_
    case r => intro W hW; simp [go_sem, execOp, Act.eval, hW.2]
    simp only [List.getElem_toArray, List.getElem_cons_zero, List.getElem_cons_succ, Act.put, List.setIfInBounds_toArray, List.set_cons_succ, List.set_cons_zero]
    refine wpAnyH_take (i := 6) (v := .pointer (some ⟨cb, 0, none⟩)) rfl (by kernel_rfl) (by kernel_rfl) (by kernel_rfl) (fun _ _ _ h => h) (Or.inl ⟨by rfl, ?r⟩) hS ?_
    case r => intro W hW; simp [go_sem, execOp, Act.eval]
    simp only [List.getElem_toArray, List.getElem_cons_zero, List.getElem_cons_succ, Act.put, List.setIfInBounds_toArray, List.set_cons_succ, List.set_cons_zero]
    refine wpAnyH_take (i := 7) (v := .pointer (some ⟨cb, 0, none⟩)) rfl (by kernel_rfl) (by kernel_rfl) (by kernel_rfl) (fun _ _ _ h => h) (Or.inl ⟨by rfl, ?r⟩) hS ?_
    case r => intro W hW; simp [go_sem, execOp, Act.eval]
    simp only [List.getElem_toArray, List.getElem_cons_zero, List.getElem_cons_succ, Act.put, List.setIfInBounds_toArray, List.set_cons_succ, List.set_cons_zero]
    refine wpAnyH_take (i := 8) (v := .pointer (some ⟨cb, 0, none⟩)) rfl (by kernel_rfl) (by kernel_rfl) (by kernel_rfl) (fun _ _ _ h => h) (Or.inl ⟨by rfl, ?r⟩) hS ?_
    case r => intro W hW; simp [go_sem, execOp, Act.eval]
    simp only [List.getElem_toArray, List.getElem_cons_zero, List.getElem_cons_succ, Act.put, List.setIfInBounds_toArray, List.set_cons_succ, List.set_cons_zero]
    refine wpAnyH_take (i := 9) (v := .slice ap all.length ac) rfl (by kernel_rfl) (by kernel_rfl) (by kernel_rfl) (fun _ _ _ h => h) (Or.inl ⟨by rfl, ?r⟩) hS ?_
    case r => intro W hW; simp [go_sem, execOp, Act.eval, hW.1]
    simp only [List.getElem_toArray, List.getElem_cons_zero, List.getElem_cons_succ, Act.put, List.setIfInBounds_toArray, List.set_cons_succ, List.set_cons_zero]
    refine wpAnyH_take (i := 10) (v := .int .i64 (all.length : Int)) rfl (by kernel_rfl) (by kernel_rfl) (by kernel_rfl) (fun _ _ _ h => h) (Or.inl ⟨by rfl, ?r⟩) hS ?_
    case r => intro W hW; simp [go_sem, execOp, Act.eval]
    simp only [List.getElem_toArray, List.getElem_cons_zero, List.getElem_cons_succ, Act.put, List.setIfInBounds_toArray, List.set_cons_succ, List.set_cons_zero]
    have C4 := C3.below hB4
    have o4 := (hB4.block _ (heap_lt o3)).trans o3
    have k4 : KS (cS cb M (.slice ap all.length ac) (.slice op opn.length oc)) w W5 := k3.trans (KS.of (S := cS cb M (.slice ap all.length ac) (.slice op opn.length oc)) hB4) (fun _ _ q => q)
    obtain ⟨ob, hrun, hM5⟩ := upd_map C4.map (a, t) all.length
    clear hB4 HW5
    refine wpAnyH_all (rs := [11]) (by kernel_rfl) (by simp) (fun i2 hi2 => ?_)
    obtain rfl : i2 = 11 := by simpa using hi2
    clear hi2
    refine wpOp_step rfl (fun K hK => ite_yes rfl ?_)
    simp only [List.getElem_toArray, List.getElem_cons_zero, List.getElem_cons_succ]
    refine wp_updM 49 _ _ _ rfl rfl rfl rfl hrun ?_
    obtain ⟨Y5, hY5⟩ : ∃ W, W = setBlock W5 M ob := ⟨_, rfl⟩
    rw [← hY5] at hM5 ⊢
    have hkM : KS (· = M) W5 Y5 := by rw [hY5]; exact KS.setB _ _ _ _ rfl
    have neC := C4.ne
    have k5 : KS (cS cb M (.slice ap all.length ac) (.slice op opn.length oc)) w Y5 := k4.trans hkM (fun b _ q => .inr (.inl q))
    have o5 : Y5.heap[nb]? = some (.cells #[.int .i64 a, .string t, .int .i64 ((opn.length : Int) + 1), .bool false, .int .i64 (n0 : Int)] 69) := (hkM.block _ (heap_lt o4) (fun q => by have := h0.out.map.lt; omega)).trans o4
    have C5 : CAt B cb M (.slice ap all.length ac) (.slice op opn.length oc) all opn (fun x => if keq x (a, t) then some all.length else f x) Y5 :=
      ⟨(hkM.block _ (heap_lt C4.box) neC.1).trans C4.box, own_kept C4.rows (fun g hg => hkM.block g (C4.rows.lt g hg).2 (neC.2.1 g hg).2.1), own_kept C4.opns (fun g hg => hkM.block g (C4.opns.lt g hg).2 (neC.2.2 g hg).2.1), hM5, h0.out.cbB, h0.out.MB⟩
    refine hK _ _ ⟨⟨(cells_of C5.box).1, (cells_of o5).1⟩, ?_⟩
    clear hK K
    try simp only [Act.put]
    refine wpAnyH_done (by kernel_rfl) ?_ _
    refine NoPanic.normal ?_
    try simp only [Act.put]
    clear hS hrun hM5 hY5 hkM neC C4 o4 k4
    go_wp2_with fail
    refine wp_region_noPanic ?_
    refine wp_region_held (S := fun W => W.cell? ⟨cb, 0, none⟩ = some (.slice ap all.length ac)) (by kernel_rfl) ?_
    obtain ⟨W6, hW6⟩ : ∃ W4, W4 = (Y5).drew := ⟨_, rfl⟩
    have e4 : ({ Y5 with drawn := (Y5).drawn + 1 } : World) = W6 := hW6.symm
    rw [e4]
    have hB4 : Below (Y5).heap.size (Y5) W6 := by rw [hW6]; exact (Below.refl _ _).drew
    have hS : W6.cell? ⟨cb, 0, none⟩ = some (.slice ap all.length ac) := ((cells_of ((hB4.block _ (heap_lt C5.box)).trans C5.box)).1 0)
    have HW6 : Hid (W6 = (Y5).drew) := hW6
    clear e4 hW6
    refine wpAnyH_take (i := 0) (v := .pointer (some ⟨cb, 0, none⟩)) rfl (by kernel_rfl) (by kernel_rfl) (by kernel_rfl) (fun _ _ _ h => h) (Or.inl ⟨by rfl, ?r⟩) hS ?_
    case r => intro W hW; simp [go_sem, execOp, Act.eval]
    simp only [List.getElem_toArray, List.getElem_cons_zero, Act.put, List.setIfInBounds_toArray, List.set_cons_succ, List.set_cons_zero]
    refine wpAnyH_take (i := 1) (v := .pointer (some ⟨cb, 0, none⟩)) rfl (by kernel_rfl) (by kernel_rfl) (by kernel_rfl) (fun _ _ _ h => h) (Or.inl ⟨by rfl, ?r⟩) hS ?_
    case r => intro W hW; simp [go_sem, execOp, Act.eval]
    simp only [List.getElem_toArray, List.getElem_cons_zero, List.getElem_cons_succ, Act.put, List.setIfInBounds_toArray, List.set_cons_succ, List.set_cons_zero]
    refine wpAnyH_take (i := 2) (v := .pointer (some ⟨cb, 0, none⟩)) rfl (by kernel_rfl) (by kernel_rfl) (by kernel_rfl) (fun _ _ _ h => h) (Or.inl ⟨by rfl, ?r⟩) hS ?_
    case r => intro W hW; simp [go_sem, execOp, Act.eval]
    simp only [List.getElem_toArray, List.getElem_cons_zero, List.getElem_cons_succ, Act.put, List.setIfInBounds_toArray, List.set_cons_succ, List.set_cons_zero]
    refine wpAnyH_take (i := 3) (v := .pointer (some ⟨cb, 1, none⟩)) rfl (by kernel_rfl) (by kernel_rfl) (by kernel_rfl) (fun _ _ _ h => h) (Or.inl ⟨by rfl, ?r⟩) hS ?_
    case r => intro W hW; simp [go_sem, execOp, Act.eval]
    simp only [List.getElem_toArray, List.getElem_cons_zero, List.getElem_cons_succ, Act.put, List.setIfInBounds_toArray, List.set_cons_succ, List.set_cons_zero]
    refine wpAnyH_take (i := 5) (v := .pointer (some ⟨cb, 0, none⟩)) rfl (by kernel_rfl) (by kernel_rfl) (by kernel_rfl) (fun _ _ _ h => h) (Or.inl ⟨by rfl, ?r⟩) hS ?_
    case r => intro W hW; simp [go_sem, execOp, Act.eval]
    simp only [List.getElem_toArray, List.getElem_cons_zero, List.getElem_cons_succ, Act.put, List.setIfInBounds_toArray, List.set_cons_succ, List.set_cons_zero]
    refine wpAnyH_take (i := 6) (v := .pointer (some ⟨cb, 0, none⟩)) rfl (by kernel_rfl) (by kernel_rfl) (by kernel_rfl) (fun _ _ _ h => h) (Or.inl ⟨by rfl, ?r⟩) hS ?_
    case r => intro W hW; simp [go_sem, execOp, Act.eval]
    simp only [List.getElem_toArray, List.getElem_cons_zero, List.getElem_cons_succ, Act.put, List.setIfInBounds_toArray, List.set_cons_succ, List.set_cons_zero]
    refine wpAnyH_take (i := 7) (v := .pointer (some ⟨cb, 0, none⟩)) rfl (by kernel_rfl) (by kernel_rfl) (by kernel_rfl) (fun _ _ _ h => h) (Or.inl ⟨by rfl, ?r⟩) hS ?_
    case r => intro W hW; simp [go_sem, execOp, Act.eval]
    simp only [List.getElem_toArray, List.getElem_cons_zero, List.getElem_cons_succ, Act.put, List.setIfInBounds_toArray, List.set_cons_succ, List.set_cons_zero]
    refine wpAnyH_take (i := 8) (v := .slice ap all.length ac) rfl (by kernel_rfl) (by kernel_rfl) (by kernel_rfl) (fun _ _ _ h => h) (Or.inl ⟨by rfl, ?r⟩) hS ?_
    case r => intro W hW; simp [go_sem, execOp, Act.eval, hW]
    simp only [List.getElem_toArray, List.getElem_cons_zero, List.getElem_cons_succ, Act.put, List.setIfInBounds_toArray, List.set_cons_succ, List.set_cons_zero]
    refine wpAnyH_take (i := 9) (v := .int .i64 (all.length : Int)) rfl (by kernel_rfl) (by kernel_rfl) (by kernel_rfl) (fun _ _ _ h => h) (Or.inl ⟨by rfl, ?r⟩) hS ?_
    case r => intro W hW; simp [go_sem, execOp, Act.eval]
    simp only [List.getElem_toArray, List.getElem_cons_zero, List.getElem_cons_succ, Act.put, List.setIfInBounds_toArray, List.set_cons_succ, List.set_cons_zero]
    have C6 := C5.below hB4
    have o6 := (hB4.block _ (heap_lt o5)).trans o5
    have k6 : KS (cS cb M (.slice ap all.length ac) (.slice op opn.length oc)) w W6 := k5.trans (KS.of (S := cS cb M (.slice ap all.length ac) (.slice op opn.length oc)) hB4) (fun _ _ q => q)
    have c6c : W6.cell? ⟨cb, 1, none⟩ = some (.slice op opn.length oc) := (cells_of C6.box).1 1
    have hB6 : B ≤ W6.heap.size := by have := k6.size; omega
    clear hB4 HW6
    refine wpAnyH_all (rs := [4, 10]) (by kernel_rfl) (by simp) (fun i2 hi2 => ?_)
    rcases (by simpa using hi2 : i2 = 4 ∨ i2 = 10) with rfl | rfl
    · refine wpOp_step rfl (fun K hK => ite_yes rfl ?_)
      simp only [List.getElem_toArray, List.getElem_cons_zero, List.getElem_cons_succ]
      go_simp
      refine hK _ _ ⟨hS, ?_⟩
      clear hK K
      try simp only [Act.put, List.setIfInBounds_toArray, List.set_cons_succ, List.set_cons_zero]
      refine wpAnyH_all (rs := [10]) (by kernel_rfl) (by simp) (fun i2 hi2 => ?_)
      obtain rfl : i2 = 10 := by simpa using hi2
      clear hi2
      refine wpOp_step rfl (fun K hK => ite_yes rfl ?_)
      simp only [List.getElem_toArray, List.getElem_cons_zero, List.getElem_cons_succ]
      go_simp
      have hS1 := ((below1 W6 (.cells #[.int .i64 (all.length : Int)] 3)).cell (p := ⟨cb, 0, none⟩) (heap_lt C6.box)).trans hS
      refine hK _ _ ⟨hS1, ?_⟩
      clear hK K
      try simp only [Act.put, List.setIfInBounds_toArray, List.set_cons_succ, List.set_cons_zero]
      clear hS
      have hS := hS1
      have z6 : Below W6.heap.size W6 (W6.alloc (.cells #[.int .i64 (all.length : Int)] 3)) := below1 W6 _
      have CZ := C6.below z6
      have hbZ : B ≤ (W6.alloc (.cells #[.int .i64 (all.length : Int)] 3)).heap.size := by simp; omega
      refine wpAnyH_all (rs := [11]) (by kernel_rfl) (by simp) (fun i2 hi2 => ?_)
      obtain rfl : i2 = 11 := by simpa using hi2
      clear hi2
      refine wpOp_step rfl (fun K hK => ite_yes rfl ?_)
      simp only [List.getElem_toArray, List.getElem_cons_zero, List.getElem_cons_succ]
      refine wp_append_lies _ _ _ 27 rfl B 3 i0 _ 1 8 Tryd.underlying27 hi0 hz0 hz1 hz2 rfl (by decide) _ opn.length (opV opn) rfl CZ.opns ⟨W6.heap.size, 0, none⟩ 1 1 [.int .i64 (all.length : Int)] rfl rfl (cell_one_new W6 (.int .i64 (all.length : Int)) 3) (fun x hx => by simp at hx; subst hx; rfl) (by decide) (by unfold maxLen; omega) (by omega) hbZ _ rfl ?_
      intro g6 cap6 w6 hown6 hgr6 hat6 hlt6
      have kg6 := KS.grown hgr6
      have neZ := CZ.ne
      have b6 : w6.heap[cb]? = some (.cells #[.slice ap all.length ac, .slice op opn.length oc, .map (some M)] 52) := (kg6.block _ (heap_lt CZ.box) (fun q => (neZ.2.2 _ q).1 rfl)).trans CZ.box
      have q6 : w6.heap[nb]? = some (.cells #[.int .i64 a, .string t, .int .i64 ((opn.length : Int) + 1), .bool false, .int .i64 (n0 : Int)] 69) := (kg6.block _ (by have := heap_lt o6; simp; omega) (fun q => by have := (h0.out.opns.lt _ q).2; omega)).trans ((z6.block _ (heap_lt o6)).trans o6)
      have hS6 := (cells_of b6).1 0
      refine hK _ _ ⟨hS6, ?_⟩
      clear hK K
      try simp only [Act.put, List.setIfInBounds_toArray, List.set_cons_succ, List.set_cons_zero]
      clear hS
      have hS := hS6
      refine wpAnyH_take (i := 12) (v := .pointer (some ⟨cb, 0, none⟩)) rfl (by kernel_rfl) (by kernel_rfl) (by kernel_rfl) (fun _ _ _ h => h) (Or.inl ⟨by rfl, ?r⟩) hS ?_
      case r => intro W hW; simp [go_sem, execOp, Act.eval]
      simp only [List.getElem_toArray, List.getElem_cons_zero, List.getElem_cons_succ, Act.put, List.setIfInBounds_toArray, List.set_cons_succ, List.set_cons_zero]
      refine wpAnyH_take (i := 13) (v := .pointer (some ⟨cb, 1, none⟩)) rfl (by kernel_rfl) (by kernel_rfl) (by kernel_rfl) (fun _ _ _ h => h) (Or.inl ⟨by rfl, ?r⟩) hS ?_
      case r => intro W hW; simp [go_sem, execOp, Act.eval]
      simp only [List.getElem_toArray, List.getElem_cons_zero, List.getElem_cons_succ, Act.put, List.setIfInBounds_toArray, List.set_cons_succ, List.set_cons_zero]
      have bc6 := (cells_of b6).1
      have bf6 := (cells_of b6).2
      refine wpAnyH_all (rs := [14]) (by kernel_rfl) (by simp) (fun i2 hi2 => ?_)
      obtain rfl : i2 = 14 := by simpa using hi2
      clear hi2
      refine wpOp_step rfl (fun K hK => ite_yes rfl ?_)
      simp only [List.getElem_toArray, List.getElem_cons_zero, List.getElem_cons_succ]
      go_simp
      have hbx7 := heap_set b6 1 (.slice (some ⟨g6, 0, none⟩) (opn.length + 1) cap6)
      refine hK _ _ ⟨((cells_of hbx7).1 0), ?_⟩
      clear hK K
      try simp only [Act.put, List.setIfInBounds_toArray, List.set_cons_succ, List.set_cons_zero]
      refine wpAnyH_done (by kernel_rfl) ?_ _
      refine NoPanic.normal ?_
      try simp only [Act.put]
      obtain ⟨Y7, hY7⟩ : ∃ W, W = w6.setCell ⟨cb, 1, none⟩ (.slice (some ⟨g6, 0, none⟩) (opn.length + 1) cap6) := ⟨_, rfl⟩
      rw [← hY7]
      have hk6 : KS (fun b => b = cb ∨ (.slice op opn.length oc : Value).ownBlock = some b) (W6.alloc (.cells #[.int .i64 (all.length : Int)] 3)) Y7 := by rw [hY7]; exact (kg6.mono (fun b _ q => .inr q)).trans (KS.set (· = cb) _ _ _ _ rfl) (fun b _ q => .inl q)
      have k7 : KS (cS cb M (.slice ap all.length ac) (.slice op opn.length oc)) w Y7 := (k6.trans (KS.of (S := cS cb M (.slice ap all.length ac) (.slice op opn.length oc)) z6) (fun _ _ q => q)).trans hk6 (fun b _ q => q.elim (fun q => .inl q) (fun q => .inr (.inr (.inr q))))
      have o7 : Y7.heap[nb]? = some (.cells #[.int .i64 a, .string t, .int .i64 ((opn.length : Int) + 1), .bool false, .int .i64 (n0 : Int)] 69) := by rw [hY7]; exact (heap_set_other _ _ _ _ _ (fun q => by have := heap_lt h0.out.box; omega)).trans q6
      have C7 : CAt B cb M (.slice ap all.length ac) (.slice (some ⟨g6, 0, none⟩) (opn.length + 1) cap6) all (opn ++ [all.length]) (fun x => if keq x (a, t) then some all.length else f x) Y7 := by
        refine ⟨by rw [hY7]; exact hbx7, own_kept CZ.rows (fun g hg => hk6.block g (CZ.rows.lt g hg).2 ?_), ?_, CZ.map.kept (hk6.block _ CZ.map.lt ?_), h0.out.cbB, h0.out.MB⟩
        · rintro (q | q)
          · exact (neZ.2.1 g hg).1 q
          · exact (neZ.2.1 g hg).2.2.1 q
        · rw [hY7, show opV (opn ++ [all.length]) = opV opn ++ [.int .i64 (all.length : Int)] by simp [opV], List.length_append, List.length_singleton]
          exact own_kept hown6 (fun g hg => heap_set_other _ _ _ _ _ (fun q => by have := (hown6.lt g hg).1; have := h0.out.cbB; omega))
        · rintro (q | q)
          · exact neZ.1 q.symm
          · exact (neZ.2.2 M q).2.1 rfl
      have ob : ∀ b, (.slice (some ⟨g6, 0, none⟩) (opn.length + 1) cap6 : Value).ownBlock = some b → cS cb M (.slice ap all.length ac) (.slice op opn.length oc) b ∨ w.heap.size ≤ b := by
        intro b q
        simp only [Value.ownBlock, Option.some.injEq] at q
        subst q
        rcases hat6 with q | q
        · exact .inl (.inr (.inr (.inr q)))
        · exact .inr (by rw [q]; simp; have := k6.size; omega)
      clear hS hS6 bc6 bf6 b6 q6 CZ hY7 hbx7 hk6 kg6 hgr6 hown6 hat6 neZ z6 hbZ
      go_wp2_with fail
      refine wp_region_noPanic ?_
      refine wp_region_held (S := fun W => (∀ j, W.cell? ⟨nb, j, none⟩ = (#[.int .i64 a, .string t, .int .i64 ((opn.length : Int) + 1), .bool false, .int .i64 (n0 : Int)] : Array Value)[j]?)) (by kernel_rfl) ?_
      obtain ⟨W7, hW7⟩ : ∃ W4, W4 = (Y7).drew := ⟨_, rfl⟩
      have e4 : ({ Y7 with drawn := (Y7).drawn + 1 } : World) = W7 := hW7.symm
      rw [e4]
      have hB4 : Below (Y7).heap.size (Y7) W7 := by rw [hW7]; exact (Below.refl _ _).drew
      have hS : (∀ j, W7.cell? ⟨nb, j, none⟩ = (#[.int .i64 a, .string t, .int .i64 ((opn.length : Int) + 1), .bool false, .int .i64 (n0 : Int)] : Array Value)[j]?) := (cells_of ((hB4.block _ (heap_lt o7)).trans o7)).1
      have HW7 : Hid (W7 = (Y7).drew) := hW7
      clear e4 hW7
      refine wpAnyH_take (i := 0) (v := .pointer (some ⟨cb, 0, none⟩)) rfl (by kernel_rfl) (by kernel_rfl) (by kernel_rfl) (fun _ _ _ h => h) (Or.inl ⟨by rfl, ?r⟩) hS ?_
      case r => intro W hW; simp [go_sem, execOp, Act.eval]
      simp only [List.getElem_toArray, List.getElem_cons_zero, Act.put, List.setIfInBounds_toArray, List.set_cons_succ, List.set_cons_zero]
      refine wpAnyH_take (i := 1) (v := .pointer (some ⟨cb, 0, none⟩)) rfl (by kernel_rfl) (by kernel_rfl) (by kernel_rfl) (fun _ _ _ h => h) (Or.inl ⟨by rfl, ?r⟩) hS ?_
      case r => intro W hW; simp [go_sem, execOp, Act.eval]
      simp only [List.getElem_toArray, List.getElem_cons_zero, List.getElem_cons_succ, Act.put, List.setIfInBounds_toArray, List.set_cons_succ, List.set_cons_zero]
      refine wpAnyH_take (i := 2) (v := .pointer (some ⟨cb, 0, none⟩)) rfl (by kernel_rfl) (by kernel_rfl) (by kernel_rfl) (fun _ _ _ h => h) (Or.inl ⟨by rfl, ?r⟩) hS ?_
      case r => intro W hW; simp [go_sem, execOp, Act.eval]
      simp only [List.getElem_toArray, List.getElem_cons_zero, List.getElem_cons_succ, Act.put, List.setIfInBounds_toArray, List.set_cons_succ, List.set_cons_zero]
      refine wpAnyH_take (i := 3) (v := .pointer (some ⟨cb, 0, none⟩)) rfl (by kernel_rfl) (by kernel_rfl) (by kernel_rfl) (fun _ _ _ h => h) (Or.inl ⟨by rfl, ?r⟩) hS ?_
      case r => intro W hW; simp [go_sem, execOp, Act.eval]
      simp only [List.getElem_toArray, List.getElem_cons_zero, List.getElem_cons_succ, Act.put, List.setIfInBounds_toArray, List.set_cons_succ, List.set_cons_zero]
      refine wpAnyH_take (i := 5) (v := .agg #[.int .i64 a, .string t, .int .i64 ((opn.length : Int) + 1), .bool false, .int .i64 (n0 : Int)]) rfl (by kernel_rfl) (by kernel_rfl) (by kernel_rfl) (fun _ _ _ h => h) (Or.inl ⟨by rfl, ?r⟩) hS ?_
      case r => intro W hW; simp [go_sem, execOp, Act.eval, hW]
      simp only [List.getElem_toArray, List.getElem_cons_zero, List.getElem_cons_succ, Act.put, List.setIfInBounds_toArray, List.set_cons_succ, List.set_cons_zero]
      have C7b := C7.below hB4
      have o7b := (hB4.block _ (heap_lt o7)).trans o7
      have k7b : KS (cS cb M (.slice ap all.length ac) (.slice op opn.length oc)) w W7 := k7.trans (KS.of (S := cS cb M (.slice ap all.length ac) (.slice op opn.length oc)) hB4) (fun _ _ q => q)
      have c7c : W7.cell? ⟨cb, 0, none⟩ = some (.slice ap all.length ac) := (cells_of C7b.box).1 0
      have hB7 : B ≤ W7.heap.size := by have := k7b.size; omega
      clear hB4 HW7
      refine wpAnyH_all (rs := [4, 6]) (by kernel_rfl) (by simp) (fun i2 hi2 => ?_)
      rcases (by simpa using hi2 : i2 = 4 ∨ i2 = 6) with rfl | rfl
      · refine wpOp_step rfl (fun K hK => ite_yes rfl ?_)
        simp only [List.getElem_toArray, List.getElem_cons_zero, List.getElem_cons_succ]
        go_simp
        refine hK _ _ ⟨hS, ?_⟩
        clear hK K
        try simp only [Act.put, List.setIfInBounds_toArray, List.set_cons_succ, List.set_cons_zero]
        refine wpAnyH_all (rs := [6]) (by kernel_rfl) (by simp) (fun i2 hi2 => ?_)
        obtain rfl : i2 = 6 := by simpa using hi2
        clear hi2
        refine wpOp_step rfl (fun K hK => ite_yes rfl ?_)
        simp only [List.getElem_toArray, List.getElem_cons_zero, List.getElem_cons_succ]
        go_simp
        refine hK _ _ ⟨(fun j => ((below1 W7 _).cell (p := ⟨nb, j, none⟩) (heap_lt o7b)).trans (hS j)), ?_⟩
        clear hK K
        try simp only [Act.put, List.setIfInBounds_toArray, List.set_cons_succ, List.set_cons_zero]
        have hS1 := fun j => ((below1 W7 (.cells (cl5 (⟨a, t, opn.length + 1, false, (n0 : Int)⟩ : Cl)).toArray 69)).cell (p := ⟨nb, j, none⟩) (heap_lt o7b)).trans (hS j)
        clear hS
        have hS := hS1
        have z7 : Below W7.heap.size W7 (W7.alloc (.cells (cl5 (⟨a, t, opn.length + 1, false, (n0 : Int)⟩ : Cl)).toArray 69)) := below1 W7 _
        have CZ := C7b.below z7
        have hbZ : B ≤ (W7.alloc (.cells (cl5 (⟨a, t, opn.length + 1, false, (n0 : Int)⟩ : Cl)).toArray 69)).heap.size := by simp; omega
        refine wpAnyH_all (rs := [7]) (by kernel_rfl) (by simp) (fun i2 hi2 => ?_)
        obtain rfl : i2 = 7 := by simpa using hi2
        clear hi2
        refine wpOp_step rfl (fun K hK => ite_yes rfl ?_)
        simp only [List.getElem_toArray, List.getElem_cons_zero, List.getElem_cons_succ]
        refine wp_append_lies _ _ _ 50 rfl B 69 i1 _ 5 48 Tryd.underlying50 hi1 hy0 hy1 hy2 rfl (by decide) _ all.length (all.flatMap cl5) rfl CZ.rows ⟨W7.heap.size, 0, none⟩ 1 1 (cl5 (⟨a, t, opn.length + 1, false, (n0 : Int)⟩ : Cl)) rfl rfl (news5 W7 (⟨a, t, opn.length + 1, false, (n0 : Int)⟩ : Cl) 69) (one5 _) (by decide) (by unfold maxLen; omega) (by omega) hbZ _ rfl ?_
        intro g7 cap7 w7 hown7 hgr7 hat7 hlt7
        have kg7 := KS.grown hgr7
        have neZ := CZ.ne
        have b7 : w7.heap[cb]? = some (.cells #[.slice ap all.length ac, .slice (some ⟨g6, 0, none⟩) (opn.length + 1) cap6, .map (some M)] 52) := (kg7.block _ (heap_lt CZ.box) (fun q => (neZ.2.1 _ q).1 rfl)).trans CZ.box
        have q7 : w7.heap[nb]? = some (.cells #[.int .i64 a, .string t, .int .i64 ((opn.length : Int) + 1), .bool false, .int .i64 (n0 : Int)] 69) := (kg7.block _ (by have := heap_lt o7b; simp; omega) (fun q => by have := (h0.out.rows.lt _ q).2; omega)).trans ((z7.block _ (heap_lt o7b)).trans o7b)
        have hS7 := (cells_of q7).1
        refine hK _ _ ⟨(cells_of q7).1, ?_⟩
        clear hK K
        try simp only [Act.put, List.setIfInBounds_toArray, List.set_cons_succ, List.set_cons_zero]
        clear hS
        have hS := hS7
        refine wpAnyH_take (i := 8) (v := .pointer (some ⟨cb, 0, none⟩)) rfl (by kernel_rfl) (by kernel_rfl) (by kernel_rfl) (fun _ _ _ h => h) (Or.inl ⟨by rfl, ?r⟩) hS ?_
        case r => intro W hW; simp [go_sem, execOp, Act.eval]
        simp only [List.getElem_toArray, List.getElem_cons_zero, List.getElem_cons_succ, Act.put, List.setIfInBounds_toArray, List.set_cons_succ, List.set_cons_zero]
        refine wpAnyH_take (i := 9) (v := .pointer (some ⟨cb, 0, none⟩)) rfl (by kernel_rfl) (by kernel_rfl) (by kernel_rfl) (fun _ _ _ h => h) (Or.inl ⟨by rfl, ?r⟩) hS ?_
        case r => intro W hW; simp [go_sem, execOp, Act.eval]
        simp only [List.getElem_toArray, List.getElem_cons_zero, List.getElem_cons_succ, Act.put, List.setIfInBounds_toArray, List.set_cons_succ, List.set_cons_zero]
        have bc7 := (cells_of b7).1
        have bf7 := (cells_of b7).2
        refine wpAnyH_all (rs := [10]) (by kernel_rfl) (by simp) (fun i2 hi2 => ?_)
        obtain rfl : i2 = 10 := by simpa using hi2
        clear hi2
        refine wpOp_step rfl (fun K hK => ite_yes rfl ?_)
        simp only [List.getElem_toArray, List.getElem_cons_zero, List.getElem_cons_succ]
        go_simp
        have hne2 : nb ≠ cb := fun q => by have := heap_lt h0.out.box; omega
        refine hK _ _ ⟨(fun j => by rw [World.cell?_of_block (heap_set_other _ _ _ _ _ hne2)]; exact hS j), ?_⟩
        clear hK K
        try simp only [Act.put, List.setIfInBounds_toArray, List.set_cons_succ, List.set_cons_zero]
        refine wpAnyH_done (by kernel_rfl) ?_ _
        refine NoPanic.normal ?_
        try simp only [Act.put]
        have hbx8 := heap_set b7 0 (.slice (some ⟨g7, 0, none⟩) (all.length + 1) cap7)
        have HB7 : Hid _ := b7
        have HEND : Hid (CAt B cb M (.slice (some ⟨g7, 0, none⟩) (all.length + 1) cap7) (.slice (some ⟨g6, 0, none⟩) (opn.length + 1) cap6) (all ++ [(⟨a, t, opn.length + 1, false, (n0 : Int)⟩ : Cl)]) (opn ++ [all.length]) (fun x => if keq x (a, t) then some all.length else f x) (w7.setCell ⟨cb, 0, none⟩ (.slice (some ⟨g7, 0, none⟩) (all.length + 1) cap7)) ∧ KS (cS cb M (.slice ap all.length ac) (.slice op opn.length oc)) w (w7.setCell ⟨cb, 0, none⟩ (.slice (some ⟨g7, 0, none⟩) (all.length + 1) cap7)) ∧ ∀ b, cS cb M (.slice (some ⟨g7, 0, none⟩) (all.length + 1) cap7) (.slice (some ⟨g6, 0, none⟩) (opn.length + 1) cap6) b → cS cb M (.slice ap all.length ac) (.slice op opn.length oc) b ∨ w.heap.size ≤ b) := by
          have hc7 : B ≤ g7 := by
            rcases hat7 with q | q
            · exact (CZ.rows.lt _ q).1
            · rw [q, World.size_alloc]; omega
          have hrow : (w7.setCell ⟨cb, 0, none⟩ (.slice (some ⟨g7, 0, none⟩) (all.length + 1) cap7)).ownsRow B 69 5 (.slice (some ⟨g7, 0, none⟩) (all.length + 1) cap7) (all ++ [(⟨a, t, opn.length + 1, false, (n0 : Int)⟩ : Cl)]).length ((all ++ [(⟨a, t, opn.length + 1, false, (n0 : Int)⟩ : Cl)]).flatMap cl5) := by
            rw [List.flatMap_append, List.flatMap_singleton, List.length_append, List.length_singleton]
            exact own_kept hown7 (fun g hg => heap_set_other _ _ _ _ _ (fun q => by have := (hown7.lt g hg).1; have := h0.out.cbB; omega))
          have hk7 : KS (fun b => b = cb ∨ (.slice ap all.length ac : Value).ownBlock = some b) (W7.alloc (.cells (cl5 (⟨a, t, opn.length + 1, false, (n0 : Int)⟩ : Cl)).toArray 69)) (w7.setCell ⟨cb, 0, none⟩ (.slice (some ⟨g7, 0, none⟩) (all.length + 1) cap7)) := (kg7.mono (fun b _ q => .inr q)).trans (KS.set (· = cb) _ _ _ _ rfl) (fun b _ q => .inl q)
          refine ⟨⟨hbx8, hrow, own_kept CZ.opns (fun g hg => hk7.block g (CZ.opns.lt g hg).2 ?_), CZ.map.kept (hk7.block _ CZ.map.lt ?_), h0.out.cbB, h0.out.MB⟩, (k7b.trans (KS.of (S := cS cb M (.slice ap all.length ac) (.slice op opn.length oc)) z7) (fun _ _ q => q)).trans hk7 (fun b _ q => q.elim (fun q => .inl q) (fun q => .inr (.inr (.inl q)))), ?_⟩
          · rintro (q | q)
            · exact (neZ.2.2 g hg).1 q
            · exact (neZ.2.1 g q).2.2.1 hg
          · rintro (q | q)
            · exact neZ.1 q.symm
            · exact (neZ.2.1 M q).2.1 rfl
          · rintro b (q | q | q | q)
            · exact .inl (.inl q)
            · exact .inl (.inr (.inl q))
            · simp only [Value.ownBlock, Option.some.injEq] at q
              subst q
              rcases hat7 with q | q
              · exact .inl (.inr (.inr (.inl q)))
              · exact .inr (by rw [q]; simp; have := k7b.size; omega)
            · exact ob b q
        clear hS hS7 bc7 bf7 b7 q7 CZ
        go_wp2_with fail
        exact bodyPost_end (results_none rfl _ _ _) rfl ⟨rfl, _, _, HEND.out⟩
      · refine wpOp_step rfl (fun K hK => ite_yes rfl ?_)
        simp only [List.getElem_toArray, List.getElem_cons_zero, List.getElem_cons_succ]
        go_simp
        refine hK _ _ ⟨(fun j => ((below1 W7 _).cell (p := ⟨nb, j, none⟩) (heap_lt o7b)).trans (hS j)), ?_⟩
        clear hK K
        try simp only [Act.put, List.setIfInBounds_toArray, List.set_cons_succ, List.set_cons_zero]
        have hS1 := fun j => ((below1 W7 (.cells (cl5 (⟨a, t, opn.length + 1, false, (n0 : Int)⟩ : Cl)).toArray 69)).cell (p := ⟨nb, j, none⟩) (heap_lt o7b)).trans (hS j)
        clear hS
        have hS := hS1
        have cc7 := fun o => (below1 W7 (.cells (cl5 (⟨a, t, opn.length + 1, false, (n0 : Int)⟩ : Cl)).toArray 69)).cell (p := ⟨cb, o, none⟩) (heap_lt C7b.box)
        have c7z : (W7.alloc (.cells #[.int .i64 a, .string t, .int .i64 ((opn.length : Int) + 1), .bool false, .int .i64 (n0 : Int)] 69)).cell? ⟨cb, 0, none⟩ = some (.slice ap all.length ac) := (cc7 0).trans c7c
        refine wpAnyH_all (rs := [4]) (by kernel_rfl) (by simp) (fun i2 hi2 => ?_)
        obtain rfl : i2 = 4 := by simpa using hi2
        clear hi2
        refine wpOp_step rfl (fun K hK => ite_yes rfl ?_)
        simp only [List.getElem_toArray, List.getElem_cons_zero, List.getElem_cons_succ]
        go_simp
        refine hK _ _ ⟨hS, ?_⟩
        clear hK K
        try simp only [Act.put, List.setIfInBounds_toArray, List.set_cons_succ, List.set_cons_zero]
        clear cc7 c7z
        have z7 : Below W7.heap.size W7 (W7.alloc (.cells (cl5 (⟨a, t, opn.length + 1, false, (n0 : Int)⟩ : Cl)).toArray 69)) := below1 W7 _
        have CZ := C7b.below z7
        have hbZ : B ≤ (W7.alloc (.cells (cl5 (⟨a, t, opn.length + 1, false, (n0 : Int)⟩ : Cl)).toArray 69)).heap.size := by simp; omega
        refine wpAnyH_all (rs := [7]) (by kernel_rfl) (by simp) (fun i2 hi2 => ?_)
        obtain rfl : i2 = 7 := by simpa using hi2
        clear hi2
        refine wpOp_step rfl (fun K hK => ite_yes rfl ?_)
        simp only [List.getElem_toArray, List.getElem_cons_zero, List.getElem_cons_succ]
        refine wp_append_lies _ _ _ 50 rfl B 69 i1 _ 5 48 Tryd.underlying50 hi1 hy0 hy1 hy2 rfl (by decide) _ all.length (all.flatMap cl5) rfl CZ.rows ⟨W7.heap.size, 0, none⟩ 1 1 (cl5 (⟨a, t, opn.length + 1, false, (n0 : Int)⟩ : Cl)) rfl rfl (news5 W7 (⟨a, t, opn.length + 1, false, (n0 : Int)⟩ : Cl) 69) (one5 _) (by decide) (by unfold maxLen; omega) (by omega) hbZ _ rfl ?_
        intro g7 cap7 w7 hown7 hgr7 hat7 hlt7
        have kg7 := KS.grown hgr7
        have neZ := CZ.ne
        have b7 : w7.heap[cb]? = some (.cells #[.slice ap all.length ac, .slice (some ⟨g6, 0, none⟩) (opn.length + 1) cap6, .map (some M)] 52) := (kg7.block _ (heap_lt CZ.box) (fun q => (neZ.2.1 _ q).1 rfl)).trans CZ.box
        have q7 : w7.heap[nb]? = some (.cells #[.int .i64 a, .string t, .int .i64 ((opn.length : Int) + 1), .bool false, .int .i64 (n0 : Int)] 69) := (kg7.block _ (by have := heap_lt o7b; simp; omega) (fun q => by have := (h0.out.rows.lt _ q).2; omega)).trans ((z7.block _ (heap_lt o7b)).trans o7b)
        have hS7 := (cells_of q7).1
        refine hK _ _ ⟨(cells_of q7).1, ?_⟩
        clear hK K
        try simp only [Act.put, List.setIfInBounds_toArray, List.set_cons_succ, List.set_cons_zero]
        clear hS
        have hS := hS7
        refine wpAnyH_take (i := 8) (v := .pointer (some ⟨cb, 0, none⟩)) rfl (by kernel_rfl) (by kernel_rfl) (by kernel_rfl) (fun _ _ _ h => h) (Or.inl ⟨by rfl, ?r⟩) hS ?_
        case r => intro W hW; simp [go_sem, execOp, Act.eval]
        simp only [List.getElem_toArray, List.getElem_cons_zero, List.getElem_cons_succ, Act.put, List.setIfInBounds_toArray, List.set_cons_succ, List.set_cons_zero]
        refine wpAnyH_take (i := 9) (v := .pointer (some ⟨cb, 0, none⟩)) rfl (by kernel_rfl) (by kernel_rfl) (by kernel_rfl) (fun _ _ _ h => h) (Or.inl ⟨by rfl, ?r⟩) hS ?_
        case r => intro W hW; simp [go_sem, execOp, Act.eval]
        simp only [List.getElem_toArray, List.getElem_cons_zero, List.getElem_cons_succ, Act.put, List.setIfInBounds_toArray, List.set_cons_succ, List.set_cons_zero]
        have bc7 := (cells_of b7).1
        have bf7 := (cells_of b7).2
        refine wpAnyH_all (rs := [10]) (by kernel_rfl) (by simp) (fun i2 hi2 => ?_)
        obtain rfl : i2 = 10 := by simpa using hi2
        clear hi2
        refine wpOp_step rfl (fun K hK => ite_yes rfl ?_)
        simp only [List.getElem_toArray, List.getElem_cons_zero, List.getElem_cons_succ]
        go_simp
        have hne2 : nb ≠ cb := fun q => by have := heap_lt h0.out.box; omega
        refine hK _ _ ⟨(fun j => by rw [World.cell?_of_block (heap_set_other _ _ _ _ _ hne2)]; exact hS j), ?_⟩
        clear hK K
        try simp only [Act.put, List.setIfInBounds_toArray, List.set_cons_succ, List.set_cons_zero]
        refine wpAnyH_done (by kernel_rfl) ?_ _
        refine NoPanic.normal ?_
        try simp only [Act.put]
        have hbx8 := heap_set b7 0 (.slice (some ⟨g7, 0, none⟩) (all.length + 1) cap7)
        have HB7 : Hid _ := b7
        have HEND : Hid (CAt B cb M (.slice (some ⟨g7, 0, none⟩) (all.length + 1) cap7) (.slice (some ⟨g6, 0, none⟩) (opn.length + 1) cap6) (all ++ [(⟨a, t, opn.length + 1, false, (n0 : Int)⟩ : Cl)]) (opn ++ [all.length]) (fun x => if keq x (a, t) then some all.length else f x) (w7.setCell ⟨cb, 0, none⟩ (.slice (some ⟨g7, 0, none⟩) (all.length + 1) cap7)) ∧ KS (cS cb M (.slice ap all.length ac) (.slice op opn.length oc)) w (w7.setCell ⟨cb, 0, none⟩ (.slice (some ⟨g7, 0, none⟩) (all.length + 1) cap7)) ∧ ∀ b, cS cb M (.slice (some ⟨g7, 0, none⟩) (all.length + 1) cap7) (.slice (some ⟨g6, 0, none⟩) (opn.length + 1) cap6) b → cS cb M (.slice ap all.length ac) (.slice op opn.length oc) b ∨ w.heap.size ≤ b) := by
          have hc7 : B ≤ g7 := by
            rcases hat7 with q | q
            · exact (CZ.rows.lt _ q).1
            · rw [q, World.size_alloc]; omega
          have hrow : (w7.setCell ⟨cb, 0, none⟩ (.slice (some ⟨g7, 0, none⟩) (all.length + 1) cap7)).ownsRow B 69 5 (.slice (some ⟨g7, 0, none⟩) (all.length + 1) cap7) (all ++ [(⟨a, t, opn.length + 1, false, (n0 : Int)⟩ : Cl)]).length ((all ++ [(⟨a, t, opn.length + 1, false, (n0 : Int)⟩ : Cl)]).flatMap cl5) := by
            rw [List.flatMap_append, List.flatMap_singleton, List.length_append, List.length_singleton]
            exact own_kept hown7 (fun g hg => heap_set_other _ _ _ _ _ (fun q => by have := (hown7.lt g hg).1; have := h0.out.cbB; omega))
          have hk7 : KS (fun b => b = cb ∨ (.slice ap all.length ac : Value).ownBlock = some b) (W7.alloc (.cells (cl5 (⟨a, t, opn.length + 1, false, (n0 : Int)⟩ : Cl)).toArray 69)) (w7.setCell ⟨cb, 0, none⟩ (.slice (some ⟨g7, 0, none⟩) (all.length + 1) cap7)) := (kg7.mono (fun b _ q => .inr q)).trans (KS.set (· = cb) _ _ _ _ rfl) (fun b _ q => .inl q)
          refine ⟨⟨hbx8, hrow, own_kept CZ.opns (fun g hg => hk7.block g (CZ.opns.lt g hg).2 ?_), CZ.map.kept (hk7.block _ CZ.map.lt ?_), h0.out.cbB, h0.out.MB⟩, (k7b.trans (KS.of (S := cS cb M (.slice ap all.length ac) (.slice op opn.length oc)) z7) (fun _ _ q => q)).trans hk7 (fun b _ q => q.elim (fun q => .inl q) (fun q => .inr (.inr (.inl q)))), ?_⟩
          · rintro (q | q)
            · exact (neZ.2.2 g hg).1 q
            · exact (neZ.2.1 g q).2.2.1 hg
          · rintro (q | q)
            · exact neZ.1 q.symm
            · exact (neZ.2.1 M q).2.1 rfl
          · rintro b (q | q | q | q)
            · exact .inl (.inl q)
            · exact .inl (.inr (.inl q))
            · simp only [Value.ownBlock, Option.some.injEq] at q
              subst q
              rcases hat7 with q | q
              · exact .inl (.inr (.inr (.inl q)))
              · exact .inr (by rw [q]; simp; have := k7b.size; omega)
            · exact ob b q
        clear hS hS7 bc7 bf7 b7 q7 CZ
        go_wp2_with fail
        exact bodyPost_end (results_none rfl _ _ _) rfl ⟨rfl, _, _, HEND.out⟩
    · refine wpOp_step rfl (fun K hK => ite_yes rfl ?_)
      simp only [List.getElem_toArray, List.getElem_cons_zero, List.getElem_cons_succ]
      go_simp
      have hS1 := ((below1 W6 (.cells #[.int .i64 (all.length : Int)] 3)).cell (p := ⟨cb, 0, none⟩) (heap_lt C6.box)).trans hS
      refine hK _ _ ⟨hS1, ?_⟩
      clear hK K
      try simp only [Act.put, List.setIfInBounds_toArray, List.set_cons_succ, List.set_cons_zero]
      clear hS
      have hS := hS1
      have c6z := ((below1 W6 (.cells #[.int .i64 (all.length : Int)] 3)).cell (p := ⟨cb, 1, none⟩) (heap_lt C6.box)).trans c6c
      refine wpAnyH_all (rs := [4]) (by kernel_rfl) (by simp) (fun i2 hi2 => ?_)
      obtain rfl : i2 = 4 := by simpa using hi2
      clear hi2
      refine wpOp_step rfl (fun K hK => ite_yes rfl ?_)
      simp only [List.getElem_toArray, List.getElem_cons_zero, List.getElem_cons_succ]
      go_simp
      refine hK _ _ ⟨hS, ?_⟩
      clear hK K
      try simp only [Act.put, List.setIfInBounds_toArray, List.set_cons_succ, List.set_cons_zero]
      clear c6z
      have z6 : Below W6.heap.size W6 (W6.alloc (.cells #[.int .i64 (all.length : Int)] 3)) := below1 W6 _
      have CZ := C6.below z6
      have hbZ : B ≤ (W6.alloc (.cells #[.int .i64 (all.length : Int)] 3)).heap.size := by simp; omega
      refine wpAnyH_all (rs := [11]) (by kernel_rfl) (by simp) (fun i2 hi2 => ?_)
      obtain rfl : i2 = 11 := by simpa using hi2
      clear hi2
      refine wpOp_step rfl (fun K hK => ite_yes rfl ?_)
      simp only [List.getElem_toArray, List.getElem_cons_zero, List.getElem_cons_succ]
      refine wp_append_lies _ _ _ 27 rfl B 3 i0 _ 1 8 Tryd.underlying27 hi0 hz0 hz1 hz2 rfl (by decide) _ opn.length (opV opn) rfl CZ.opns ⟨W6.heap.size, 0, none⟩ 1 1 [.int .i64 (all.length : Int)] rfl rfl (cell_one_new W6 (.int .i64 (all.length : Int)) 3) (fun x hx => by simp at hx; subst hx; rfl) (by decide) (by unfold maxLen; omega) (by omega) hbZ _ rfl ?_
      intro g6 cap6 w6 hown6 hgr6 hat6 hlt6
      have kg6 := KS.grown hgr6
      have neZ := CZ.ne
      have b6 : w6.heap[cb]? = some (.cells #[.slice ap all.length ac, .slice op opn.length oc, .map (some M)] 52) := (kg6.block _ (heap_lt CZ.box) (fun q => (neZ.2.2 _ q).1 rfl)).trans CZ.box
      have q6 : w6.heap[nb]? = some (.cells #[.int .i64 a, .string t, .int .i64 ((opn.length : Int) + 1), .bool false, .int .i64 (n0 : Int)] 69) := (kg6.block _ (by have := heap_lt o6; simp; omega) (fun q => by have := (h0.out.opns.lt _ q).2; omega)).trans ((z6.block _ (heap_lt o6)).trans o6)
      have hS6 := (cells_of b6).1 0
      refine hK _ _ ⟨hS6, ?_⟩
      clear hK K
      try simp only [Act.put, List.setIfInBounds_toArray, List.set_cons_succ, List.set_cons_zero]
      clear hS
      have hS := hS6
      refine wpAnyH_take (i := 12) (v := .pointer (some ⟨cb, 0, none⟩)) rfl (by kernel_rfl) (by kernel_rfl) (by kernel_rfl) (fun _ _ _ h => h) (Or.inl ⟨by rfl, ?r⟩) hS ?_
      case r => intro W hW; simp [go_sem, execOp, Act.eval]
      simp only [List.getElem_toArray, List.getElem_cons_zero, List.getElem_cons_succ, Act.put, List.setIfInBounds_toArray, List.set_cons_succ, List.set_cons_zero]
      refine wpAnyH_take (i := 13) (v := .pointer (some ⟨cb, 1, none⟩)) rfl (by kernel_rfl) (by kernel_rfl) (by kernel_rfl) (fun _ _ _ h => h) (Or.inl ⟨by rfl, ?r⟩) hS ?_
      case r => intro W hW; simp [go_sem, execOp, Act.eval]
      simp only [List.getElem_toArray, List.getElem_cons_zero, List.getElem_cons_succ, Act.put, List.setIfInBounds_toArray, List.set_cons_succ, List.set_cons_zero]
      have bc6 := (cells_of b6).1
      have bf6 := (cells_of b6).2
      refine wpAnyH_all (rs := [14]) (by kernel_rfl) (by simp) (fun i2 hi2 => ?_)
      obtain rfl : i2 = 14 := by simpa using hi2
      clear hi2
      refine wpOp_step rfl (fun K hK => ite_yes rfl ?_)
      simp only [List.getElem_toArray, List.getElem_cons_zero, List.getElem_cons_succ]
      go_simp
      have hbx7 := heap_set b6 1 (.slice (some ⟨g6, 0, none⟩) (opn.length + 1) cap6)
      refine hK _ _ ⟨((cells_of hbx7).1 0), ?_⟩
      clear hK K
      try simp only [Act.put, List.setIfInBounds_toArray, List.set_cons_succ, List.set_cons_zero]
      refine wpAnyH_done (by kernel_rfl) ?_ _
      refine NoPanic.normal ?_
      try simp only [Act.put]
      obtain ⟨Y7, hY7⟩ : ∃ W, W = w6.setCell ⟨cb, 1, none⟩ (.slice (some ⟨g6, 0, none⟩) (opn.length + 1) cap6) := ⟨_, rfl⟩
      rw [← hY7]
      have hk6 : KS (fun b => b = cb ∨ (.slice op opn.length oc : Value).ownBlock = some b) (W6.alloc (.cells #[.int .i64 (all.length : Int)] 3)) Y7 := by rw [hY7]; exact (kg6.mono (fun b _ q => .inr q)).trans (KS.set (· = cb) _ _ _ _ rfl) (fun b _ q => .inl q)
      have k7 : KS (cS cb M (.slice ap all.length ac) (.slice op opn.length oc)) w Y7 := (k6.trans (KS.of (S := cS cb M (.slice ap all.length ac) (.slice op opn.length oc)) z6) (fun _ _ q => q)).trans hk6 (fun b _ q => q.elim (fun q => .inl q) (fun q => .inr (.inr (.inr q))))
      have o7 : Y7.heap[nb]? = some (.cells #[.int .i64 a, .string t, .int .i64 ((opn.length : Int) + 1), .bool false, .int .i64 (n0 : Int)] 69) := by rw [hY7]; exact (heap_set_other _ _ _ _ _ (fun q => by have := heap_lt h0.out.box; omega)).trans q6
      have C7 : CAt B cb M (.slice ap all.length ac) (.slice (some ⟨g6, 0, none⟩) (opn.length + 1) cap6) all (opn ++ [all.length]) (fun x => if keq x (a, t) then some all.length else f x) Y7 := by
        refine ⟨by rw [hY7]; exact hbx7, own_kept CZ.rows (fun g hg => hk6.block g (CZ.rows.lt g hg).2 ?_), ?_, CZ.map.kept (hk6.block _ CZ.map.lt ?_), h0.out.cbB, h0.out.MB⟩
        · rintro (q | q)
          · exact (neZ.2.1 g hg).1 q
          · exact (neZ.2.1 g hg).2.2.1 q
        · rw [hY7, show opV (opn ++ [all.length]) = opV opn ++ [.int .i64 (all.length : Int)] by simp [opV], List.length_append, List.length_singleton]
          exact own_kept hown6 (fun g hg => heap_set_other _ _ _ _ _ (fun q => by have := (hown6.lt g hg).1; have := h0.out.cbB; omega))
        · rintro (q | q)
          · exact neZ.1 q.symm
          · exact (neZ.2.2 M q).2.1 rfl
      have ob : ∀ b, (.slice (some ⟨g6, 0, none⟩) (opn.length + 1) cap6 : Value).ownBlock = some b → cS cb M (.slice ap all.length ac) (.slice op opn.length oc) b ∨ w.heap.size ≤ b := by
        intro b q
        simp only [Value.ownBlock, Option.some.injEq] at q
        subst q
        rcases hat6 with q | q
        · exact .inl (.inr (.inr (.inr q)))
        · exact .inr (by rw [q]; simp; have := k6.size; omega)
      clear hS hS6 bc6 bf6 b6 q6 CZ hY7 hbx7 hk6 kg6 hgr6 hown6 hat6 neZ z6 hbZ
      go_wp2_with fail
      refine wp_region_noPanic ?_
      refine wp_region_held (S := fun W => (∀ j, W.cell? ⟨nb, j, none⟩ = (#[.int .i64 a, .string t, .int .i64 ((opn.length : Int) + 1), .bool false, .int .i64 (n0 : Int)] : Array Value)[j]?)) (by kernel_rfl) ?_
      obtain ⟨W7, hW7⟩ : ∃ W4, W4 = (Y7).drew := ⟨_, rfl⟩
      have e4 : ({ Y7 with drawn := (Y7).drawn + 1 } : World) = W7 := hW7.symm
      rw [e4]
      have hB4 : Below (Y7).heap.size (Y7) W7 := by rw [hW7]; exact (Below.refl _ _).drew
      have hS : (∀ j, W7.cell? ⟨nb, j, none⟩ = (#[.int .i64 a, .string t, .int .i64 ((opn.length : Int) + 1), .bool false, .int .i64 (n0 : Int)] : Array Value)[j]?) := (cells_of ((hB4.block _ (heap_lt o7)).trans o7)).1
      have HW7 : Hid (W7 = (Y7).drew) := hW7
      clear e4 hW7
      refine wpAnyH_take (i := 0) (v := .pointer (some ⟨cb, 0, none⟩)) rfl (by kernel_rfl) (by kernel_rfl) (by kernel_rfl) (fun _ _ _ h => h) (Or.inl ⟨by rfl, ?r⟩) hS ?_
      case r => intro W hW; simp [go_sem, execOp, Act.eval]
      simp only [List.getElem_toArray, List.getElem_cons_zero, Act.put, List.setIfInBounds_toArray, List.set_cons_succ, List.set_cons_zero]
      refine wpAnyH_take (i := 1) (v := .pointer (some ⟨cb, 0, none⟩)) rfl (by kernel_rfl) (by kernel_rfl) (by kernel_rfl) (fun _ _ _ h => h) (Or.inl ⟨by rfl, ?r⟩) hS ?_
      case r => intro W hW; simp [go_sem, execOp, Act.eval]
      simp only [List.getElem_toArray, List.getElem_cons_zero, List.getElem_cons_succ, Act.put, List.setIfInBounds_toArray, List.set_cons_succ, List.set_cons_zero]
      refine wpAnyH_take (i := 2) (v := .pointer (some ⟨cb, 0, none⟩)) rfl (by kernel_rfl) (by kernel_rfl) (by kernel_rfl) (fun _ _ _ h => h) (Or.inl ⟨by rfl, ?r⟩) hS ?_
      case r => intro W hW; simp [go_sem, execOp, Act.eval]
      simp only [List.getElem_toArray, List.getElem_cons_zero, List.getElem_cons_succ, Act.put, List.setIfInBounds_toArray, List.set_cons_succ, List.set_cons_zero]
      refine wpAnyH_take (i := 3) (v := .pointer (some ⟨cb, 0, none⟩)) rfl (by kernel_rfl) (by kernel_rfl) (by kernel_rfl) (fun _ _ _ h => h) (Or.inl ⟨by rfl, ?r⟩) hS ?_
      case r => intro W hW; simp [go_sem, execOp, Act.eval]
      simp only [List.getElem_toArray, List.getElem_cons_zero, List.getElem_cons_succ, Act.put, List.setIfInBounds_toArray, List.set_cons_succ, List.set_cons_zero]
      refine wpAnyH_take (i := 5) (v := .agg #[.int .i64 a, .string t, .int .i64 ((opn.length : Int) + 1), .bool false, .int .i64 (n0 : Int)]) rfl (by kernel_rfl) (by kernel_rfl) (by kernel_rfl) (fun _ _ _ h => h) (Or.inl ⟨by rfl, ?r⟩) hS ?_
      case r => intro W hW; simp [go_sem, execOp, Act.eval, hW]
      simp only [List.getElem_toArray, List.getElem_cons_zero, List.getElem_cons_succ, Act.put, List.setIfInBounds_toArray, List.set_cons_succ, List.set_cons_zero]
      have C7b := C7.below hB4
      have o7b := (hB4.block _ (heap_lt o7)).trans o7
      have k7b : KS (cS cb M (.slice ap all.length ac) (.slice op opn.length oc)) w W7 := k7.trans (KS.of (S := cS cb M (.slice ap all.length ac) (.slice op opn.length oc)) hB4) (fun _ _ q => q)
      have c7c : W7.cell? ⟨cb, 0, none⟩ = some (.slice ap all.length ac) := (cells_of C7b.box).1 0
      have hB7 : B ≤ W7.heap.size := by have := k7b.size; omega
      clear hB4 HW7
      refine wpAnyH_all (rs := [4, 6]) (by kernel_rfl) (by simp) (fun i2 hi2 => ?_)
      rcases (by simpa using hi2 : i2 = 4 ∨ i2 = 6) with rfl | rfl
      · refine wpOp_step rfl (fun K hK => ite_yes rfl ?_)
        simp only [List.getElem_toArray, List.getElem_cons_zero, List.getElem_cons_succ]
        go_simp
        refine hK _ _ ⟨hS, ?_⟩
        clear hK K
        try simp only [Act.put, List.setIfInBounds_toArray, List.set_cons_succ, List.set_cons_zero]
        refine wpAnyH_all (rs := [6]) (by kernel_rfl) (by simp) (fun i2 hi2 => ?_)
        obtain rfl : i2 = 6 := by simpa using hi2
        clear hi2
        refine wpOp_step rfl (fun K hK => ite_yes rfl ?_)
        simp only [List.getElem_toArray, List.getElem_cons_zero, List.getElem_cons_succ]
        go_simp
        refine hK _ _ ⟨(fun j => ((below1 W7 _).cell (p := ⟨nb, j, none⟩) (heap_lt o7b)).trans (hS j)), ?_⟩
        clear hK K
        try simp only [Act.put, List.setIfInBounds_toArray, List.set_cons_succ, List.set_cons_zero]
        have hS1 := fun j => ((below1 W7 (.cells (cl5 (⟨a, t, opn.length + 1, false, (n0 : Int)⟩ : Cl)).toArray 69)).cell (p := ⟨nb, j, none⟩) (heap_lt o7b)).trans (hS j)
        clear hS
        have hS := hS1
        have z7 : Below W7.heap.size W7 (W7.alloc (.cells (cl5 (⟨a, t, opn.length + 1, false, (n0 : Int)⟩ : Cl)).toArray 69)) := below1 W7 _
        have CZ := C7b.below z7
        have hbZ : B ≤ (W7.alloc (.cells (cl5 (⟨a, t, opn.length + 1, false, (n0 : Int)⟩ : Cl)).toArray 69)).heap.size := by simp; omega
        refine wpAnyH_all (rs := [7]) (by kernel_rfl) (by simp) (fun i2 hi2 => ?_)
        obtain rfl : i2 = 7 := by simpa using hi2
        clear hi2
        refine wpOp_step rfl (fun K hK => ite_yes rfl ?_)
        simp only [List.getElem_toArray, List.getElem_cons_zero, List.getElem_cons_succ]
        refine wp_append_lies _ _ _ 50 rfl B 69 i1 _ 5 48 Tryd.underlying50 hi1 hy0 hy1 hy2 rfl (by decide) _ all.length (all.flatMap cl5) rfl CZ.rows ⟨W7.heap.size, 0, none⟩ 1 1 (cl5 (⟨a, t, opn.length + 1, false, (n0 : Int)⟩ : Cl)) rfl rfl (news5 W7 (⟨a, t, opn.length + 1, false, (n0 : Int)⟩ : Cl) 69) (one5 _) (by decide) (by unfold maxLen; omega) (by omega) hbZ _ rfl ?_
        intro g7 cap7 w7 hown7 hgr7 hat7 hlt7
        have kg7 := KS.grown hgr7
        have neZ := CZ.ne
        have b7 : w7.heap[cb]? = some (.cells #[.slice ap all.length ac, .slice (some ⟨g6, 0, none⟩) (opn.length + 1) cap6, .map (some M)] 52) := (kg7.block _ (heap_lt CZ.box) (fun q => (neZ.2.1 _ q).1 rfl)).trans CZ.box
        have q7 : w7.heap[nb]? = some (.cells #[.int .i64 a, .string t, .int .i64 ((opn.length : Int) + 1), .bool false, .int .i64 (n0 : Int)] 69) := (kg7.block _ (by have := heap_lt o7b; simp; omega) (fun q => by have := (h0.out.rows.lt _ q).2; omega)).trans ((z7.block _ (heap_lt o7b)).trans o7b)
        have hS7 := (cells_of q7).1
        refine hK _ _ ⟨(cells_of q7).1, ?_⟩
        clear hK K
        try simp only [Act.put, List.setIfInBounds_toArray, List.set_cons_succ, List.set_cons_zero]
        clear hS
        have hS := hS7
        refine wpAnyH_take (i := 8) (v := .pointer (some ⟨cb, 0, none⟩)) rfl (by kernel_rfl) (by kernel_rfl) (by kernel_rfl) (fun _ _ _ h => h) (Or.inl ⟨by rfl, ?r⟩) hS ?_
        case r => intro W hW; simp [go_sem, execOp, Act.eval]
        simp only [List.getElem_toArray, List.getElem_cons_zero, List.getElem_cons_succ, Act.put, List.setIfInBounds_toArray, List.set_cons_succ, List.set_cons_zero]
        refine wpAnyH_take (i := 9) (v := .pointer (some ⟨cb, 0, none⟩)) rfl (by kernel_rfl) (by kernel_rfl) (by kernel_rfl) (fun _ _ _ h => h) (Or.inl ⟨by rfl, ?r⟩) hS ?_
        case r => intro W hW; simp [go_sem, execOp, Act.eval]
        simp only [List.getElem_toArray, List.getElem_cons_zero, List.getElem_cons_succ, Act.put, List.setIfInBounds_toArray, List.set_cons_succ, List.set_cons_zero]
        have bc7 := (cells_of b7).1
        have bf7 := (cells_of b7).2
        refine wpAnyH_all (rs := [10]) (by kernel_rfl) (by simp) (fun i2 hi2 => ?_)
        obtain rfl : i2 = 10 := by simpa using hi2
        clear hi2
        refine wpOp_step rfl (fun K hK => ite_yes rfl ?_)
        simp only [List.getElem_toArray, List.getElem_cons_zero, List.getElem_cons_succ]
        go_simp
        have hne2 : nb ≠ cb := fun q => by have := heap_lt h0.out.box; omega
        refine hK _ _ ⟨(fun j => by rw [World.cell?_of_block (heap_set_other _ _ _ _ _ hne2)]; exact hS j), ?_⟩
        clear hK K
        try simp only [Act.put, List.setIfInBounds_toArray, List.set_cons_succ, List.set_cons_zero]
        refine wpAnyH_done (by kernel_rfl) ?_ _
        refine NoPanic.normal ?_
        try simp only [Act.put]
        have hbx8 := heap_set b7 0 (.slice (some ⟨g7, 0, none⟩) (all.length + 1) cap7)
        have HB7 : Hid _ := b7
        have HEND : Hid (CAt B cb M (.slice (some ⟨g7, 0, none⟩) (all.length + 1) cap7) (.slice (some ⟨g6, 0, none⟩) (opn.length + 1) cap6) (all ++ [(⟨a, t, opn.length + 1, false, (n0 : Int)⟩ : Cl)]) (opn ++ [all.length]) (fun x => if keq x (a, t) then some all.length else f x) (w7.setCell ⟨cb, 0, none⟩ (.slice (some ⟨g7, 0, none⟩) (all.length + 1) cap7)) ∧ KS (cS cb M (.slice ap all.length ac) (.slice op opn.length oc)) w (w7.setCell ⟨cb, 0, none⟩ (.slice (some ⟨g7, 0, none⟩) (all.length + 1) cap7)) ∧ ∀ b, cS cb M (.slice (some ⟨g7, 0, none⟩) (all.length + 1) cap7) (.slice (some ⟨g6, 0, none⟩) (opn.length + 1) cap6) b → cS cb M (.slice ap all.length ac) (.slice op opn.length oc) b ∨ w.heap.size ≤ b) := by
          have hc7 : B ≤ g7 := by
            rcases hat7 with q | q
            · exact (CZ.rows.lt _ q).1
            · rw [q, World.size_alloc]; omega
          have hrow : (w7.setCell ⟨cb, 0, none⟩ (.slice (some ⟨g7, 0, none⟩) (all.length + 1) cap7)).ownsRow B 69 5 (.slice (some ⟨g7, 0, none⟩) (all.length + 1) cap7) (all ++ [(⟨a, t, opn.length + 1, false, (n0 : Int)⟩ : Cl)]).length ((all ++ [(⟨a, t, opn.length + 1, false, (n0 : Int)⟩ : Cl)]).flatMap cl5) := by
            rw [List.flatMap_append, List.flatMap_singleton, List.length_append, List.length_singleton]
            exact own_kept hown7 (fun g hg => heap_set_other _ _ _ _ _ (fun q => by have := (hown7.lt g hg).1; have := h0.out.cbB; omega))
          have hk7 : KS (fun b => b = cb ∨ (.slice ap all.length ac : Value).ownBlock = some b) (W7.alloc (.cells (cl5 (⟨a, t, opn.length + 1, false, (n0 : Int)⟩ : Cl)).toArray 69)) (w7.setCell ⟨cb, 0, none⟩ (.slice (some ⟨g7, 0, none⟩) (all.length + 1) cap7)) := (kg7.mono (fun b _ q => .inr q)).trans (KS.set (· = cb) _ _ _ _ rfl) (fun b _ q => .inl q)
          refine ⟨⟨hbx8, hrow, own_kept CZ.opns (fun g hg => hk7.block g (CZ.opns.lt g hg).2 ?_), CZ.map.kept (hk7.block _ CZ.map.lt ?_), h0.out.cbB, h0.out.MB⟩, (k7b.trans (KS.of (S := cS cb M (.slice ap all.length ac) (.slice op opn.length oc)) z7) (fun _ _ q => q)).trans hk7 (fun b _ q => q.elim (fun q => .inl q) (fun q => .inr (.inr (.inl q)))), ?_⟩
          · rintro (q | q)
            · exact (neZ.2.2 g hg).1 q
            · exact (neZ.2.1 g q).2.2.1 hg
          · rintro (q | q)
            · exact neZ.1 q.symm
            · exact (neZ.2.1 M q).2.1 rfl
          · rintro b (q | q | q | q)
            · exact .inl (.inl q)
            · exact .inl (.inr (.inl q))
            · simp only [Value.ownBlock, Option.some.injEq] at q
              subst q
              rcases hat7 with q | q
              · exact .inl (.inr (.inr (.inl q)))
              · exact .inr (by rw [q]; simp; have := k7b.size; omega)
            · exact ob b q
        clear hS hS7 bc7 bf7 b7 q7 CZ
        go_wp2_with fail
        exact bodyPost_end (results_none rfl _ _ _) rfl ⟨rfl, _, _, HEND.out⟩
      · refine wpOp_step rfl (fun K hK => ite_yes rfl ?_)
        simp only [List.getElem_toArray, List.getElem_cons_zero, List.getElem_cons_succ]
        go_simp
        refine hK _ _ ⟨(fun j => ((below1 W7 _).cell (p := ⟨nb, j, none⟩) (heap_lt o7b)).trans (hS j)), ?_⟩
        clear hK K
        try simp only [Act.put, List.setIfInBounds_toArray, List.set_cons_succ, List.set_cons_zero]
        have hS1 := fun j => ((below1 W7 (.cells (cl5 (⟨a, t, opn.length + 1, false, (n0 : Int)⟩ : Cl)).toArray 69)).cell (p := ⟨nb, j, none⟩) (heap_lt o7b)).trans (hS j)
        clear hS
        have hS := hS1
        have cc7 := fun o => (below1 W7 (.cells (cl5 (⟨a, t, opn.length + 1, false, (n0 : Int)⟩ : Cl)).toArray 69)).cell (p := ⟨cb, o, none⟩) (heap_lt C7b.box)
        have c7z : (W7.alloc (.cells #[.int .i64 a, .string t, .int .i64 ((opn.length : Int) + 1), .bool false, .int .i64 (n0 : Int)] 69)).cell? ⟨cb, 0, none⟩ = some (.slice ap all.length ac) := (cc7 0).trans c7c
        refine wpAnyH_all (rs := [4]) (by kernel_rfl) (by simp) (fun i2 hi2 => ?_)
        obtain rfl : i2 = 4 := by simpa using hi2
        clear hi2
        refine wpOp_step rfl (fun K hK => ite_yes rfl ?_)
        simp only [List.getElem_toArray, List.getElem_cons_zero, List.getElem_cons_succ]
        go_simp
        refine hK _ _ ⟨hS, ?_⟩
        clear hK K
        try simp only [Act.put, List.setIfInBounds_toArray, List.set_cons_succ, List.set_cons_zero]
        clear cc7 c7z
        have z7 : Below W7.heap.size W7 (W7.alloc (.cells (cl5 (⟨a, t, opn.length + 1, false, (n0 : Int)⟩ : Cl)).toArray 69)) := below1 W7 _
        have CZ := C7b.below z7
        have hbZ : B ≤ (W7.alloc (.cells (cl5 (⟨a, t, opn.length + 1, false, (n0 : Int)⟩ : Cl)).toArray 69)).heap.size := by simp; omega
        refine wpAnyH_all (rs := [7]) (by kernel_rfl) (by simp) (fun i2 hi2 => ?_)
        obtain rfl : i2 = 7 := by simpa using hi2
        clear hi2
        refine wpOp_step rfl (fun K hK => ite_yes rfl ?_)
        simp only [List.getElem_toArray, List.getElem_cons_zero, List.getElem_cons_succ]
        refine wp_append_lies _ _ _ 50 rfl B 69 i1 _ 5 48 Tryd.underlying50 hi1 hy0 hy1 hy2 rfl (by decide) _ all.length (all.flatMap cl5) rfl CZ.rows ⟨W7.heap.size, 0, none⟩ 1 1 (cl5 (⟨a, t, opn.length + 1, false, (n0 : Int)⟩ : Cl)) rfl rfl (news5 W7 (⟨a, t, opn.length + 1, false, (n0 : Int)⟩ : Cl) 69) (one5 _) (by decide) (by unfold maxLen; omega) (by omega) hbZ _ rfl ?_
        intro g7 cap7 w7 hown7 hgr7 hat7 hlt7
        have kg7 := KS.grown hgr7
        have neZ := CZ.ne
        have b7 : w7.heap[cb]? = some (.cells #[.slice ap all.length ac, .slice (some ⟨g6, 0, none⟩) (opn.length + 1) cap6, .map (some M)] 52) := (kg7.block _ (heap_lt CZ.box) (fun q => (neZ.2.1 _ q).1 rfl)).trans CZ.box
        have q7 : w7.heap[nb]? = some (.cells #[.int .i64 a, .string t, .int .i64 ((opn.length : Int) + 1), .bool false, .int .i64 (n0 : Int)] 69) := (kg7.block _ (by have := heap_lt o7b; simp; omega) (fun q => by have := (h0.out.rows.lt _ q).2; omega)).trans ((z7.block _ (heap_lt o7b)).trans o7b)
        have hS7 := (cells_of q7).1
        refine hK _ _ ⟨(cells_of q7).1, ?_⟩
        clear hK K
        try simp only [Act.put, List.setIfInBounds_toArray, List.set_cons_succ, List.set_cons_zero]
        clear hS
        have hS := hS7
        refine wpAnyH_take (i := 8) (v := .pointer (some ⟨cb, 0, none⟩)) rfl (by kernel_rfl) (by kernel_rfl) (by kernel_rfl) (fun _ _ _ h => h) (Or.inl ⟨by rfl, ?r⟩) hS ?_
        case r => intro W hW; simp [go_sem, execOp, Act.eval]
        simp only [List.getElem_toArray, List.getElem_cons_zero, List.getElem_cons_succ, Act.put, List.setIfInBounds_toArray, List.set_cons_succ, List.set_cons_zero]
        refine wpAnyH_take (i := 9) (v := .pointer (some ⟨cb, 0, none⟩)) rfl (by kernel_rfl) (by kernel_rfl) (by kernel_rfl) (fun _ _ _ h => h) (Or.inl ⟨by rfl, ?r⟩) hS ?_
        case r => intro W hW; simp [go_sem, execOp, Act.eval]
        simp only [List.getElem_toArray, List.getElem_cons_zero, List.getElem_cons_succ, Act.put, List.setIfInBounds_toArray, List.set_cons_succ, List.set_cons_zero]
        have bc7 := (cells_of b7).1
        have bf7 := (cells_of b7).2
        refine wpAnyH_all (rs := [10]) (by kernel_rfl) (by simp) (fun i2 hi2 => ?_)
        obtain rfl : i2 = 10 := by simpa using hi2
        clear hi2
        refine wpOp_step rfl (fun K hK => ite_yes rfl ?_)
        simp only [List.getElem_toArray, List.getElem_cons_zero, List.getElem_cons_succ]
        go_simp
        have hne2 : nb ≠ cb := fun q => by have := heap_lt h0.out.box; omega
        refine hK _ _ ⟨(fun j => by rw [World.cell?_of_block (heap_set_other _ _ _ _ _ hne2)]; exact hS j), ?_⟩
        clear hK K
        try simp only [Act.put, List.setIfInBounds_toArray, List.set_cons_succ, List.set_cons_zero]
        refine wpAnyH_done (by kernel_rfl) ?_ _
        refine NoPanic.normal ?_
        try simp only [Act.put]
        have hbx8 := heap_set b7 0 (.slice (some ⟨g7, 0, none⟩) (all.length + 1) cap7)
        have HB7 : Hid _ := b7
        have HEND : Hid (CAt B cb M (.slice (some ⟨g7, 0, none⟩) (all.length + 1) cap7) (.slice (some ⟨g6, 0, none⟩) (opn.length + 1) cap6) (all ++ [(⟨a, t, opn.length + 1, false, (n0 : Int)⟩ : Cl)]) (opn ++ [all.length]) (fun x => if keq x (a, t) then some all.length else f x) (w7.setCell ⟨cb, 0, none⟩ (.slice (some ⟨g7, 0, none⟩) (all.length + 1) cap7)) ∧ KS (cS cb M (.slice ap all.length ac) (.slice op opn.length oc)) w (w7.setCell ⟨cb, 0, none⟩ (.slice (some ⟨g7, 0, none⟩) (all.length + 1) cap7)) ∧ ∀ b, cS cb M (.slice (some ⟨g7, 0, none⟩) (all.length + 1) cap7) (.slice (some ⟨g6, 0, none⟩) (opn.length + 1) cap6) b → cS cb M (.slice ap all.length ac) (.slice op opn.length oc) b ∨ w.heap.size ≤ b) := by
          have hc7 : B ≤ g7 := by
            rcases hat7 with q | q
            · exact (CZ.rows.lt _ q).1
            · rw [q, World.size_alloc]; omega
          have hrow : (w7.setCell ⟨cb, 0, none⟩ (.slice (some ⟨g7, 0, none⟩) (all.length + 1) cap7)).ownsRow B 69 5 (.slice (some ⟨g7, 0, none⟩) (all.length + 1) cap7) (all ++ [(⟨a, t, opn.length + 1, false, (n0 : Int)⟩ : Cl)]).length ((all ++ [(⟨a, t, opn.length + 1, false, (n0 : Int)⟩ : Cl)]).flatMap cl5) := by
            rw [List.flatMap_append, List.flatMap_singleton, List.length_append, List.length_singleton]
            exact own_kept hown7 (fun g hg => heap_set_other _ _ _ _ _ (fun q => by have := (hown7.lt g hg).1; have := h0.out.cbB; omega))
          have hk7 : KS (fun b => b = cb ∨ (.slice ap all.length ac : Value).ownBlock = some b) (W7.alloc (.cells (cl5 (⟨a, t, opn.length + 1, false, (n0 : Int)⟩ : Cl)).toArray 69)) (w7.setCell ⟨cb, 0, none⟩ (.slice (some ⟨g7, 0, none⟩) (all.length + 1) cap7)) := (kg7.mono (fun b _ q => .inr q)).trans (KS.set (· = cb) _ _ _ _ rfl) (fun b _ q => .inl q)
          refine ⟨⟨hbx8, hrow, own_kept CZ.opns (fun g hg => hk7.block g (CZ.opns.lt g hg).2 ?_), CZ.map.kept (hk7.block _ CZ.map.lt ?_), h0.out.cbB, h0.out.MB⟩, (k7b.trans (KS.of (S := cS cb M (.slice ap all.length ac) (.slice op opn.length oc)) z7) (fun _ _ q => q)).trans hk7 (fun b _ q => q.elim (fun q => .inl q) (fun q => .inr (.inr (.inl q)))), ?_⟩
          · rintro (q | q)
            · exact (neZ.2.2 g hg).1 q
            · exact (neZ.2.1 g q).2.2.1 hg
          · rintro (q | q)
            · exact neZ.1 q.symm
            · exact (neZ.2.1 M q).2.1 rfl
          · rintro b (q | q | q | q)
            · exact .inl (.inl q)
            · exact .inl (.inr (.inl q))
            · simp only [Value.ownBlock, Option.some.injEq] at q
              subst q
              rcases hat7 with q | q
              · exact .inl (.inr (.inr (.inl q)))
              · exact .inr (by rw [q]; simp; have := k7b.size; omega)
            · exact ob b q
        clear hS hS7 bc7 bf7 b7 q7 CZ
        go_wp2_with fail
        exact bodyPost_end (results_none rfl _ _ _) rfl ⟨rfl, _, _, HEND.out⟩
  have TAIL : Hid _ := tail
  clear tail
  refine wp_region_noPanic ?_
  refine wp_region_held (S := fun W => (∀ j, W.cell? ⟨cb, j, none⟩ = (#[.slice ap all.length ac, .slice op opn.length oc, .map (some M)] : Array Value)[j]?) ∧ (∀ j, W.cell? ⟨w.heap.size, j, none⟩ = (#[.int .i64 ek, .int .i64 a, .string t] : Array Value)[j]?)) (by kernel_rfl) ?_
  obtain ⟨W4, hW4⟩ : ∃ W4, W4 = (U).drew := ⟨_, rfl⟩
  have e4 : ({ U with drawn := (U).drawn + 1 } : World) = W4 := hW4.symm
  rw [e4]
  have hB4 : Below (U).heap.size (U) W4 := by rw [hW4]; exact (Below.refl _ _).drew
  have hS : (∀ j, W4.cell? ⟨cb, j, none⟩ = (#[.slice ap all.length ac, .slice op opn.length oc, .map (some M)] : Array Value)[j]?) ∧ (∀ j, W4.cell? ⟨w.heap.size, j, none⟩ = (#[.int .i64 ek, .int .i64 a, .string t] : Array Value)[j]?) := ⟨(cells_of ((hB4.block _ (heap_lt C0.box)).trans C0.box)).1, (cells_of ((hB4.block _ y0).trans e0)).1⟩
  have HW4 : Hid (W4 = (U).drew) := hW4
  clear e4 hW4
  refine wpAnyH_take (i := 0) (v := .agg #[.int .i64 ek, .int .i64 a, .string t]) rfl (by kernel_rfl) (by kernel_rfl) (by kernel_rfl) (fun _ _ _ h => h) (Or.inl ⟨by rfl, ?r⟩) hS ?_
  case r => intro W hW; simp [go_sem, execOp, Act.eval, hW.2]
  simp only [List.getElem_toArray, List.getElem_cons_zero, Act.put, List.setIfInBounds_toArray, List.set_cons_succ, List.set_cons_zero]
  refine wpAnyH_take (i := 2) (v := .pointer (some ⟨cb, 0, none⟩)) rfl (by kernel_rfl) (by kernel_rfl) (by kernel_rfl) (fun _ _ _ h => h) (Or.inl ⟨by rfl, ?r⟩) hS ?_
  case r => intro W hW; simp [go_sem, execOp, Act.eval]
  simp only [List.getElem_toArray, List.getElem_cons_zero, List.getElem_cons_succ, Act.put, List.setIfInBounds_toArray, List.set_cons_succ, List.set_cons_zero]
  refine wpAnyH_take (i := 3) (v := .pointer (some ⟨cb, 0, none⟩)) rfl (by kernel_rfl) (by kernel_rfl) (by kernel_rfl) (fun _ _ _ h => h) (Or.inl ⟨by rfl, ?r⟩) hS ?_
  case r => intro W hW; simp [go_sem, execOp, Act.eval]
  simp only [List.getElem_toArray, List.getElem_cons_zero, List.getElem_cons_succ, Act.put, List.setIfInBounds_toArray, List.set_cons_succ, List.set_cons_zero]
  refine wpAnyH_take (i := 4) (v := .pointer (some ⟨cb, 1, none⟩)) rfl (by kernel_rfl) (by kernel_rfl) (by kernel_rfl) (fun _ _ _ h => h) (Or.inl ⟨by rfl, ?r⟩) hS ?_
  case r => intro W hW; simp [go_sem, execOp, Act.eval]
  simp only [List.getElem_toArray, List.getElem_cons_zero, List.getElem_cons_succ, Act.put, List.setIfInBounds_toArray, List.set_cons_succ, List.set_cons_zero]
  refine wpAnyH_take (i := 5) (v := .slice op opn.length oc) rfl (by kernel_rfl) (by kernel_rfl) (by kernel_rfl) (fun _ _ _ h => h) (Or.inl ⟨by rfl, ?r⟩) hS ?_
  case r => intro W hW; simp [go_sem, execOp, Act.eval, hW.1]
  simp only [List.getElem_toArray, List.getElem_cons_zero, List.getElem_cons_succ, Act.put, List.setIfInBounds_toArray, List.set_cons_succ, List.set_cons_zero]
  refine wpAnyH_take (i := 6) (v := .int .i64 (opn.length : Int)) rfl (by kernel_rfl) (by kernel_rfl) (by kernel_rfl) (fun _ _ _ h => h) (Or.inl ⟨by rfl, ?r⟩) hS ?_
  case r => intro W hW; simp [go_sem, execOp, Act.eval]
  simp only [List.getElem_toArray, List.getElem_cons_zero, List.getElem_cons_succ, Act.put, List.setIfInBounds_toArray, List.set_cons_succ, List.set_cons_zero]
  refine wpAnyH_take (i := 7) (v := .int .i64 ((opn.length : Int) + 1)) rfl (by kernel_rfl) (by kernel_rfl) (by kernel_rfl) (fun _ _ _ h => h) (Or.inl ⟨by rfl, ?r⟩) hS ?_
  case r => intro W hW; (simp [go_sem, execOp, Act.eval]; rw [IntKind.wrap_i64]; omega)
  simp only [List.getElem_toArray, List.getElem_cons_zero, List.getElem_cons_succ, Act.put, List.setIfInBounds_toArray, List.set_cons_succ, List.set_cons_zero]
  have C1 := C0.below hB4
  have w4 : Below w.heap.size w W4 := u0.trans (hB4.mono (Nat.le_of_lt y0))
  have y1 : w.heap.size < W4.heap.size := Nat.lt_of_lt_of_le y0 hB4.size
  have hS1 := hS
  clear hB4 HW4 C0 u0 e0
  refine wpAnyH_all (rs := [1, 9]) (by kernel_rfl) (by simp) (fun i2 hi2 => ?_)
  rcases (by simpa using hi2 : i2 = 1 ∨ i2 = 9) with rfl | rfl
  · refine wpOp_step rfl (fun K hK => ite_yes rfl ?_)
    simp only [List.getElem_toArray, List.getElem_cons_zero, List.getElem_cons_succ]
    go_simp
    refine (markOf_any ⟨ek, a, t⟩ _).mono ?_
    rintro _ X ⟨rfl, hX⟩
    have x4 : Below W4.heap.size W4 X := by rw [hX]; exact below2 W4 _ _
    clear hX
    go_simp
    have hSX : (∀ j, X.cell? ⟨cb, j, none⟩ = (#[.slice ap all.length ac, .slice op opn.length oc, .map (some M)] : Array Value)[j]?) ∧ (∀ j, X.cell? ⟨w.heap.size, j, none⟩ = (#[.int .i64 ek, .int .i64 a, .string t] : Array Value)[j]?) := ⟨fun j => (x4.cell (p := ⟨cb, j, none⟩) (heap_lt C1.box)).trans (hS.1 j), fun j => (x4.cell (p := ⟨w.heap.size, j, none⟩) y1).trans (hS.2 j)⟩
    refine hK _ _ ⟨hSX, ?_⟩
    clear hK K
    try simp only [Act.put, List.setIfInBounds_toArray, List.set_cons_succ, List.set_cons_zero]
    clear hS
    have hS := hSX
    refine wpAnyH_take (i := 8) (v := .agg #[.int .i64 a, .string t, .int .i64 ((opn.length : Int) + 1), .bool false, .int .i64 (-1)]) rfl (by kernel_rfl) (by kernel_rfl) (by kernel_rfl) (fun _ _ _ h => h) (Or.inl ⟨by rfl, ?r⟩) hS ?_
    case r => intro W hW; simp [go_sem, execOp, Act.eval]
    simp only [List.getElem_toArray, List.getElem_cons_zero, List.getElem_cons_succ, Act.put, List.setIfInBounds_toArray, List.set_cons_succ, List.set_cons_zero]
    refine wpAnyH_all (rs := [9]) (by kernel_rfl) (by simp) (fun i2 hi2 => ?_)
    obtain rfl : i2 = 9 := by simpa using hi2
    clear hi2
    refine wpOp_step rfl (fun K hK => ite_yes rfl ?_)
    simp only [List.getElem_toArray, List.getElem_cons_zero, List.getElem_cons_succ]
    go_simp
    have r9 : (X.alloc (.cells #[.int .i64 0, .string ⟨#[]⟩, .int .i64 0, .bool false, .int .i64 0] 69)).heap[X.heap.size]? = some (.cells #[.int .i64 0, .string ⟨#[]⟩, .int .i64 0, .bool false, .int .i64 0] 69) := heap_alloc_new _ _
    have x9 : Below W4.heap.size W4 (X.alloc (.cells #[.int .i64 0, .string ⟨#[]⟩, .int .i64 0, .bool false, .int .i64 0] 69)) := x4.alloc x4.size _
    have nb9 : w.heap.size ≤ X.heap.size := by have := x4.size; omega
    have y9 : W4.heap.size ≤ X.heap.size := x4.size
    obtain ⟨nb, hnbe⟩ : ∃ n, n = X.heap.size := ⟨_, rfl⟩
    obtain ⟨V, hV⟩ : ∃ W, W = X.alloc (.cells #[.int .i64 0, .string ⟨#[]⟩, .int .i64 0, .bool false, .int .i64 0] 69) := ⟨_, rfl⟩
    rw [← hnbe] at r9 nb9 y9
    rw [← hV] at r9 x9
    rw [← hnbe, ← hV]
    clear hnbe hV
    have hSV : (∀ j, V.cell? ⟨cb, j, none⟩ = (#[.slice ap all.length ac, .slice op opn.length oc, .map (some M)] : Array Value)[j]?) ∧ (∀ j, V.cell? ⟨w.heap.size, j, none⟩ = (#[.int .i64 ek, .int .i64 a, .string t] : Array Value)[j]?) := ⟨fun j => (x9.cell (p := ⟨cb, j, none⟩) (heap_lt C1.box)).trans (hS1.1 j), fun j => (x9.cell (p := ⟨w.heap.size, j, none⟩) y1).trans (hS1.2 j)⟩
    refine hK _ _ ⟨hSV, ?_⟩
    clear hK K
    try simp only [Act.put, List.setIfInBounds_toArray, List.set_cons_succ, List.set_cons_zero]
    clear hS
    have hS := hSV
    refine wpAnyH_all (rs := [10]) (by kernel_rfl) (by simp) (fun i2 hi2 => ?_)
    obtain rfl : i2 = 10 := by simpa using hi2
    clear hi2
    refine wpOp_step rfl (fun K hK => ite_yes rfl ?_)
    simp only [List.getElem_toArray, List.getElem_cons_zero, List.getElem_cons_succ]
    refine wp_store_row 69 _ _ rfl nb _ rfl rfl 69 _ r9 size69 rfl (by simp [Value.oneCell']) ?_
    have xr : Below W4.heap.size W4 (V.setRow nb #[.int .i64 a, .string t, .int .i64 ((opn.length : Int) + 1), .bool false, .int .i64 (-1)]) := x9.trans ⟨rfl, rfl, rfl, by simp, fun k hk => setRow_other _ _ _ _ (by omega)⟩
    refine hK _ _ ⟨⟨fun j => (xr.cell (p := ⟨cb, j, none⟩) (heap_lt C1.box)).trans (hS1.1 j), fun j => (xr.cell (p := ⟨w.heap.size, j, none⟩) y1).trans (hS1.2 j)⟩, ?_⟩
    clear hK K
    refine wpAnyH_done (by kernel_rfl) ?_ _
    refine NoPanic.normal ?_
    try simp only [Act.put]
    exact TAIL.out nb _ (w4.trans (xr.mono w4.size)) (C1.below xr) nb9 (setRow_heap _ _ _ _ 69 (0, 0) r9)
  · refine wpOp_step rfl (fun K hK => ite_yes rfl ?_)
    simp only [List.getElem_toArray, List.getElem_cons_zero, List.getElem_cons_succ]
    go_simp
    have r8 : (W4.alloc (.cells #[.int .i64 0, .string ⟨#[]⟩, .int .i64 0, .bool false, .int .i64 0] 69)).heap[W4.heap.size]? = some (.cells #[.int .i64 0, .string ⟨#[]⟩, .int .i64 0, .bool false, .int .i64 0] 69) := heap_alloc_new _ _
    have x8 : Below W4.heap.size W4 (W4.alloc (.cells #[.int .i64 0, .string ⟨#[]⟩, .int .i64 0, .bool false, .int .i64 0] 69)) := below1 W4 _
    obtain ⟨nb, hnbe⟩ : ∃ n, n = W4.heap.size := ⟨_, rfl⟩
    obtain ⟨V0, hV0⟩ : ∃ W, W = W4.alloc (.cells #[.int .i64 0, .string ⟨#[]⟩, .int .i64 0, .bool false, .int .i64 0] 69) := ⟨_, rfl⟩
    have nb9 : w.heap.size ≤ nb := by omega
    have y9 : W4.heap.size ≤ nb := by omega
    rw [← hnbe, ← hV0] at r8
    rw [← hV0] at x8
    rw [← hnbe, ← hV0]
    clear hV0 hnbe
    have hS8 : (∀ j, V0.cell? ⟨cb, j, none⟩ = (#[.slice ap all.length ac, .slice op opn.length oc, .map (some M)] : Array Value)[j]?) ∧ (∀ j, V0.cell? ⟨w.heap.size, j, none⟩ = (#[.int .i64 ek, .int .i64 a, .string t] : Array Value)[j]?) := ⟨fun j => (x8.cell (p := ⟨cb, j, none⟩) (heap_lt C1.box)).trans (hS.1 j), fun j => (x8.cell (p := ⟨w.heap.size, j, none⟩) y1).trans (hS.2 j)⟩
    refine hK _ _ ⟨hS8, ?_⟩
    clear hK K
    try simp only [Act.put, List.setIfInBounds_toArray, List.set_cons_succ, List.set_cons_zero]
    clear hS
    have hS := hS8
    refine wpAnyH_all (rs := [1]) (by kernel_rfl) (by simp) (fun i2 hi2 => ?_)
    obtain rfl : i2 = 1 := by simpa using hi2
    clear hi2
    refine wpOp_step rfl (fun K hK => ite_yes rfl ?_)
    simp only [List.getElem_toArray, List.getElem_cons_zero, List.getElem_cons_succ]
    go_simp
    refine (markOf_any ⟨ek, a, t⟩ _).mono ?_
    rintro _ V ⟨rfl, hV⟩
    have x10 : Below V0.heap.size V0 V := by rw [hV]; exact below2 V0 _ _
    have x9 : Below W4.heap.size W4 V := x8.trans (x10.mono x8.size)
    have r9 := (x10.block _ (heap_lt r8)).trans r8
    clear hV
    go_simp
    have hSV : (∀ j, V.cell? ⟨cb, j, none⟩ = (#[.slice ap all.length ac, .slice op opn.length oc, .map (some M)] : Array Value)[j]?) ∧ (∀ j, V.cell? ⟨w.heap.size, j, none⟩ = (#[.int .i64 ek, .int .i64 a, .string t] : Array Value)[j]?) := ⟨fun j => (x9.cell (p := ⟨cb, j, none⟩) (heap_lt C1.box)).trans (hS1.1 j), fun j => (x9.cell (p := ⟨w.heap.size, j, none⟩) y1).trans (hS1.2 j)⟩
    refine hK _ _ ⟨hSV, ?_⟩
    clear hK K
    try simp only [Act.put, List.setIfInBounds_toArray, List.set_cons_succ, List.set_cons_zero]
    clear hS
    have hS := hSV
    refine wpAnyH_take (i := 8) (v := .agg #[.int .i64 a, .string t, .int .i64 ((opn.length : Int) + 1), .bool false, .int .i64 (-1)]) rfl (by kernel_rfl) (by kernel_rfl) (by kernel_rfl) (fun _ _ _ h => h) (Or.inl ⟨by rfl, ?r⟩) hS ?_
    case r => intro W hW; simp [go_sem, execOp, Act.eval]
    simp only [List.getElem_toArray, List.getElem_cons_zero, List.getElem_cons_succ, Act.put, List.setIfInBounds_toArray, List.set_cons_succ, List.set_cons_zero]
    refine wpAnyH_all (rs := [10]) (by kernel_rfl) (by simp) (fun i2 hi2 => ?_)
    obtain rfl : i2 = 10 := by simpa using hi2
    clear hi2
    refine wpOp_step rfl (fun K hK => ite_yes rfl ?_)
    simp only [List.getElem_toArray, List.getElem_cons_zero, List.getElem_cons_succ]
    refine wp_store_row 69 _ _ rfl nb _ rfl rfl 69 _ r9 size69 rfl (by simp [Value.oneCell']) ?_
    have xr : Below W4.heap.size W4 (V.setRow nb #[.int .i64 a, .string t, .int .i64 ((opn.length : Int) + 1), .bool false, .int .i64 (-1)]) := x9.trans ⟨rfl, rfl, rfl, by simp, fun k hk => setRow_other _ _ _ _ (by omega)⟩
    refine hK _ _ ⟨⟨fun j => (xr.cell (p := ⟨cb, j, none⟩) (heap_lt C1.box)).trans (hS1.1 j), fun j => (xr.cell (p := ⟨w.heap.size, j, none⟩) y1).trans (hS1.2 j)⟩, ?_⟩
    clear hK K
    refine wpAnyH_done (by kernel_rfl) ?_ _
    refine NoPanic.normal ?_
    try simp only [Act.put]
    exact TAIL.out nb _ (w4.trans (xr.mono w4.size)) (C1.below xr) nb9 (setRow_heap _ _ _ _ 69 (0, 0) r9)

end Go.Proofs.YtapakbibofnhkaaDoor
