/-
  A call ends: trace.end.
-/
import Derived.Test.YtapakbibofnhkaaDoorP
namespace Go.Proofs.YtapakbibofnhkaaDoor
open Go.RowKit Go.ChangeMaps

theorem own_take {w : World} {base : Nat} {e : TypeId} {g n cap : Nat} {xs : List Value} (h : w.ownsRow base e 1 (.slice (some ⟨g, 0, none⟩) n cap) n xs) (j : Nat) (hj : j ≤ n) : w.ownsRow base e 1 (.slice (some ⟨g, 0, none⟩) j cap) j (xs.take j) := by
  obtain ⟨hlen, h2⟩ := h
  refine ⟨by rw [List.length_take]; omega, ?_⟩
  rcases h2 with ⟨h0, _⟩ | ⟨g', cap', cur, h1, h2, h3, h4, h5, h6, h7⟩
  · cases h0
  · cases h1
    refine .inr ⟨g, cap, cur, rfl, h2, h3, by omega, h5, h6, ?_⟩
    rw [← h7, List.take_take]
    congr 1
    omega
theorem own_form {w : World} {base : Nat} {e : TypeId} {size : Nat} {v : Value} {n : Nat} {xs : List Value} (h : w.ownsRow base e size v n xs) (hn : 0 < n) : ∃ g cap, v = .slice (some ⟨g, 0, none⟩) n cap ∧ n ≤ cap := by
  rcases h.2 with ⟨_, h0⟩ | ⟨g, cap, cur, hv, hb, hg, hc, hm, hs, ht⟩
  · omega
  · exact ⟨g, cap, hv, hc⟩
theorem fM_top {all : List Cl} {opn : List Nat} {q : Nat} : fM all opn (q + 1) (mkAt all opn q) = some (opn.getD q 0) := by rw [fM_succ, keq_self, if_pos rfl]
theorem fM_leave (all : List Cl) (opn : List Nat) (q : Nat) (v : Option Nat) (hv : fM all opn q (mkAt all opn q) = v) : (fun x => if keq x (mkAt all opn q) then v else fM all opn (q + 1) x) = fM all opn q := by
  funext x
  by_cases hx : keq x (mkAt all opn q) = true
  · simp only [hx, if_true]
    rw [keq_iff.1 hx, hv]
  · simp only [hx]
    rw [fM_succ]
    simp [hx]
/-- leave of the q-th open call. -/
theorem leave_any (B cb M : Nat) (av ov : Value) (all0 all : List Cl) (opn : List Nat) (hI : Inv all opn) (q : Nat) (hq : q < opn.length) (c : Cl) (hc : (all[opn.getD q 0]?).map (fun c => (c.a, c.t, c.r)) = some (c.a, c.t, c.r)) (w : World) (h : CAt B cb M av ov all0 opn (fM all opn (q + 1)) w) :
    Calls Tryd.prog 34 #[.pointer (some ⟨cb, 0, none⟩), .agg #[.int .i64 c.a, .string c.t, .int .i64 (c.d : Int), .bool c.e, .int .i64 c.r]] w fun r w' => r = .returned (.tuple #[]) ∧ CAt B cb M av ov all0 opn (fM all opn q) w' ∧ KS (· = M) w w' := by
  have hm : mkAt all opn q = (c.a, c.t) := by
    unfold mkAt
    cases hx : all[opn.getD q 0]? with
    | none => rw [hx] at hc; simp at hc
    | some x => rw [hx] at hc; simp at hc; simp [hc]
  have hr := hI.arn q hq
  have hr2 : c.r = rOf all opn (mkAt all opn q) q := by
    cases hx : all[opn.getD q 0]? with
    | none => rw [hx] at hc; simp at hc
    | some x => rw [hx] at hc hr; simp at hc hr; rw [← hr, hc.2.2]
  unfold rOf at hr2
  cases hv : fM all opn q (mkAt all opn q) with
  | none =>
    rw [hv] at hr2
    have h1 := leave_del B cb M av ov all0 opn _ c.a (c.d : Int) c.t c.e c.r (by rw [hr2]; decide) (opn.getD q 0) (by rw [← hm]; exact fM_top) w h
    rw [← hm, fM_leave all opn q none hv] at h1
    exact h1
  | some n =>
    rw [hv] at hr2
    have h1 := leave_set B cb M av ov all0 opn _ c.a (c.d : Int) c.t c.e n w h
    rw [← hm, fM_leave all opn q (some n) hv] at h1
    rw [hr2]
    exact h1
/-- The open calls are left, from the innermost on. -/
def ERel (B cb M : Nat) (av ov : Value) (all0 all : List Cl) (opn : List Nat) (j0 : Nat) (w : World) (i : Value) (wr : World) : Prop := ∃ k : Nat, i = .int .i64 ((k : Int) - 1) ∧ j0 ≤ k ∧ k ≤ opn.length ∧ CAt B cb M av ov all0 opn (fM all opn k) wr ∧ KS (cS cb M av ov) w wr

set_option maxRecDepth 100000 in
set_option maxHeartbeats 4000000 in
theorem end_any (B cb M ga go ac oc : Nat) (all : List Cl) (opn : List Nat) (ek a : Int) (t : ByteArray) (w : World) (h : CAt B cb M (.slice (some ⟨ga, 0, none⟩) all.length ac) (.slice (some ⟨go, 0, none⟩) opn.length oc) all opn (fM all opn opn.length) w) (hI : Inv all opn) (j0 n0 : Nat) (hj : down (pm all opn (a, t)) opn.length = some j0) (hn0 : opn.getD j0 0 = n0) (hlo : opn.length ≤ 1048576) (hoc : opn.length ≤ oc) :
    Calls Tryd.prog 25 #[.pointer (some ⟨cb, 0, none⟩), .agg #[.int .i64 ek, .int .i64 a, .string t]] w fun r w' => r = .returned (.tuple #[]) ∧ CAt B cb M (.slice (some ⟨ga, 0, none⟩) all.length ac) (.slice (some ⟨go, 0, none⟩) j0 oc) (endAll all n0) (opn.take j0) (fM all opn j0) w' ∧ KS (cS cb M (.slice (some ⟨ga, 0, none⟩) all.length ac) (.slice (some ⟨go, 0, none⟩) opn.length oc)) w w' := by
  have hd := down_some hj
  have hjl := hd.1
  have hnl : n0 < all.length := by rw [← hn0]; exact hI.lt j0 hjl
  have hf : fM all opn opn.length (a, t) = some n0 := by unfold fM; rw [hj, Option.map_some, hn0]
  obtain ⟨c0, hc0⟩ : ∃ c, all[n0]? = some c := ⟨_, List.getElem?_eq_getElem hnl⟩
  have hdep : (c0.d : Int) = (j0 : Int) + 1 := by
    have := hI.dep j0 hjl
    rw [hn0, hc0] at this
    simp at this; omega
  have h0 : Hid _ := h
  have HI : Hid _ := hI
  have HC0 : Hid _ := hc0
  have hcs := heap_lt h.box
  have HLK : Hid (∀ W, Below w.heap.size w W → (Instr.lookup 49 (.map (some M)) (.agg #[.int .i64 a, .string t]) false).run Tryd.prog W = .ok (.int .i64 (n0 : Int)) W) := fun W hW => look_map1 (h.map.kept (hW.block _ h.map.lt)) (a, t) n0 hf
  have hlen : (endAll all n0).length = all.length := by simp [endAll]
  have HLEN : Hid _ := hlen
  have ix : (n0 : Int) < all.length := by omega
  have jx : (j0 : Int) < opn.length := by omega
  clear h hI hf hj hn0 hd hc0 hlen
  go_enter Tryd.func25, Tryd.ntmps25
  go_wp2_with fail
  obtain ⟨U, hU⟩ : ∃ W, W = w.alloc (.cells #[.int .i64 ek, .int .i64 a, .string t] 33) := ⟨_, rfl⟩
  rw [← hU]
  have u0 : Below w.heap.size w U := by rw [hU]; exact below1 w _
  have e0 : U.heap[w.heap.size]? = some (.cells #[.int .i64 ek, .int .i64 a, .string t] 33) := by rw [hU]; exact heap_alloc_new _ _
  have C0 := h0.out.below u0
  have y0 := heap_lt e0
  clear hU
  refine wp_region_noPanic ?_
  refine wp_region_held (S := fun W => (∀ j, W.cell? ⟨cb, j, none⟩ = (#[.slice (some ⟨ga, 0, none⟩) all.length ac, .slice (some ⟨go, 0, none⟩) opn.length oc, .map (some M)] : Array Value)[j]?) ∧ (∀ j, W.cell? ⟨w.heap.size, j, none⟩ = (#[.int .i64 ek, .int .i64 a, .string t] : Array Value)[j]?)) (by kernel_rfl) ?_
  obtain ⟨W4, hW4⟩ : ∃ W4, W4 = (U).drew := ⟨_, rfl⟩
  have e4 : ({ U with drawn := (U).drawn + 1 } : World) = W4 := hW4.symm
  rw [e4]
  have hB4 : Below (U).heap.size (U) W4 := by rw [hW4]; exact (Below.refl _ _).drew
  have hS : (∀ j, W4.cell? ⟨cb, j, none⟩ = (#[.slice (some ⟨ga, 0, none⟩) all.length ac, .slice (some ⟨go, 0, none⟩) opn.length oc, .map (some M)] : Array Value)[j]?) ∧ (∀ j, W4.cell? ⟨w.heap.size, j, none⟩ = (#[.int .i64 ek, .int .i64 a, .string t] : Array Value)[j]?) := ⟨(cells_of ((hB4.block _ (heap_lt C0.box)).trans C0.box)).1, (cells_of ((hB4.block _ y0).trans e0)).1⟩
  have HW4 : Hid (W4 = (U).drew) := hW4
  clear e4 hW4
  refine wpAnyH_take (i := 0) (v := .pointer (some ⟨cb, 0, none⟩)) rfl (by kernel_rfl) (by kernel_rfl) (by kernel_rfl) (fun _ _ _ h => h) (Or.inl ⟨by rfl, ?r⟩) hS ?_
  case r => intro W hW; simp [go_sem, execOp, Act.eval]
  simp only [List.getElem_toArray, List.getElem_cons_zero, Act.put, List.setIfInBounds_toArray, List.set_cons_succ, List.set_cons_zero]
  refine wpAnyH_take (i := 1) (v := .pointer (some ⟨cb, 0, none⟩)) rfl (by kernel_rfl) (by kernel_rfl) (by kernel_rfl) (fun _ _ _ h => h) (Or.inl ⟨by rfl, ?r⟩) hS ?_
  case r => intro W hW; simp [go_sem, execOp, Act.eval]
  simp only [List.getElem_toArray, List.getElem_cons_zero, List.getElem_cons_succ, Act.put, List.setIfInBounds_toArray, List.set_cons_succ, List.set_cons_zero]
  refine wpAnyH_take (i := 2) (v := .pointer (some ⟨cb, 0, none⟩)) rfl (by kernel_rfl) (by kernel_rfl) (by kernel_rfl) (fun _ _ _ h => h) (Or.inl ⟨by rfl, ?r⟩) hS ?_
  case r => intro W hW; simp [go_sem, execOp, Act.eval]
  simp only [List.getElem_toArray, List.getElem_cons_zero, List.getElem_cons_succ, Act.put, List.setIfInBounds_toArray, List.set_cons_succ, List.set_cons_zero]
  refine wpAnyH_take (i := 3) (v := .slice (some ⟨ga, 0, none⟩) all.length ac) rfl (by kernel_rfl) (by kernel_rfl) (by kernel_rfl) (fun _ _ _ h => h) (Or.inl ⟨by rfl, ?r⟩) hS ?_
  case r => intro W hW; simp [go_sem, execOp, Act.eval, hW.1]
  simp only [List.getElem_toArray, List.getElem_cons_zero, List.getElem_cons_succ, Act.put, List.setIfInBounds_toArray, List.set_cons_succ, List.set_cons_zero]
  refine wpAnyH_take (i := 4) (v := .pointer (some ⟨cb, 0, none⟩)) rfl (by kernel_rfl) (by kernel_rfl) (by kernel_rfl) (fun _ _ _ h => h) (Or.inl ⟨by rfl, ?r⟩) hS ?_
  case r => intro W hW; simp [go_sem, execOp, Act.eval]
  simp only [List.getElem_toArray, List.getElem_cons_zero, List.getElem_cons_succ, Act.put, List.setIfInBounds_toArray, List.set_cons_succ, List.set_cons_zero]
  refine wpAnyH_take (i := 5) (v := .pointer (some ⟨cb, 0, none⟩)) rfl (by kernel_rfl) (by kernel_rfl) (by kernel_rfl) (fun _ _ _ h => h) (Or.inl ⟨by rfl, ?r⟩) hS ?_
  case r => intro W hW; simp [go_sem, execOp, Act.eval]
  simp only [List.getElem_toArray, List.getElem_cons_zero, List.getElem_cons_succ, Act.put, List.setIfInBounds_toArray, List.set_cons_succ, List.set_cons_zero]
  refine wpAnyH_take (i := 6) (v := .pointer (some ⟨cb, 2, none⟩)) rfl (by kernel_rfl) (by kernel_rfl) (by kernel_rfl) (fun _ _ _ h => h) (Or.inl ⟨by rfl, ?r⟩) hS ?_
  case r => intro W hW; simp [go_sem, execOp, Act.eval]
  simp only [List.getElem_toArray, List.getElem_cons_zero, List.getElem_cons_succ, Act.put, List.setIfInBounds_toArray, List.set_cons_succ, List.set_cons_zero]
  refine wpAnyH_take (i := 7) (v := .map (some M)) rfl (by kernel_rfl) (by kernel_rfl) (by kernel_rfl) (fun _ _ _ h => h) (Or.inl ⟨by rfl, ?r⟩) hS ?_
  case r => intro W hW; simp [go_sem, execOp, Act.eval, hW.1]
  simp only [List.getElem_toArray, List.getElem_cons_zero, List.getElem_cons_succ, Act.put, List.setIfInBounds_toArray, List.set_cons_succ, List.set_cons_zero]
  refine wpAnyH_take (i := 8) (v := .agg #[.int .i64 ek, .int .i64 a, .string t]) rfl (by kernel_rfl) (by kernel_rfl) (by kernel_rfl) (fun _ _ _ h => h) (Or.inl ⟨by rfl, ?r⟩) hS ?_
  case r => intro W hW; simp [go_sem, execOp, Act.eval, hW.2]
  simp only [List.getElem_toArray, List.getElem_cons_zero, List.getElem_cons_succ, Act.put, List.setIfInBounds_toArray, List.set_cons_succ, List.set_cons_zero]
  have C1 := C0.below hB4
  have w4 : Below w.heap.size w W4 := u0.trans (hB4.mono (Nat.le_of_lt y0))
  have y1 : w.heap.size < W4.heap.size := Nat.lt_of_lt_of_le y0 hB4.size
  clear hB4 HW4 C0 u0 e0
  refine wpAnyH_all (rs := [9]) (by kernel_rfl) (by simp) (fun i2 hi2 => ?_)
  obtain rfl : i2 = 9 := by simpa using hi2
  clear hi2
  refine wpOp_step rfl (fun K hK => ite_yes rfl ?_)
  simp only [List.getElem_toArray, List.getElem_cons_zero, List.getElem_cons_succ]
  go_simp
  refine (markOf_any ⟨ek, a, t⟩ _).mono ?_
  rintro _ X ⟨rfl, hX⟩
  have x4 : Below W4.heap.size W4 X := by rw [hX]; exact below2 W4 _ _
  have wx : Below w.heap.size w X := w4.trans (x4.mono w4.size)
  have CX := C1.below x4
  have hl := HLK.out X wx
  clear hX
  go_simp
  have hSX : (∀ j, X.cell? ⟨cb, j, none⟩ = (#[.slice (some ⟨ga, 0, none⟩) all.length ac, .slice (some ⟨go, 0, none⟩) opn.length oc, .map (some M)] : Array Value)[j]?) ∧ (∀ j, X.cell? ⟨w.heap.size, j, none⟩ = (#[.int .i64 ek, .int .i64 a, .string t] : Array Value)[j]?) := ⟨fun j => (x4.cell (p := ⟨cb, j, none⟩) (heap_lt C1.box)).trans (hS.1 j), fun j => (x4.cell (p := ⟨w.heap.size, j, none⟩) y1).trans (hS.2 j)⟩
  refine hK _ _ ⟨hSX, ?_⟩
  clear hK K
  try simp only [Act.put, List.setIfInBounds_toArray, List.set_cons_succ, List.set_cons_zero]
  clear hS
  have hS := hSX
  refine wpAnyH_all (rs := [10]) (by kernel_rfl) (by simp) (fun i2 hi2 => ?_)
  obtain rfl : i2 = 10 := by simpa using hi2
  clear hi2
  refine wpOp_step rfl (fun K hK => ite_yes rfl ?_)
  simp only [List.getElem_toArray, List.getElem_cons_zero, List.getElem_cons_succ]
  go_simp
  refine hK _ _ ⟨hSX, ?_⟩
  clear hK K
  try simp only [Act.put, List.setIfInBounds_toArray, List.set_cons_succ, List.set_cons_zero]
  refine wpAnyH_take (i := 11) (v := .pointer (some ⟨ga, n0 * 5, none⟩)) rfl (by kernel_rfl) (by kernel_rfl) (by kernel_rfl) (fun _ _ _ h => h) (Or.inl ⟨by rfl, ?r⟩) hS ?_
  case r => intro W hW; simp [go_sem, execOp, Act.eval, ix]
  simp only [List.getElem_toArray, List.getElem_cons_zero, List.getElem_cons_succ, Act.put, List.setIfInBounds_toArray, List.set_cons_succ, List.set_cons_zero]
  refine wpAnyH_take (i := 12) (v := .pointer (some ⟨ga, n0 * 5, none⟩)) rfl (by kernel_rfl) (by kernel_rfl) (by kernel_rfl) (fun _ _ _ h => h) (Or.inl ⟨by rfl, ?r⟩) hS ?_
  case r => intro W hW; simp [go_sem, execOp, Act.eval]
  simp only [List.getElem_toArray, List.getElem_cons_zero, List.getElem_cons_succ, Act.put, List.setIfInBounds_toArray, List.set_cons_succ, List.set_cons_zero]
  refine wpAnyH_done (by kernel_rfl) ?_ _
  refine NoPanic.normal ?_
  try simp only [Act.put]
  have kx : KS (cS cb M (.slice (some ⟨ga, 0, none⟩) all.length ac) (.slice (some ⟨go, 0, none⟩) opn.length oc)) w X := KS.of wx
  have hg5 := fun j (hj : j < 5) => flat_get cl5_len all n0 c0 HC0.out j hj
  have c2 := own_cells CX.rows (n0 * 5 + 2) (.int .i64 (c0.d : Int)) (hg5 2 (by decide))
  have c3 := own_cells CX.rows (n0 * 5 + 3) (.bool c0.e) (hg5 3 (by decide))
  rw [hdep] at c2
  obtain ⟨c2, f2⟩ := c2
  obtain ⟨c3, f3⟩ := c3
  have HCX : Hid _ := CX
  have HKX : Hid _ := kx
  have nex := CX.ne
  have hgc : ga ≠ cb := (nex.2.1 ga rfl).1
  have hbx2 : ∀ v, (X.setCell ⟨ga, n0 * 5 + 3, none⟩ v).heap[cb]? = some (.cells #[.slice (some ⟨ga, 0, none⟩) all.length ac, .slice (some ⟨go, 0, none⟩) opn.length oc, .map (some M)] 52) := fun v => (heap_set_other _ _ _ _ _ hgc.symm).trans CX.box
  have cb2 := fun v => (cells_of (hbx2 v)).1
  clear hS hSX hl hg5 CX kx C1 w4 x4 wx nex hbx2
  go_wp2_with fail
  obtain ⟨Y, hY⟩ : ∃ W, W = X.setCell ⟨ga, n0 * 5 + 3, none⟩ (.bool true) := ⟨_, rfl⟩
  rw [← hY]
  have ky : KS (· = ga) X Y := by rw [hY]; exact KS.set _ _ _ _ _ rfl
  have nex := HCX.out.ne
  have HYR : Hid (ERel B cb M (.slice (some ⟨ga, 0, none⟩) all.length ac) (.slice (some ⟨go, 0, none⟩) opn.length oc) (endAll all n0) all opn j0 w (.int .i64 ((opn.length : Int) - 1)) Y) := by
    refine ⟨opn.length, rfl, by omega, Nat.le_refl _, ⟨(ky.block _ (heap_lt HCX.out.box) (nex.2.1 ga rfl).1.symm).trans HCX.out.box, ?_, own_kept HCX.out.opns (fun g hg => ky.block g (HCX.out.opns.lt g hg).2 (fun q => (nex.2.1 ga rfl).2.2.1 (q ▸ hg))), HCX.out.map.kept (ky.block _ HCX.out.map.lt (nex.2.1 ga rfl).2.1.symm), h0.out.cbB, h0.out.MB⟩, HKX.out.trans ky (fun b _ q => .inr (.inr (.inl (by rw [q]; rfl))))⟩
    have h5 := own_setC HCX.out.rows (n0 * 5 + 3) (.bool true)
    rw [flat_set cl5_len (fun c : Cl => { c with e := true }) 3 (by decide) (.bool true) (fun _ => rfl) all n0 hnl, ← hY] at h5
    rw [HLEN.out]
    exact h5
  clear hY ky nex c2 f2 c3 f3 cb2 HCX HKX HLK
  go_loopw [6] (fun i wr => ERel B cb M (.slice (some ⟨ga, 0, none⟩) all.length ac) (.slice (some ⟨go, 0, none⟩) opn.length oc) (endAll all n0) all opn j0 w i wr) (fun i _ => ((intOf i) + 1).toNat)
  case atStart => exact HYR.out
  case round =>
    obtain ⟨k, hi, hjk, hk, CR, kr⟩ := hrel
    have HCR : Hid _ := CR
    have HKR : Hid _ := kr
    clear CR kr HYR
    by_cases hlt : j0 < k
    · obtain ⟨q, rfl⟩ : ∃ q, k = q + 1 := ⟨k - 1, by omega⟩
      rw [show ((q + 1 : Nat) : Int) - 1 = (q : Int) by omega] at hi
      subst hi
      have i1 : (j0 : Int) ≤ q := by omega
      have i1' : j0 ≤ q := by omega
      have i2 : (q : Int) < opn.length := by omega
      obtain ⟨nq, hnq⟩ : ∃ n, opn.getD q 0 = n := ⟨_, rfl⟩
      have hnql : nq < (endAll all n0).length := by rw [HLEN.out, ← hnq]; exact HI.out.lt q (by omega)
      have i3 : (nq : Int) < all.length := by rw [HLEN.out] at hnql; omega
      obtain ⟨c, hc⟩ : ∃ c, (endAll all n0)[nq]? = some c := ⟨_, List.getElem?_eq_getElem hnql⟩
      have HLV : Hid (∀ W, CAt B cb M (.slice (some ⟨ga, 0, none⟩) all.length ac) (.slice (some ⟨go, 0, none⟩) opn.length oc) (endAll all n0) opn (fM all opn (q + 1)) W → Calls Tryd.prog 34 #[.pointer (some ⟨cb, 0, none⟩), .agg #[.int .i64 c.a, .string c.t, .int .i64 (c.d : Int), .bool c.e, .int .i64 c.r]] W fun r w' => r = .returned (.tuple #[]) ∧ CAt B cb M (.slice (some ⟨ga, 0, none⟩) all.length ac) (.slice (some ⟨go, 0, none⟩) opn.length oc) (endAll all n0) opn (fM all opn q) w' ∧ KS (· = M) W w') := fun W hW => leave_any B cb M _ _ (endAll all n0) all opn HI.out q (by omega) c (by
        rw [hnq, ← end_map (fun c : Cl => (c.a, c.t, c.r)) (fun _ => rfl) all n0 nq, hc]; rfl) W hW
      have CR := HCR.out
      have hg5 := fun j (hj : j < 5) => flat_get cl5_len (endAll all n0) nq c hc j hj
      have rows' := CR.rows
      rw [HLEN.out] at rows'
      have a0 := (own_cells rows' (nq * 5) (.int .i64 c.a) (by have := hg5 0 (by decide); rwa [Nat.add_zero] at this)).1
      have a1 := (own_cells rows' (nq * 5 + 1) (.string c.t) (hg5 1 (by decide))).1
      have a2 := (own_cells rows' (nq * 5 + 2) (.int .i64 (c.d : Int)) (hg5 2 (by decide))).1
      have a3 := (own_cells rows' (nq * 5 + 3) (.bool c.e) (hg5 3 (by decide))).1
      have a4 := (own_cells rows' (nq * 5 + 4) (.int .i64 c.r) (hg5 4 (by decide))).1
      have o0 := (own_cells CR.opns q (.int .i64 (nq : Int)) (by
        have : opn[q]? = some nq := by
          rw [List.getD_eq_getElem?_getD] at hnq
          have hq' : q < opn.length := by omega
          rw [List.getElem?_eq_getElem hq'] at hnq ⊢
          simpa using hnq
        simp [opV, this])).1
      have gal : ga < wr.heap.size := (CR.rows.lt ga rfl).2
      have gol : go < wr.heap.size := (CR.opns.lt go rfl).2
      have bxr := CR.box
      have cbl := heap_lt bxr
      have HNQ : Hid _ := hnq
      clear hg5 rows' CR hc hnq
      go_wp2_with fail
      refine wp_region_noPanic ?_
      refine wp_region_held (S := fun W => (∀ j, W.cell? ⟨cb, j, none⟩ = (#[.slice (some ⟨ga, 0, none⟩) all.length ac, .slice (some ⟨go, 0, none⟩) opn.length oc, .map (some M)] : Array Value)[j]?) ∧ W.cell? ⟨go, q, none⟩ = some (.int .i64 (nq : Int)) ∧ W.cell? ⟨ga, nq * 5, none⟩ = some (.int .i64 c.a) ∧ W.cell? ⟨ga, nq * 5 + 1, none⟩ = some (.string c.t) ∧ W.cell? ⟨ga, nq * 5 + 2, none⟩ = some (.int .i64 (c.d : Int)) ∧ W.cell? ⟨ga, nq * 5 + 3, none⟩ = some (.bool c.e) ∧ W.cell? ⟨ga, nq * 5 + 4, none⟩ = some (.int .i64 c.r)) (by kernel_rfl) ?_
      obtain ⟨W7, hW7⟩ : ∃ W4, W4 = (wr).drew := ⟨_, rfl⟩
      have e4 : ({ wr with drawn := (wr).drawn + 1 } : World) = W7 := hW7.symm
      rw [e4]
      have hB4 : Below (wr).heap.size (wr) W7 := by rw [hW7]; exact (Below.refl _ _).drew
      have hS : (∀ j, W7.cell? ⟨cb, j, none⟩ = (#[.slice (some ⟨ga, 0, none⟩) all.length ac, .slice (some ⟨go, 0, none⟩) opn.length oc, .map (some M)] : Array Value)[j]?) ∧ W7.cell? ⟨go, q, none⟩ = some (.int .i64 (nq : Int)) ∧ W7.cell? ⟨ga, nq * 5, none⟩ = some (.int .i64 c.a) ∧ W7.cell? ⟨ga, nq * 5 + 1, none⟩ = some (.string c.t) ∧ W7.cell? ⟨ga, nq * 5 + 2, none⟩ = some (.int .i64 (c.d : Int)) ∧ W7.cell? ⟨ga, nq * 5 + 3, none⟩ = some (.bool c.e) ∧ W7.cell? ⟨ga, nq * 5 + 4, none⟩ = some (.int .i64 c.r) := (by have q0 := (cells_of ((hB4.block _ cbl).trans bxr)).1; have qg := fun o => hB4.cell (p := ⟨ga, o, none⟩) gal; have qo := fun o => hB4.cell (p := ⟨go, o, none⟩) gol; rw [qg, qg, qg, qg, qg, qo]; exact ⟨q0, o0, a0, a1, a2, a3, a4⟩)
      have HW7 : Hid (W7 = (wr).drew) := hW7
      clear e4 hW7
      refine wpAnyH_take (i := 0) (v := .pointer (some ⟨cb, 0, none⟩)) rfl (by kernel_rfl) (by kernel_rfl) (by kernel_rfl) (fun _ _ _ h => h) (Or.inl ⟨by rfl, ?r⟩) hS ?_
      case r => intro W hW; simp [go_sem, execOp, Act.eval]
      simp only [List.getElem_toArray, List.getElem_cons_zero, Act.put, List.setIfInBounds_toArray, List.set_cons_succ, List.set_cons_zero]
      refine wpAnyH_take (i := 1) (v := .pointer (some ⟨cb, 0, none⟩)) rfl (by kernel_rfl) (by kernel_rfl) (by kernel_rfl) (fun _ _ _ h => h) (Or.inl ⟨by rfl, ?r⟩) hS ?_
      case r => intro W hW; simp [go_sem, execOp, Act.eval]
      simp only [List.getElem_toArray, List.getElem_cons_zero, List.getElem_cons_succ, Act.put, List.setIfInBounds_toArray, List.set_cons_succ, List.set_cons_zero]
      refine wpAnyH_take (i := 2) (v := .pointer (some ⟨cb, 0, none⟩)) rfl (by kernel_rfl) (by kernel_rfl) (by kernel_rfl) (fun _ _ _ h => h) (Or.inl ⟨by rfl, ?r⟩) hS ?_
      case r => intro W hW; simp [go_sem, execOp, Act.eval]
      simp only [List.getElem_toArray, List.getElem_cons_zero, List.getElem_cons_succ, Act.put, List.setIfInBounds_toArray, List.set_cons_succ, List.set_cons_zero]
      refine wpAnyH_take (i := 3) (v := .pointer (some ⟨cb, 0, none⟩)) rfl (by kernel_rfl) (by kernel_rfl) (by kernel_rfl) (fun _ _ _ h => h) (Or.inl ⟨by rfl, ?r⟩) hS ?_
      case r => intro W hW; simp [go_sem, execOp, Act.eval]
      simp only [List.getElem_toArray, List.getElem_cons_zero, List.getElem_cons_succ, Act.put, List.setIfInBounds_toArray, List.set_cons_succ, List.set_cons_zero]
      refine wpAnyH_take (i := 4) (v := .slice (some ⟨ga, 0, none⟩) all.length ac) rfl (by kernel_rfl) (by kernel_rfl) (by kernel_rfl) (fun _ _ _ h => h) (Or.inl ⟨by rfl, ?r⟩) hS ?_
      case r => intro W hW; simp [go_sem, execOp, Act.eval, hW.1]
      simp only [List.getElem_toArray, List.getElem_cons_zero, List.getElem_cons_succ, Act.put, List.setIfInBounds_toArray, List.set_cons_succ, List.set_cons_zero]
      refine wpAnyH_take (i := 5) (v := .pointer (some ⟨cb, 0, none⟩)) rfl (by kernel_rfl) (by kernel_rfl) (by kernel_rfl) (fun _ _ _ h => h) (Or.inl ⟨by rfl, ?r⟩) hS ?_
      case r => intro W hW; simp [go_sem, execOp, Act.eval]
      simp only [List.getElem_toArray, List.getElem_cons_zero, List.getElem_cons_succ, Act.put, List.setIfInBounds_toArray, List.set_cons_succ, List.set_cons_zero]
      refine wpAnyH_take (i := 6) (v := .pointer (some ⟨cb, 0, none⟩)) rfl (by kernel_rfl) (by kernel_rfl) (by kernel_rfl) (fun _ _ _ h => h) (Or.inl ⟨by rfl, ?r⟩) hS ?_
      case r => intro W hW; simp [go_sem, execOp, Act.eval]
      simp only [List.getElem_toArray, List.getElem_cons_zero, List.getElem_cons_succ, Act.put, List.setIfInBounds_toArray, List.set_cons_succ, List.set_cons_zero]
      refine wpAnyH_take (i := 7) (v := .pointer (some ⟨cb, 1, none⟩)) rfl (by kernel_rfl) (by kernel_rfl) (by kernel_rfl) (fun _ _ _ h => h) (Or.inl ⟨by rfl, ?r⟩) hS ?_
      case r => intro W hW; simp [go_sem, execOp, Act.eval]
      simp only [List.getElem_toArray, List.getElem_cons_zero, List.getElem_cons_succ, Act.put, List.setIfInBounds_toArray, List.set_cons_succ, List.set_cons_zero]
      refine wpAnyH_take (i := 8) (v := .slice (some ⟨go, 0, none⟩) opn.length oc) rfl (by kernel_rfl) (by kernel_rfl) (by kernel_rfl) (fun _ _ _ h => h) (Or.inl ⟨by rfl, ?r⟩) hS ?_
      case r => intro W hW; simp [go_sem, execOp, Act.eval, hW.1]
      simp only [List.getElem_toArray, List.getElem_cons_zero, List.getElem_cons_succ, Act.put, List.setIfInBounds_toArray, List.set_cons_succ, List.set_cons_zero]
      refine wpAnyH_take (i := 9) (v := .int .i64 (q : Int)) rfl (by kernel_rfl) (by kernel_rfl) (by kernel_rfl) (fun _ _ _ h => h) (Or.inl ⟨by rfl, ?r⟩) hS ?_
      case r => intro W hW; simp [go_sem, execOp, Act.eval]
      simp only [List.getElem_toArray, List.getElem_cons_zero, List.getElem_cons_succ, Act.put, List.setIfInBounds_toArray, List.set_cons_succ, List.set_cons_zero]
      refine wpAnyH_take (i := 10) (v := .pointer (some ⟨go, q, none⟩)) rfl (by kernel_rfl) (by kernel_rfl) (by kernel_rfl) (fun _ _ _ h => h) (Or.inl ⟨by rfl, ?r⟩) hS ?_
      case r => intro W hW; simp [go_sem, execOp, Act.eval, i2]
      simp only [List.getElem_toArray, List.getElem_cons_zero, List.getElem_cons_succ, Act.put, List.setIfInBounds_toArray, List.set_cons_succ, List.set_cons_zero]
      refine wpAnyH_take (i := 11) (v := .int .i64 (nq : Int)) rfl (by kernel_rfl) (by kernel_rfl) (by kernel_rfl) (fun _ _ _ h => h) (Or.inl ⟨by rfl, ?r⟩) hS ?_
      case r => intro W hW; simp [go_sem, execOp, Act.eval, hW.2.1]
      simp only [List.getElem_toArray, List.getElem_cons_zero, List.getElem_cons_succ, Act.put, List.setIfInBounds_toArray, List.set_cons_succ, List.set_cons_zero]
      refine wpAnyH_take (i := 12) (v := .pointer (some ⟨ga, nq * 5, none⟩)) rfl (by kernel_rfl) (by kernel_rfl) (by kernel_rfl) (fun _ _ _ h => h) (Or.inl ⟨by rfl, ?r⟩) hS ?_
      case r => intro W hW; simp [go_sem, execOp, Act.eval, i3]
      simp only [List.getElem_toArray, List.getElem_cons_zero, List.getElem_cons_succ, Act.put, List.setIfInBounds_toArray, List.set_cons_succ, List.set_cons_zero]
      refine wpAnyH_take (i := 13) (v := .agg #[.int .i64 c.a, .string c.t, .int .i64 (c.d : Int), .bool c.e, .int .i64 c.r]) rfl (by kernel_rfl) (by kernel_rfl) (by kernel_rfl) (fun _ _ _ h => h) (Or.inl ⟨by rfl, ?r⟩) hS ?_
      case r => intro W hW; simp [go_sem, execOp, Act.eval, hW.2.2]
      simp only [List.getElem_toArray, List.getElem_cons_zero, List.getElem_cons_succ, Act.put, List.setIfInBounds_toArray, List.set_cons_succ, List.set_cons_zero]
      have C7 := HCR.out.below hB4
      have k7 : KS (cS cb M (.slice (some ⟨ga, 0, none⟩) all.length ac) (.slice (some ⟨go, 0, none⟩) opn.length oc)) w W7 := HKR.out.trans (KS.of (S := (cS cb M (.slice (some ⟨ga, 0, none⟩) all.length ac) (.slice (some ⟨go, 0, none⟩) opn.length oc))) hB4) (fun _ _ q => q)
      clear hB4 HW7
      refine wpAnyH_all (rs := [14]) (by kernel_rfl) (by simp) (fun i2 hi2 => ?_)
      obtain rfl : i2 = 14 := by simpa using hi2
      clear hi2
      refine wpOp_step rfl (fun K hK => ite_yes rfl ?_)
      simp only [List.getElem_toArray, List.getElem_cons_zero, List.getElem_cons_succ]
      go_simp
      refine (HLV.out W7 C7).mono ?_
      rintro _ V ⟨rfl, CV, kv⟩
      have HCV : Hid _ := CV
      have HKV : Hid (KS (cS cb M (.slice (some ⟨ga, 0, none⟩) all.length ac) (.slice (some ⟨go, 0, none⟩) opn.length oc)) w V) := k7.trans kv (fun b _ q => .inr (.inl q))
      go_simp
      refine hK _ _ ⟨?_, ?_⟩
      · have ne7 := C7.ne
        have qg := fun o => World.cell?_of_block (a := ⟨ga, o, none⟩) (kv.block ga (C7.rows.lt ga rfl).2 (ne7.2.1 ga rfl).2.1)
        have qo := fun o => World.cell?_of_block (a := ⟨go, o, none⟩) (kv.block go (C7.opns.lt go rfl).2 (ne7.2.2 go rfl).2.1)
        rw [qg, qg, qg, qg, qg, qo]
        exact ⟨(cells_of CV.box).1, hS.2⟩
      clear hK K
      refine wpAnyH_done (by kernel_rfl) ?_ _
      refine NoPanic.normal ?_
      try simp only [Act.put]
      clear hS C7 k7 CV kv a0 a1 a2 a3 a4 o0 bxr
      go_wp2_with fail
      exact ⟨⟨q, rfl, i1', by omega, HCV.out, HKV.out⟩, by simp [intOf]⟩
    · obtain rfl : k = j0 := by omega
      subst hi
      have i1 : ¬ (k : Int) ≤ (k : Int) - 1 := by omega
      have bxr := HCR.out.box
      have cc := (cells_of bxr).1
      have cf := (cells_of bxr).2
      have HBX : Hid _ := bxr
      have i4 : (k : Int) ≤ oc := by omega
      have i5 : k ≤ oc := by omega
      clear bxr
      go_wp2_with fail
      have ks : KS (· = cb) wr (wr.setCell ⟨cb, 1, none⟩ (.slice (some ⟨go, 0, none⟩) k oc)) := KS.set _ _ _ _ _ rfl
      have ner := HCR.out.ne
      refine bodyPost_end (results_none rfl _ _ _) rfl ⟨rfl, ⟨heap_set HBX.out 1 _, ?_, ?_, HCR.out.map.kept (ks.block _ HCR.out.map.lt ner.1.symm), h0.out.cbB, h0.out.MB⟩, HKR.out.trans ks (fun b _ q => .inl q)⟩
      · exact own_kept HCR.out.rows (fun g hg => ks.block g (HCR.out.rows.lt g hg).2 (ner.2.1 g hg).1)
      · have h6 := own_take HCR.out.opns k hk
        rw [show (opV opn).take k = opV (opn.take k) by simp [opV, List.map_take]] at h6
        rw [List.length_take, Nat.min_eq_left hk]
        exact own_kept h6 (fun g hg => ks.block g (h6.lt g hg).2 (ner.2.2 g hg).1)
end Go.Proofs.YtapakbibofnhkaaDoor
