/-
  A call is left: trace.leave.
-/
import Derived.Test.YtapakbibofnhkaaDoorO
namespace Go.Proofs.YtapakbibofnhkaaDoor
open Go.RowKit Go.ChangeMaps

theorem own_setC {w : World} {base : Nat} {e : TypeId} {size : Nat} {g n cap : Nat} {xs : List Value} (h : w.ownsRow base e size (.slice (some ⟨g, 0, none⟩) n cap) n xs) (j : Nat) (v : Value) : (w.setCell ⟨g, j, none⟩ v).ownsRow base e size (.slice (some ⟨g, 0, none⟩) n cap) n (xs.set j v) := by
  obtain ⟨hlen, h2⟩ := h
  refine ⟨by rw [List.length_set]; exact hlen, ?_⟩
  rcases h2 with ⟨h0, _⟩ | ⟨g', cap', cur, h1, h2, h3, h4, h5, h6, h7⟩
  · cases h0
  · cases h1
    refine .inr ⟨g, cap, cur.setIfInBounds j v, rfl, h2, heap_set h3 j v, h4, h5, by simpa using h6, ?_⟩
    rw [Array.toList_setIfInBounds, ← h7, List.take_set]
theorem wp_delM {P : Program} {o : Oper} {a : Act} {w w' : World} {K : Act → World → Prop} {Q : Exit → Act → World → Prop} (m x : Operand) (s k : TypeId) (ho : o.op = .call { callee := .builtin .delete, args := #[m, x], argTypes := #[s, k] }) {mv xv r : Value} (hm : a.eval m = mv) (hx : a.eval x = xv)
    (hrun : (Builtin.delete_ #[s, k] o.type #[mv, xv]).run P w = .ok r w') (h : K (a.put o.dst r) w') : o.wp P a w K Q := by
  unfold Oper.wp execOp
  simp only [ho, resolve, invoke, builtin, Sem.run_bind, Sem.run_pure, Result.andThen_ok, List.map_toArray, List.map_cons, List.map_nil, hm, hx, hrun]
  exact h
set_option maxRecDepth 100000 in
set_option maxHeartbeats 4000000 in
theorem leave_del (B cb M : Nat) (av ov : Value) (all : List Cl) (opn : List Nat) (f : Mk → Option Nat) (a d : Int) (t : ByteArray) (eb : Bool) (r : Int) (hr : r < 0) (v0 : Nat) (hf : f (a, t) = some v0) (w : World) (h : CAt B cb M av ov all opn f w) :
    Calls Tryd.prog 34 #[.pointer (some ⟨cb, 0, none⟩), .agg #[.int .i64 a, .string t, .int .i64 d, .bool eb, .int .i64 r]] w fun r w' => r = .returned (.tuple #[]) ∧ CAt B cb M av ov all opn (fun x => if keq x (a, t) then none else f x) w' ∧ KS (· = M) w w' := by
  have h0 : Hid _ := h
  have hf0 : Hid (f (a, t) = some v0) := hf
  have hbx := h.box
  have hcs := heap_lt hbx
  clear h hf
  go_enter Tryd.func34, Tryd.ntmps34
  go_wp2_with fail
  obtain ⟨U, hU⟩ : ∃ W, W = w.alloc (.cells #[.int .i64 a, .string t, .int .i64 d, .bool eb, .int .i64 r] 69) := ⟨_, rfl⟩
  rw [← hU]
  have u0 : Below w.heap.size w U := by rw [hU]; exact below1 w _
  have e0 : U.heap[w.heap.size]? = some (.cells #[.int .i64 a, .string t, .int .i64 d, .bool eb, .int .i64 r] 69) := by rw [hU]; exact heap_alloc_new _ _
  have C0 : CAt B cb M av ov all opn f U := h0.out.below u0
  have y0 := heap_lt e0
  clear hU hbx
  refine wp_region_noPanic ?_
  refine wp_region_held (S := fun W => (∀ j, W.cell? ⟨cb, j, none⟩ = (#[av, ov, .map (some M)] : Array Value)[j]?) ∧ (∀ j, W.cell? ⟨w.heap.size, j, none⟩ = (#[.int .i64 a, .string t, .int .i64 d, .bool eb, .int .i64 r] : Array Value)[j]?)) (by kernel_rfl) ?_
  obtain ⟨W5, hW5⟩ : ∃ W4, W4 = (U).drew := ⟨_, rfl⟩
  have e4 : ({ U with drawn := (U).drawn + 1 } : World) = W5 := hW5.symm
  rw [e4]
  have hB4 : Below (U).heap.size (U) W5 := by rw [hW5]; exact (Below.refl _ _).drew
  have hS : (∀ j, W5.cell? ⟨cb, j, none⟩ = (#[av, ov, .map (some M)] : Array Value)[j]?) ∧ (∀ j, W5.cell? ⟨w.heap.size, j, none⟩ = (#[.int .i64 a, .string t, .int .i64 d, .bool eb, .int .i64 r] : Array Value)[j]?) := ⟨(cells_of ((hB4.block _ (heap_lt C0.box)).trans C0.box)).1, (cells_of ((hB4.block _ y0).trans e0)).1⟩
  have HW5 : Hid (W5 = (U).drew) := hW5
  clear e4 hW5
  refine wpAnyH_take (i := 0) (v := .pointer (some ⟨cb, 0, none⟩)) rfl (by kernel_rfl) (by kernel_rfl) (by kernel_rfl) (fun _ _ _ h => h) (Or.inl ⟨by rfl, ?r⟩) hS ?_
  case r => intro W hW; simp [go_sem, execOp, Act.eval]
  simp only [List.getElem_toArray, List.getElem_cons_zero, Act.put, List.setIfInBounds_toArray, List.set_cons_succ, List.set_cons_zero]
  refine wpAnyH_take (i := 1) (v := .pointer (some ⟨cb, 0, none⟩)) rfl (by kernel_rfl) (by kernel_rfl) (by kernel_rfl) (fun _ _ _ h => h) (Or.inl ⟨by rfl, ?r⟩) hS ?_
  case r => intro W hW; simp [go_sem, execOp, Act.eval]
  simp only [List.getElem_toArray, List.getElem_cons_zero, List.getElem_cons_succ, Act.put, List.setIfInBounds_toArray, List.set_cons_succ, List.set_cons_zero]
  refine wpAnyH_take (i := 2) (v := .pointer (some ⟨cb, 2, none⟩)) rfl (by kernel_rfl) (by kernel_rfl) (by kernel_rfl) (fun _ _ _ h => h) (Or.inl ⟨by rfl, ?r⟩) hS ?_
  case r => intro W hW; simp [go_sem, execOp, Act.eval]
  simp only [List.getElem_toArray, List.getElem_cons_zero, List.getElem_cons_succ, Act.put, List.setIfInBounds_toArray, List.set_cons_succ, List.set_cons_zero]
  refine wpAnyH_take (i := 3) (v := .map (some M)) rfl (by kernel_rfl) (by kernel_rfl) (by kernel_rfl) (fun _ _ _ h => h) (Or.inl ⟨by rfl, ?r⟩) hS ?_
  case r => intro W hW; simp [go_sem, execOp, Act.eval, hW.1]
  simp only [List.getElem_toArray, List.getElem_cons_zero, List.getElem_cons_succ, Act.put, List.setIfInBounds_toArray, List.set_cons_succ, List.set_cons_zero]
  refine wpAnyH_take (i := 4) (v := .pointer (some ⟨w.heap.size, 0, none⟩)) rfl (by kernel_rfl) (by kernel_rfl) (by kernel_rfl) (fun _ _ _ h => h) (Or.inl ⟨by rfl, ?r⟩) hS ?_
  case r => intro W hW; simp [go_sem, execOp, Act.eval]
  simp only [List.getElem_toArray, List.getElem_cons_zero, List.getElem_cons_succ, Act.put, List.setIfInBounds_toArray, List.set_cons_succ, List.set_cons_zero]
  refine wpAnyH_take (i := 5) (v := .agg #[.int .i64 a, .string t]) rfl (by kernel_rfl) (by kernel_rfl) (by kernel_rfl) (fun _ _ _ h => h) (Or.inl ⟨by rfl, ?r⟩) hS ?_
  case r => intro W hW; simp [go_sem, execOp, Act.eval, hW.2]
  simp only [List.getElem_toArray, List.getElem_cons_zero, List.getElem_cons_succ, Act.put, List.setIfInBounds_toArray, List.set_cons_succ, List.set_cons_zero]
  have C4 := C0.below hB4
  have e4 := (hB4.block _ y0).trans e0
  have k4 : KS (· = M) w W5 := (KS.of u0).trans (KS.of (S := (· = M)) hB4) (fun _ _ q => q)
  obtain ⟨ob, hrun, hM5⟩ := del_map C4.map (a, t) v0 0 66 hf0.out
  clear hB4 HW5
  refine wpAnyH_all (rs := [6]) (by kernel_rfl) (by simp) (fun i2 hi2 => ?_)
  obtain rfl : i2 = 6 := by simpa using hi2
  clear hi2
  refine wpOp_step rfl (fun K hK => ite_yes rfl ?_)
  simp only [List.getElem_toArray, List.getElem_cons_zero, List.getElem_cons_succ]
  refine wp_delM _ _ 49 66 rfl rfl rfl hrun ?_
  obtain ⟨Y5, hY5⟩ : ∃ W, W = setBlock W5 M ob := ⟨_, rfl⟩
  rw [← hY5] at hM5 ⊢
  have hkM : KS (· = M) W5 Y5 := by rw [hY5]; exact KS.setB _ _ _ _ rfl
  have neC := C4.ne
  have k5 : KS (· = M) w Y5 := k4.trans hkM (fun b _ q => q)
  have o5 : Y5.heap[w.heap.size]? = some (.cells #[.int .i64 a, .string t, .int .i64 d, .bool eb, .int .i64 r] 69) := (hkM.block _ (heap_lt e4) (fun q => by have := h0.out.map.lt; omega)).trans e4
  have C5 : CAt B cb M av ov all opn (fun x => if keq x (a, t) then none else f x) Y5 :=
    ⟨(hkM.block _ (heap_lt C4.box) neC.1).trans C4.box, own_kept C4.rows (fun g hg => hkM.block g (C4.rows.lt g hg).2 (neC.2.1 g hg).2.1), own_kept C4.opns (fun g hg => hkM.block g (C4.opns.lt g hg).2 (neC.2.2 g hg).2.1), hM5, h0.out.cbB, h0.out.MB⟩
  refine hK _ _ ⟨⟨(cells_of C5.box).1, (cells_of o5).1⟩, ?_⟩
  clear hK K
  try simp only [Act.put]
  refine wpAnyH_done (by kernel_rfl) ?_ _
  refine NoPanic.normal ?_
  try simp only [Act.put]
  have HE : Hid _ := C5
  have HK5 : Hid _ := k5
  clear hS hM5 hY5 hkM neC C4 C5 k5 e4 k4 o5
  go_wp2_with fail
  exact bodyPost_end (results_none rfl _ _ _) rfl ⟨rfl, HE.out, HK5.out⟩

set_option maxRecDepth 100000 in
set_option maxHeartbeats 4000000 in
theorem leave_set (B cb M : Nat) (av ov : Value) (all : List Cl) (opn : List Nat) (f : Mk → Option Nat) (a d : Int) (t : ByteArray) (eb : Bool) (n : Nat) (w : World) (h : CAt B cb M av ov all opn f w) :
    Calls Tryd.prog 34 #[.pointer (some ⟨cb, 0, none⟩), .agg #[.int .i64 a, .string t, .int .i64 d, .bool eb, .int .i64 (n : Int)]] w fun r w' => r = .returned (.tuple #[]) ∧ CAt B cb M av ov all opn (fun x => if keq x (a, t) then some n else f x) w' ∧ KS (· = M) w w' := by
  have h0 : Hid _ := h
  have i1 : ¬ (n : Int) < 0 := by omega
  have hbx := h.box
  have hcs := heap_lt hbx
  clear h 
  go_enter Tryd.func34, Tryd.ntmps34
  go_wp2_with fail
  obtain ⟨U, hU⟩ : ∃ W, W = w.alloc (.cells #[.int .i64 a, .string t, .int .i64 d, .bool eb, .int .i64 (n : Int)] 69) := ⟨_, rfl⟩
  rw [← hU]
  have u0 : Below w.heap.size w U := by rw [hU]; exact below1 w _
  have e0 : U.heap[w.heap.size]? = some (.cells #[.int .i64 a, .string t, .int .i64 d, .bool eb, .int .i64 (n : Int)] 69) := by rw [hU]; exact heap_alloc_new _ _
  have C0 : CAt B cb M av ov all opn f U := h0.out.below u0
  have y0 := heap_lt e0
  clear hU hbx
  refine wp_region_noPanic ?_
  refine wp_region_held (S := fun W => (∀ j, W.cell? ⟨cb, j, none⟩ = (#[av, ov, .map (some M)] : Array Value)[j]?) ∧ (∀ j, W.cell? ⟨w.heap.size, j, none⟩ = (#[.int .i64 a, .string t, .int .i64 d, .bool eb, .int .i64 (n : Int)] : Array Value)[j]?)) (by kernel_rfl) ?_
  obtain ⟨W5, hW5⟩ : ∃ W4, W4 = (U).drew := ⟨_, rfl⟩
  have e4 : ({ U with drawn := (U).drawn + 1 } : World) = W5 := hW5.symm
  rw [e4]
  have hB4 : Below (U).heap.size (U) W5 := by rw [hW5]; exact (Below.refl _ _).drew
  have hS : (∀ j, W5.cell? ⟨cb, j, none⟩ = (#[av, ov, .map (some M)] : Array Value)[j]?) ∧ (∀ j, W5.cell? ⟨w.heap.size, j, none⟩ = (#[.int .i64 a, .string t, .int .i64 d, .bool eb, .int .i64 (n : Int)] : Array Value)[j]?) := ⟨(cells_of ((hB4.block _ (heap_lt C0.box)).trans C0.box)).1, (cells_of ((hB4.block _ y0).trans e0)).1⟩
  have HW5 : Hid (W5 = (U).drew) := hW5
  clear e4 hW5
  refine wpAnyH_take (i := 0) (v := .pointer (some ⟨cb, 0, none⟩)) rfl (by kernel_rfl) (by kernel_rfl) (by kernel_rfl) (fun _ _ _ h => h) (Or.inl ⟨by rfl, ?r⟩) hS ?_
  case r => intro W hW; simp [go_sem, execOp, Act.eval]
  simp only [List.getElem_toArray, List.getElem_cons_zero, Act.put, List.setIfInBounds_toArray, List.set_cons_succ, List.set_cons_zero]
  refine wpAnyH_take (i := 1) (v := .pointer (some ⟨cb, 0, none⟩)) rfl (by kernel_rfl) (by kernel_rfl) (by kernel_rfl) (fun _ _ _ h => h) (Or.inl ⟨by rfl, ?r⟩) hS ?_
  case r => intro W hW; simp [go_sem, execOp, Act.eval]
  simp only [List.getElem_toArray, List.getElem_cons_zero, List.getElem_cons_succ, Act.put, List.setIfInBounds_toArray, List.set_cons_succ, List.set_cons_zero]
  refine wpAnyH_take (i := 2) (v := .pointer (some ⟨cb, 2, none⟩)) rfl (by kernel_rfl) (by kernel_rfl) (by kernel_rfl) (fun _ _ _ h => h) (Or.inl ⟨by rfl, ?r⟩) hS ?_
  case r => intro W hW; simp [go_sem, execOp, Act.eval]
  simp only [List.getElem_toArray, List.getElem_cons_zero, List.getElem_cons_succ, Act.put, List.setIfInBounds_toArray, List.set_cons_succ, List.set_cons_zero]
  refine wpAnyH_take (i := 3) (v := .map (some M)) rfl (by kernel_rfl) (by kernel_rfl) (by kernel_rfl) (fun _ _ _ h => h) (Or.inl ⟨by rfl, ?r⟩) hS ?_
  case r => intro W hW; simp [go_sem, execOp, Act.eval, hW.1]
  simp only [List.getElem_toArray, List.getElem_cons_zero, List.getElem_cons_succ, Act.put, List.setIfInBounds_toArray, List.set_cons_succ, List.set_cons_zero]
  refine wpAnyH_take (i := 4) (v := .pointer (some ⟨w.heap.size, 0, none⟩)) rfl (by kernel_rfl) (by kernel_rfl) (by kernel_rfl) (fun _ _ _ h => h) (Or.inl ⟨by rfl, ?r⟩) hS ?_
  case r => intro W hW; simp [go_sem, execOp, Act.eval]
  simp only [List.getElem_toArray, List.getElem_cons_zero, List.getElem_cons_succ, Act.put, List.setIfInBounds_toArray, List.set_cons_succ, List.set_cons_zero]
  refine wpAnyH_take (i := 5) (v := .agg #[.int .i64 a, .string t]) rfl (by kernel_rfl) (by kernel_rfl) (by kernel_rfl) (fun _ _ _ h => h) (Or.inl ⟨by rfl, ?r⟩) hS ?_
  case r => intro W hW; simp [go_sem, execOp, Act.eval, hW.2]
  simp only [List.getElem_toArray, List.getElem_cons_zero, List.getElem_cons_succ, Act.put, List.setIfInBounds_toArray, List.set_cons_succ, List.set_cons_zero]
  refine wpAnyH_take (i := 6) (v := .pointer (some ⟨w.heap.size, 4, none⟩)) rfl (by kernel_rfl) (by kernel_rfl) (by kernel_rfl) (fun _ _ _ h => h) (Or.inl ⟨by rfl, ?r⟩) hS ?_
  case r => intro W hW; simp [go_sem, execOp, Act.eval]
  simp only [List.getElem_toArray, List.getElem_cons_zero, List.getElem_cons_succ, Act.put, List.setIfInBounds_toArray, List.set_cons_succ, List.set_cons_zero]
  refine wpAnyH_take (i := 7) (v := .int .i64 (n : Int)) rfl (by kernel_rfl) (by kernel_rfl) (by kernel_rfl) (fun _ _ _ h => h) (Or.inl ⟨by rfl, ?r⟩) hS ?_
  case r => intro W hW; simp [go_sem, execOp, Act.eval, hW.2]
  simp only [List.getElem_toArray, List.getElem_cons_zero, List.getElem_cons_succ, Act.put, List.setIfInBounds_toArray, List.set_cons_succ, List.set_cons_zero]
  have C4 := C0.below hB4
  have e4 := (hB4.block _ y0).trans e0
  have k4 : KS (· = M) w W5 := (KS.of u0).trans (KS.of (S := (· = M)) hB4) (fun _ _ q => q)
  obtain ⟨ob, hrun, hM5⟩ := upd_map C4.map (a, t) n
  clear hB4 HW5
  refine wpAnyH_all (rs := [8]) (by kernel_rfl) (by simp) (fun i2 hi2 => ?_)
  obtain rfl : i2 = 8 := by simpa using hi2
  clear hi2
  refine wpOp_step rfl (fun K hK => ite_yes rfl ?_)
  simp only [List.getElem_toArray, List.getElem_cons_zero, List.getElem_cons_succ]
  refine wp_updM 49 _ _ _ rfl rfl rfl rfl hrun ?_
  obtain ⟨Y5, hY5⟩ : ∃ W, W = setBlock W5 M ob := ⟨_, rfl⟩
  rw [← hY5] at hM5 ⊢
  have hkM : KS (· = M) W5 Y5 := by rw [hY5]; exact KS.setB _ _ _ _ rfl
  have neC := C4.ne
  have k5 : KS (· = M) w Y5 := k4.trans hkM (fun b _ q => q)
  have o5 : Y5.heap[w.heap.size]? = some (.cells #[.int .i64 a, .string t, .int .i64 d, .bool eb, .int .i64 (n : Int)] 69) := (hkM.block _ (heap_lt e4) (fun q => by have := h0.out.map.lt; omega)).trans e4
  have C5 : CAt B cb M av ov all opn (fun x => if keq x (a, t) then some n else f x) Y5 :=
    ⟨(hkM.block _ (heap_lt C4.box) neC.1).trans C4.box, own_kept C4.rows (fun g hg => hkM.block g (C4.rows.lt g hg).2 (neC.2.1 g hg).2.1), own_kept C4.opns (fun g hg => hkM.block g (C4.opns.lt g hg).2 (neC.2.2 g hg).2.1), hM5, h0.out.cbB, h0.out.MB⟩
  refine hK _ _ ⟨⟨(cells_of C5.box).1, (cells_of o5).1⟩, ?_⟩
  clear hK K
  try simp only [Act.put]
  refine wpAnyH_done (by kernel_rfl) ?_ _
  refine NoPanic.normal ?_
  try simp only [Act.put]
  have HE : Hid _ := C5
  have HK5 : Hid _ := k5
  clear hS hM5 hY5 hkM neC C4 C5 k5 e4 k4 o5
  go_wp2_with fail
  exact bodyPost_end (results_none rfl _ _ _) rfl ⟨rfl, HE.out, HK5.out⟩

end Go.Proofs.YtapakbibofnhkaaDoor
