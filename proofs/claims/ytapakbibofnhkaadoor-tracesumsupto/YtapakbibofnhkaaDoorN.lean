/-
  The calls in memory; small functions on them.
-/
import Derived.Test.YtapakbibofnhkaaDoorM
import Derived.Test.YtapakbibofnhkaaDoorH
import Derived.Laws.EntriesVeiled
import Derived.Deep.AppendLies
namespace Go.Proofs.YtapakbibofnhkaaDoor
open Go.RowKit Go.ChangeMaps

theorem flat_len {α : Type} {f : α → List Value} {n : Nat} (hf : ∀ x, (f x).length = n) : ∀ l : List α, (l.flatMap f).length = l.length * n
  | [] => by simp
  | x :: l => by rw [List.flatMap_cons, List.length_append, hf, flat_len hf l, List.length_cons, Nat.add_mul]; omega
theorem flat_get {α : Type} {f : α → List Value} {n : Nat} (hf : ∀ x, (f x).length = n) : ∀ (l : List α) (i : Nat) (x : α), l[i]? = some x → ∀ j, j < n → (l.flatMap f)[i * n + j]? = (f x)[j]?
  | [], i, x, h, j, hj => by simp at h
  | y :: l, 0, x, h, j, hj => by
    simp only [List.getElem?_cons_zero, Option.some.injEq] at h
    subst h
    rw [List.flatMap_cons, Nat.zero_mul, Nat.zero_add, List.getElem?_append_left (by rw [hf]; exact hj)]
  | y :: l, i + 1, x, h, j, hj => by
    rw [List.flatMap_cons, List.getElem?_append_right (by rw [hf, Nat.add_mul]; omega), hf, show (i + 1) * n + j - n = i * n + j by rw [Nat.add_mul]; omega]
    exact flat_get hf l i x (by simpa using h) j hj
theorem flat_set {α : Type} {f : α → List Value} {n : Nat} (hf : ∀ x, (f x).length = n) (g : α → α) (j : Nat) (hj : j < n) (v : Value) (hg : ∀ x, f (g x) = (f x).set j v) : ∀ (l : List α) (i : Nat), i < l.length → (l.flatMap f).set (i * n + j) v = (l.modify i g).flatMap f
  | [], i, h => by cases h
  | y :: l, 0, _ => by
    rw [List.flatMap_cons, Nat.zero_mul, Nat.zero_add, List.set_append_left _ _ (by rw [hf]; exact hj)]
    simp [hg]
  | y :: l, i + 1, h => by
    rw [List.flatMap_cons, List.set_append_right _ _ (by rw [hf, Nat.add_mul]; omega), hf, show (i + 1) * n + j - n = i * n + j by rw [Nat.add_mul]; omega, flat_set hf g j hj v hg l i (by simpa using h)]
    simp
/-- The cells of a call, as trace lays them. -/
def cl5 (c : Cl) : List Value := [.int .i64 c.a, .string c.t, .int .i64 (c.d : Int), .bool c.e, .int .i64 c.r]
theorem cl5_len (c : Cl) : (cl5 c).length = 5 := rfl
def opV (opn : List Nat) : List Value := opn.map fun n : Nat => .int .i64 (n : Int)
/-- The calls of a list lie in memory. -/
structure CAt (B cb M : Nat) (av ov : Value) (all : List Cl) (opn : List Nat) (f : Mk → Option Nat) (W : World) : Prop where
  box : W.heap[cb]? = some (.cells #[av, ov, .map (some M)] 52)
  rows : W.ownsRow B 69 5 av all.length (all.flatMap cl5)
  opns : W.ownsRow B 3 1 ov opn.length (opV opn)
  map : MapIs W M f
  cbB : cb < B
  MB : M < B
theorem CAt.ne {B cb M : Nat} {av ov : Value} {all : List Cl} {opn : List Nat} {f : Mk → Option Nat} {W : World} (h : CAt B cb M av ov all opn f W) : cb ≠ M ∧ (∀ g, av.ownBlock = some g → g ≠ cb ∧ g ≠ M ∧ ov.ownBlock ≠ some g ∧ g < W.heap.size) ∧ (∀ g, ov.ownBlock = some g → g ≠ cb ∧ g ≠ M ∧ g < W.heap.size) := by
  refine ⟨fun q => (h.map.ne h.box) q.symm, fun g hg => ?_, fun g hg => ?_⟩
  · have h1 := h.rows.lt g hg
    refine ⟨by have := h.cbB; omega, by have := h.MB; omega, fun q => ?_, h1.2⟩
    rcases h.rows.2 with ⟨rfl, _⟩ | ⟨g1, c1, cur1, rfl, _, hh1, _⟩
    · cases hg
    · rcases h.opns.2 with ⟨rfl, _⟩ | ⟨g2, c2, cur2, rfl, _, hh2, _⟩
      · cases q
      · simp only [Value.ownBlock, Option.some.injEq] at hg q
        subst hg
        rw [← q, hh2] at hh1
        simp at hh1
  · have h1 := h.opns.lt g hg
    exact ⟨by have := h.cbB; omega, by have := h.MB; omega, h1.2⟩
theorem CAt.below {B cb M : Nat} {av ov : Value} {all : List Cl} {opn : List Nat} {f : Mk → Option Nat} {W W' : World} (h : CAt B cb M av ov all opn f W) (hb : Below W.heap.size W W') : CAt B cb M av ov all opn f W' :=
  ⟨(hb.block _ (heap_lt h.box)).trans h.box, own_below h.rows hb (Nat.le_refl _), own_below h.opns hb (Nat.le_refl _), h.map.kept (hb.block _ h.map.lt), h.cbB, h.MB⟩
/-- Which blocks are theirs. -/
def cS (cb M : Nat) (av ov : Value) (b : Nat) : Prop := b = cb ∨ b = M ∨ av.ownBlock = some b ∨ ov.ownBlock = some b
theorem CAt.S_lt {B cb M : Nat} {av ov : Value} {all : List Cl} {opn : List Nat} {f : Mk → Option Nat} {W : World} (h : CAt B cb M av ov all opn f W) : ∀ b, cS cb M av ov b → b < W.heap.size := by
  rintro b (rfl | rfl | hb | hb)
  · exact heap_lt h.box
  · exact h.map.lt
  · exact (h.rows.lt b hb).2
  · exact (h.opns.lt b hb).2
theorem b66 (a : Int) (t : ByteArray) (w : World) : (Instr.build 66 #[(0, .int .i64 a), (1, .string t)]).run Tryd.prog w = .ok (.agg #[.int .i64 a, .string t]) w := by kernel_rfl
theorem b69 (a d r : Int) (t : ByteArray) (w : World) : (Instr.build 69 #[(0, .agg #[.int .i64 a, .string t]), (1, .int .i64 d), (3, .int .i64 r)]).run Tryd.prog w = .ok (.agg #[.int .i64 a, .string t, .int .i64 d, .bool false, .int .i64 r]) w := by kernel_rfl
section
attribute [local go_sem] b66
set_option maxRecDepth 100000 in
set_option maxHeartbeats 4000000 in
theorem markOf_any (e : Ev) (w : World) : Calls Tryd.prog 33 #[.agg #[.int .i64 e.k, .int .i64 e.a, .string e.t]] w fun r w' => r = .returned (.agg #[.int .i64 e.a, .string e.t]) ∧ w' = (w.alloc (.cells #[.int .i64 e.k, .int .i64 e.a, .string e.t] 33)).alloc (.cells #[.int .i64 e.a, .string e.t] 66) := by
  go_enter Tryd.func33, Tryd.ntmps33
  go_wp2_with fail
  exact bodyPost_ret (v := .agg #[.int .i64 e.a, .string e.t]) (by simp [results, Tryd.results33, go_sem]) rfl ⟨rfl, rfl⟩
end
set_option maxRecDepth 100000 in
set_option maxHeartbeats 4000000 in
theorem begins_any (e : Ev) (w : World) : Calls Tryd.prog 22 #[.agg #[.int .i64 e.k, .int .i64 e.a, .string e.t]] w fun r w' => r = .returned (.bool (e.k == 2)) ∧ ∃ o, w' = w.alloc o := by
  go_enter Tryd.func22, Tryd.ntmps22
  go_wp2_with fail
  go_ret
  exact ⟨rfl, _, rfl⟩

theorem wp_updM {P : Program} {o : Oper} {a : Act} {w w' : World} {K : Act → World → Prop} {Q : Exit → Act → World → Prop} (t : TypeId) (m x v : Operand) (hop : o.op = .mapUpdate t m x v) {mv xv vv : Value} (hm : a.eval m = mv) (hx : a.eval x = xv) (hv : a.eval v = vv)
    (hrun : (Instr.mapUpdate t mv xv vv).run P w = .ok () w') (h : K (a.put o.dst undef) w') : o.wp P a w K Q := by
  unfold Oper.wp
  simp [execOp, hop, hm, hx, hv, hrun, Result.andThen]
  exact h

set_option maxRecDepth 100000 in
set_option maxHeartbeats 4000000 in
theorem endsOne_no (cb : Nat) (e : Ev) (h3 : ¬ e.k = 3) (w : World) : Calls Tryd.prog 24 #[.pointer (some ⟨cb, 0, none⟩), .agg #[.int .i64 e.k, .int .i64 e.a, .string e.t]] w fun r w' => r = .returned (.bool false) ∧ Below w.heap.size w w' := by
  go_enter Tryd.func24, Tryd.ntmps24
  go_wp2_with fail
  go_ret
  exact ⟨rfl, below1 w _⟩

set_option maxRecDepth 100000 in
set_option maxHeartbeats 4000000 in
theorem endsOne_3 (B cb M : Nat) (av ov : Value) (all : List Cl) (opn : List Nat) (f : Mk → Option Nat) (a : Int) (t : ByteArray) (w : World) (h : CAt B cb M av ov all opn f w) : Calls Tryd.prog 24 #[.pointer (some ⟨cb, 0, none⟩), .agg #[.int .i64 3, .int .i64 a, .string t]] w fun r w' => r = .returned (.bool (f (a, t)).isSome) ∧ Below w.heap.size w w' := by
  have hcs := heap_lt h.box
  have hbx := h.box
  obtain ⟨n0, hn0⟩ : ∃ n : Int, (((f (a, t)).getD 0 : Nat) : Int) = n := ⟨_, rfl⟩
  obtain ⟨v, hv⟩ : ∃ v, (f (a, t)).isSome = v := ⟨_, rfl⟩
  have HL : Hid (∀ W, Below w.heap.size w W → (Instr.lookup 49 (.map (some M)) (.agg #[.int .i64 a, .string t]) true).run Tryd.prog W = .ok (.tuple #[.int .i64 n0, .bool v]) W) := fun W hW => by
    have := look_map (h.map.kept (hW.block _ h.map.lt)) (a, t)
    rw [hn0, hv] at this
    exact this
  rw [hv]
  clear h hn0 hv
  go_enter Tryd.func24, Tryd.ntmps24
  go_wp2_with fail
  obtain ⟨U, hU⟩ : ∃ W, W = w.alloc (.cells #[.int .i64 3, .int .i64 a, .string t] 33) := ⟨_, rfl⟩
  rw [← hU]
  have u0 : Below w.heap.size w U := by rw [hU]; exact below1 w _
  have e0 : U.heap[w.heap.size]? = some (.cells #[.int .i64 3, .int .i64 a, .string t] 33) := by rw [hU]; exact heap_alloc_new _ _
  have b0 := (u0.block _ hcs).trans hbx
  have y0 := heap_lt e0
  clear hU hbx
  refine wp_region_noPanic ?_
  refine wp_region_held (S := fun W => (∀ j, W.cell? ⟨cb, j, none⟩ = (#[av, ov, .map (some M)] : Array Value)[j]?) ∧ (∀ j, W.cell? ⟨w.heap.size, j, none⟩ = (#[.int .i64 3, .int .i64 a, .string t] : Array Value)[j]?)) (by kernel_rfl) ?_
  obtain ⟨W4, hW4⟩ : ∃ W4, W4 = (U).drew := ⟨_, rfl⟩
  have e4 : ({ U with drawn := (U).drawn + 1 } : World) = W4 := hW4.symm
  rw [e4]
  have hB4 : Below (U).heap.size (U) W4 := by rw [hW4]; exact (Below.refl _ _).drew
  have hS : (∀ j, W4.cell? ⟨cb, j, none⟩ = (#[av, ov, .map (some M)] : Array Value)[j]?) ∧ (∀ j, W4.cell? ⟨w.heap.size, j, none⟩ = (#[.int .i64 3, .int .i64 a, .string t] : Array Value)[j]?) := ⟨(cells_of ((hB4.block _ (by omega)).trans b0)).1, (cells_of ((hB4.block _ y0).trans e0)).1⟩
  have HW4 : Hid (W4 = (U).drew) := hW4
  clear e4 hW4
  refine wpAnyH_take (i := 0) (v := .pointer (some ⟨cb, 0, none⟩)) rfl (by kernel_rfl) (by kernel_rfl) (by kernel_rfl) (fun _ _ _ h => h) (Or.inl ⟨by rfl, ?r⟩) hS ?_
  case r => intro W hW; simp [go_sem, execOp, Act.eval]
  simp only [List.getElem_toArray, List.getElem_cons_zero, Act.put, List.setIfInBounds_toArray, List.set_cons_succ, List.set_cons_zero]
  refine wpAnyH_take (i := 1) (v := .pointer (some ⟨cb, 0, none⟩)) rfl (by kernel_rfl) (by kernel_rfl) (by kernel_rfl) (fun _ _ _ h => h) (Or.inl ⟨by rfl, ?r⟩) hS ?_
  case r => intro W hW; simp [go_sem, execOp, Act.eval]
  simp only [List.getElem_toArray, List.getElem_cons_zero, List.getElem_cons_succ, Act.put, List.setIfInBounds_toArray, List.set_cons_succ, List.set_cons_zero]
  refine wpAnyH_take (i := 2) (v := .pointer (some ⟨cb, 2, none⟩)) rfl (by kernel_rfl) (by kernel_rfl) (by kernel_rfl) (fun _ _ _ h => h) (Or.inl ⟨by rfl, ?r⟩) hS ?_
  case r => intro W hW; simp [go_sem, execOp, Act.eval]
  simp only [List.getElem_toArray, List.getElem_cons_zero, List.getElem_cons_succ, Act.put, List.setIfInBounds_toArray, List.set_cons_succ, List.set_cons_zero]
  refine wpAnyH_take (i := 3) (v := .map (some M)) rfl (by kernel_rfl) (by kernel_rfl) (by kernel_rfl) (fun _ _ _ h => h) (Or.inl ⟨by rfl, ?r⟩) hS ?_
  case r => intro W hW; simp [go_sem, execOp, Act.eval, hW.1]
  simp only [List.getElem_toArray, List.getElem_cons_zero, List.getElem_cons_succ, Act.put, List.setIfInBounds_toArray, List.set_cons_succ, List.set_cons_zero]
  refine wpAnyH_take (i := 4) (v := .agg #[.int .i64 3, .int .i64 a, .string t]) rfl (by kernel_rfl) (by kernel_rfl) (by kernel_rfl) (fun _ _ _ h => h) (Or.inl ⟨by rfl, ?r⟩) hS ?_
  case r => intro W hW; simp [go_sem, execOp, Act.eval, hW.2]
  simp only [List.getElem_toArray, List.getElem_cons_zero, List.getElem_cons_succ, Act.put, List.setIfInBounds_toArray, List.set_cons_succ, List.set_cons_zero]
  have w4 : Below w.heap.size w W4 := u0.trans (hB4.mono (Nat.le_of_lt y0))
  have b4 := (hB4.block _ (by omega)).trans b0
  have e4 := (hB4.block _ y0).trans e0
  clear HW4 hB4
  refine wpAnyH_all (rs := [5]) (by kernel_rfl) (by simp) (fun i2 hi2 => ?_)
  obtain rfl : i2 = 5 := by simpa using hi2
  clear hi2
  refine wpOp_step rfl (fun K hK => ite_yes rfl ?_)
  simp only [List.getElem_toArray, List.getElem_cons_zero, List.getElem_cons_succ]
  go_simp
  refine (markOf_any ⟨3, a, t⟩ _).mono ?_
  rintro _ X ⟨rfl, hX⟩
  have x4 : Below W4.heap.size W4 X := by rw [hX]; exact below2 W4 _ _
  have y4 := heap_lt e4
  have wx : Below w.heap.size w X := w4.trans (x4.mono w4.size)
  have bx := (x4.block _ (by omega)).trans b4
  have ex := (x4.block _ (by omega)).trans e4
  have hl := HL.out X wx
  have HX : Hid (Below w.heap.size w X) := wx
  clear hX x4 wx
  go_simp
  have hSX : (∀ j, X.cell? ⟨cb, j, none⟩ = (#[av, ov, .map (some M)] : Array Value)[j]?) ∧ (∀ j, X.cell? ⟨w.heap.size, j, none⟩ = (#[.int .i64 3, .int .i64 a, .string t] : Array Value)[j]?) := ⟨(cells_of bx).1, (cells_of ex).1⟩
  refine hK _ _ ⟨hSX, ?_⟩
  clear hK K hS
  have hS := hSX
  refine wpAnyH_all (rs := [6]) (by kernel_rfl) (by simp) (fun i2 hi2 => ?_)
  obtain rfl : i2 = 6 := by simpa using hi2
  clear hi2
  refine wpOp_step rfl (fun K hK => ite_yes rfl ?_)
  simp only [List.getElem_toArray, List.getElem_cons_zero, List.getElem_cons_succ]
  go_simp
  refine hK _ _ ⟨hSX, ?_⟩
  clear hK K
  try simp only [Act.put, List.setIfInBounds_toArray, List.set_cons_succ, List.set_cons_zero]
  refine wpAnyH_take (i := 7) (v := .tuple #[.int .i64 n0, .bool v]) rfl (by kernel_rfl) (by kernel_rfl) (by kernel_rfl) (fun _ _ _ h => h) (Or.inl ⟨by rfl, ?r⟩) hS ?_
  case r => intro W hW; simp [go_sem, execOp, Act.eval]
  simp only [List.getElem_toArray, List.getElem_cons_zero, List.getElem_cons_succ, Act.put, List.setIfInBounds_toArray, List.set_cons_succ, List.set_cons_zero]
  refine wpAnyH_take (i := 8) (v := .int .i64 n0) rfl (by kernel_rfl) (by kernel_rfl) (by kernel_rfl) (fun _ _ _ h => h) (Or.inl ⟨by rfl, ?r⟩) hS ?_
  case r => intro W hW; simp [go_sem, execOp, Act.eval]
  simp only [List.getElem_toArray, List.getElem_cons_zero, List.getElem_cons_succ, Act.put, List.setIfInBounds_toArray, List.set_cons_succ, List.set_cons_zero]
  refine wpAnyH_take (i := 9) (v := .bool v) rfl (by kernel_rfl) (by kernel_rfl) (by kernel_rfl) (fun _ _ _ h => h) (Or.inl ⟨by rfl, ?r⟩) hS ?_
  case r => intro W hW; simp [go_sem, execOp, Act.eval]
  simp only [List.getElem_toArray, List.getElem_cons_zero, List.getElem_cons_succ, Act.put, List.setIfInBounds_toArray, List.set_cons_succ, List.set_cons_zero]
  refine wpAnyH_take (i := 10) (v := .int .i64 n0) rfl (by kernel_rfl) (by kernel_rfl) (by kernel_rfl) (fun _ _ _ h => h) (Or.inl ⟨by rfl, ?r⟩) hS ?_
  case r => intro W hW; simp [go_sem, execOp, Act.eval]
  simp only [List.getElem_toArray, List.getElem_cons_zero, List.getElem_cons_succ, Act.put, List.setIfInBounds_toArray, List.set_cons_succ, List.set_cons_zero]
  refine wpAnyH_take (i := 11) (v := .bool v) rfl (by kernel_rfl) (by kernel_rfl) (by kernel_rfl) (fun _ _ _ h => h) (Or.inl ⟨by rfl, ?r⟩) hS ?_
  case r => intro W hW; simp [go_sem, execOp, Act.eval]
  simp only [List.getElem_toArray, List.getElem_cons_zero, List.getElem_cons_succ, Act.put, List.setIfInBounds_toArray, List.set_cons_succ, List.set_cons_zero]
  refine wpAnyH_done (by kernel_rfl) ?_ _
  refine NoPanic.normal ?_
  try simp only [Act.put]
  clear hS hSX hl
  go_wp2_with fail
  go_ret
  exact ⟨rfl, HX.out⟩
end Go.Proofs.YtapakbibofnhkaaDoor
