/-
  A type that embeds nothing: the level below it.
-/
import Derived.Test.YtaboeocgoocgfaaGreatDoorP
namespace Go.Proofs.YtaboeocgoocgfaaGreatDoor
open Go.RowKit Go.ChangeMaps

theorem fld0 (g cap pb : Nat) (W : World) : (Instr.field 106 (.agg #[.int .i64 8, .bool false, .slice (some ⟨g, 0, none⟩) 1 cap, .map (some pb)]) 0).run Tryz.prog W = .ok (.int .i64 8) W := by kernel_rfl
theorem fld3 (g cap pb : Nat) (W : World) : (Instr.field 106 (.agg #[.int .i64 8, .bool false, .slice (some ⟨g, 0, none⟩) 1 cap, .map (some pb)]) 3).run Tryz.prog W = .ok (.map (some pb)) W := by kernel_rfl
/-- A key that is not there is struck from a map of none. -/
theorem del_none (b ty : Nat) (s : ByteArray) (w : World) (hb : w.heap[b]? = some (.map #[] 0)) : (Builtin.delete_ #[173, 9] ty #[.map (some b), .string s]).run Tryz.prog w = .ok (.tuple #[]) w := by
  have h0 : ({ w with heap := w.heap.setIfInBounds b (.map #[] 0) } : World) = w := by
    have hlt := heap_lt hb
    have e : w.heap.setIfInBounds b (.map #[] 0) = w.heap := by
      apply Array.ext
      · simp
      · intro i h1 h2
        rw [Array.getElem_setIfInBounds (by simpa using h1)]
        by_cases hi : b = i
        · subst hi; simp; exact ((Array.getElem?_eq_some_iff.1 hb).2).symm
        · simp [hi]
    rw [e]
  have h1 : ∀ q : Bool, (Instr.checkKey q 10000 9 (.string s)).run Tryz.prog w = .ok () w := fun q => MapKept.run_checkKey Tryz.underlying9 (by trivial) q 9999
  have h2 := MapKept.run_findKey (P := Tryz.prog) (w := w) (k := .string s) (l := []) (a := none) Tryz.underlying9 rfl
  simp [Builtin.delete_, run_underlying Tryz.underlying173, MapKept.run_getObj_map hb, h1, h2, MapKept.run_setObj_map _ hb, h0, Result.andThen]
set_option maxRecDepth 100000 in
set_option maxHeartbeats 4000000 in
theorem below_none (tb M g cap pb pe : Nat) (es : Array MapEntry) (clk : Nat) (vb : Nat) (w : World) (ht : TabAt w tb M g cap pb pe es clk) (hv : w.heap[vb]? = some (.cells #[.string ⟨#[65]⟩, .slice none 0 0, .bool false, .bool false] 161)) :
    Calls Tryz.prog 74 #[.pointer (some ⟨tb, 0, none⟩), .slice (some ⟨vb, 0, none⟩) 1 1, .slice (some ⟨vb, 0, none⟩) 1 1] w fun e w' => e = .returned (.slice none 0 0) ∧ Below w.heap.size w w' := by
  have hl := ht.lts
  have hvl := heap_lt hv
  have vc := (cells_of hv).1
  have tc := (cells_of ht.tab).1
  have hmm := @run_makeMap Tryz.prog
  go_enter Tryz.func74, Tryz.ntmps74
  go_wp2_with fail
  refine wp_loop_rounds 2 ?_
  rw [rounds_succ]
  go_wp2_with fail
  obtain ⟨U0, hU0⟩ : ∃ W, W = (w.alloc (.map #[] 0)).alloc (.cells #[.string ⟨#[65]⟩, .slice none 0 0, .bool false, .bool false] 161) := ⟨_, rfl⟩
  rw [← hU0]
  have u0 : Below w.heap.size w U0 := by rw [hU0]; exact below2 w _ _
  have y0 : w.heap.size + 1 < U0.heap.size := by rw [hU0]; simp
  have k0 : U0.heap[w.heap.size]? = some (.map #[] 0) := by rw [hU0, heap_old _ _ _ (by simp)]; exact heap_new _ _ _ rfl
  have b0 : U0.heap[w.heap.size + 1]? = some (.cells #[.string ⟨#[65]⟩, .slice none 0 0, .bool false, .bool false] 161) := by rw [hU0]; exact heap_new _ _ _ (by simp)
  clear hU0
  have t0 := ht.below u0
  have v0 : U0.heap[vb]? = _ := (u0.block _ hvl).trans hv
  refine wp_region_noPanic ?_
  refine wp_region_held (S := fun W => (∀ j, W.cell? ⟨w.heap.size + 1, j, none⟩ = (#[.string ⟨#[65]⟩, .slice none 0 0, .bool false, .bool false] : Array Value)[j]?) ∧ (∀ j, W.cell? ⟨tb, j, none⟩ = (#[.map (some M)] : Array Value)[j]?) ∧ W.heap[M]? = some (.map es clk)) (by kernel_rfl) ?_
  obtain ⟨U1, hU1⟩ : ∃ W4, W4 = (U0).drew := ⟨_, rfl⟩
  have e4 : ({ U0 with drawn := (U0).drawn + 1 } : World) = U1 := hU1.symm
  rw [e4]
  have hB4 : Below (U0).heap.size (U0) U1 := by rw [hU1]; exact (Below.refl _ _).drew
  have hS : (∀ j, U1.cell? ⟨w.heap.size + 1, j, none⟩ = (#[.string ⟨#[65]⟩, .slice none 0 0, .bool false, .bool false] : Array Value)[j]?) ∧ (∀ j, U1.cell? ⟨tb, j, none⟩ = (#[.map (some M)] : Array Value)[j]?) ∧ U1.heap[M]? = some (.map es clk) := ⟨(cells_of ((hB4.block _ (by omega)).trans b0)).1, (cells_of ((hB4.block _ (heap_lt t0.tab)).trans t0.tab)).1, (hB4.block _ (heap_lt t0.map)).trans t0.map⟩
  have HU1 : Hid (U1 = (U0).drew) := hU1
  clear e4 hU1
  refine wpAnyH_take (i := 0) (v := .pointer (some ⟨tb, 0, none⟩)) rfl (by kernel_rfl) (by kernel_rfl) (by kernel_rfl) (fun _ _ _ h => h) (Or.inl ⟨by rfl, ?r⟩) hS ?_
  case r => intro W hW; simp [go_sem, execOp, Act.eval]
  simp only [List.getElem_toArray, List.getElem_cons_zero, Act.put, List.setIfInBounds_toArray, List.set_cons_succ, List.set_cons_zero]
  refine wpAnyH_take (i := 1) (v := .pointer (some ⟨tb, 0, none⟩)) rfl (by kernel_rfl) (by kernel_rfl) (by kernel_rfl) (fun _ _ _ h => h) (Or.inl ⟨by rfl, ?r⟩) hS ?_
  case r => intro W hW; simp [go_sem, execOp, Act.eval]
  simp only [List.getElem_toArray, List.getElem_cons_zero, List.getElem_cons_succ, Act.put, List.setIfInBounds_toArray, List.set_cons_succ, List.set_cons_zero]
  refine wpAnyH_take (i := 2) (v := .pointer (some ⟨tb, 0, none⟩)) rfl (by kernel_rfl) (by kernel_rfl) (by kernel_rfl) (fun _ _ _ h => h) (Or.inl ⟨by rfl, ?r⟩) hS ?_
  case r => intro W hW; simp [go_sem, execOp, Act.eval]
  simp only [List.getElem_toArray, List.getElem_cons_zero, List.getElem_cons_succ, Act.put, List.setIfInBounds_toArray, List.set_cons_succ, List.set_cons_zero]
  refine wpAnyH_take (i := 3) (v := .map (some M)) rfl (by kernel_rfl) (by kernel_rfl) (by kernel_rfl) (fun _ _ _ h => h) (Or.inl ⟨by rfl, ?r⟩) hS ?_
  case r => intro W hW; simp [go_sem, execOp, Act.eval, hW.2.1]
  simp only [List.getElem_toArray, List.getElem_cons_zero, List.getElem_cons_succ, Act.put, List.setIfInBounds_toArray, List.set_cons_succ, List.set_cons_zero]
  refine wpAnyH_take (i := 4) (v := .pointer (some ⟨w.heap.size + 1, 0, none⟩)) rfl (by kernel_rfl) (by kernel_rfl) (by kernel_rfl) (fun _ _ _ h => h) (Or.inl ⟨by rfl, ?r⟩) hS ?_
  case r => intro W hW; simp [go_sem, execOp, Act.eval]
  simp only [List.getElem_toArray, List.getElem_cons_zero, List.getElem_cons_succ, Act.put, List.setIfInBounds_toArray, List.set_cons_succ, List.set_cons_zero]
  refine wpAnyH_take (i := 5) (v := .string ⟨#[65]⟩) rfl (by kernel_rfl) (by kernel_rfl) (by kernel_rfl) (fun _ _ _ h => h) (Or.inl ⟨by rfl, ?r⟩) hS ?_
  case r => intro W hW; simp [go_sem, execOp, Act.eval, hW.1]
  simp only [List.getElem_toArray, List.getElem_cons_zero, List.getElem_cons_succ, Act.put, List.setIfInBounds_toArray, List.set_cons_succ, List.set_cons_zero]
  refine wpAnyH_take (i := 6) (v := .agg #[.int .i64 8, .bool false, .slice (some ⟨g, 0, none⟩) 1 cap, .map (some pb)]) rfl (by kernel_rfl) (by kernel_rfl) (by kernel_rfl) (fun _ _ _ h => h) (Or.inl ⟨by rfl, ?r⟩) hS ?_
  case r => intro W hW; simp [go_sem, execOp, Act.eval, look_yes (P := Tryz.prog) Tryz.underlying57 Tryz.underlying9 hW.2.2 ht.fA false]
  simp only [List.getElem_toArray, List.getElem_cons_zero, List.getElem_cons_succ, Act.put, List.setIfInBounds_toArray, List.set_cons_succ, List.set_cons_zero]
  refine wpAnyH_take (i := 7) (v := .slice (some ⟨g, 0, none⟩) 1 cap) rfl (by kernel_rfl) (by kernel_rfl) (by kernel_rfl) (fun _ _ _ h => h) (Or.inl ⟨by rfl, ?r⟩) hS ?_
  case r => intro W hW; simp [go_sem, execOp, Act.eval, fld2]
  simp only [List.getElem_toArray, List.getElem_cons_zero, List.getElem_cons_succ, Act.put, List.setIfInBounds_toArray, List.set_cons_succ, List.set_cons_zero]
  refine wpAnyH_take (i := 8) (v := .int .i64 1) rfl (by kernel_rfl) (by kernel_rfl) (by kernel_rfl) (fun _ _ _ h => h) (Or.inl ⟨by rfl, ?r⟩) hS ?_
  case r => intro W hW; simp [go_sem, execOp, Act.eval]
  simp only [List.getElem_toArray, List.getElem_cons_zero, List.getElem_cons_succ, Act.put, List.setIfInBounds_toArray, List.set_cons_succ, List.set_cons_zero]
  refine wpAnyH_take (i := 9) (v := .int .i64 0) rfl (by kernel_rfl) (by kernel_rfl) (by kernel_rfl) (fun _ _ _ h => h) (Or.inl ⟨by rfl, ?r⟩) hS ?_
  case r => intro W hW; simp [go_sem, execOp, Act.eval]
  simp only [List.getElem_toArray, List.getElem_cons_zero, List.getElem_cons_succ, Act.put, List.setIfInBounds_toArray, List.set_cons_succ, List.set_cons_zero]
  refine wpAnyH_done (by kernel_rfl) ?_ _
  refine NoPanic.normal ?_
  try simp only [Act.put]
  have u1 : Below w.heap.size w U1 := u0.trans (hB4.mono (by omega))
  have y1 : w.heap.size + 1 < U1.heap.size := Nat.lt_of_lt_of_le y0 hB4.size
  have k1 : U1.heap[w.heap.size]? = some (.map #[] 0) := (hB4.block _ (by omega)).trans k0
  have t1 := t0.below hB4
  have v1 : U1.heap[vb]? = _ := (hB4.block _ (by omega)).trans v0
  clear HU1 hB4 hS t0 v0 k0 b0
  have g0 := t1.a0
  have g1 := t1.a1
  have gl := t1.gl
  go_wp2_with fail
  refine wp_loop_rounds 2 ?_
  rw [rounds_succ]
  go_wp2_with fail
  rw [rounds_succ]
  go_wp2_with fail
  rw [rounds_succ]
  go_wp2_with fail
  obtain ⟨U2, hU2⟩ : ∃ W, W = U1.alloc (.cells #[.string ⟨#[120]⟩, .int .i64 0] 100) := ⟨_, rfl⟩
  rw [← hU2]
  have u2 : Below U1.heap.size U1 U2 := by rw [hU2]; exact below1 _ _
  have y2 : U1.heap.size < U2.heap.size := by rw [hU2]; simp
  clear hU2
  have v2 : U2.heap[vb]? = _ := (u2.block _ (by omega)).trans v1
  have k2 : U2.heap[w.heap.size]? = _ := (u2.block _ (by omega)).trans k1
  have vc2 := (cells_of v2).1
  have hv2 : vb < U2.heap.size := by omega
  have hw2 : w.heap.size < U2.heap.size := by omega
  have hd : ∀ ty, (Builtin.delete_ #[173, 9] ty #[.map (some w.heap.size), .string ⟨#[65]⟩]).run Tryz.prog (U2.alloc (.cells #[.string ⟨#[65]⟩, .slice none 0 0, .bool false, .bool false] 161)) = .ok (.tuple #[]) (U2.alloc (.cells #[.string ⟨#[65]⟩, .slice none 0 0, .bool false, .bool false] 161)) := fun ty => del_none _ ty _ _ ((heap_old _ _ _ hw2).trans k2)
  clear g0 g1 gl
  refine wp_loop_rounds 2 ?_
  rw [rounds_succ]
  go_wp2_with fail
  rw [rounds_succ]
  go_wp2_with fail
  refine wp_loop_rounds 1 ?_
  rw [rounds_succ]
  go_wp2_with fail
  go_ret
  exact ⟨rfl, u1.trans ((u2.mono (by omega)).trans ((below1 U2 _).mono (by omega)))⟩

end Go.Proofs.YtaboeocgoocgfaaGreatDoor
