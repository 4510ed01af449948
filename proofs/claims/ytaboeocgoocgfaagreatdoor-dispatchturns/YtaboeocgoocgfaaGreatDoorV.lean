/-
  What a field is found to be.
-/
import Derived.Test.YtaboeocgoocgfaaGreatDoorU
namespace Go.Proofs.YtaboeocgoocgfaaGreatDoor
open Go.RowKit Go.Shelf

attribute [local go_sem] Oper.semAt_some
set_option maxRecDepth 100000 in
set_option maxHeartbeats 8000000 in
theorem find_X (tb M g cap pb pe : Nat) (es : Array MapEntry) (clk : Nat) (nb cb : Nat) (p : Bool) (w : World) (ht : TabAt w tb M g cap pb pe es clk) (hnb : w.heap[nb]? = some (.cells #[.string ⟨#[65]⟩] 9)) (hcb : w.heap[cb]? = some (.cells #[.pointer (some ⟨tb, 0, none⟩)] 23)) :
    Calls Tryz.prog 46 #[.pointer (some ⟨tb, 0, none⟩), .func (.func 73) #[] #[.pointer (some ⟨nb, 0, none⟩), .pointer (some ⟨cb, 0, none⟩)], .bool p, .string ⟨#[120]⟩] w fun e w' => FndX w.heap.size e w' ∧ Below w.heap.size w w' := by
  have hnl := heap_lt hnb
  have hcl := heap_lt hcb
  have htl := ht.lts
  refine (callsIn_wide (n := 20)).1 ?_
  refine callsIn_of_wp_marks Tryz.func46 rfl trivial ?_ rfl
  simp only [Tryz.ntmps46, List.size_toArray, List.length_cons, List.length_nil, Nat.reduceAdd, Nat.reduceSub, Array.replicate_succ, Array.replicate_zero, List.push_toArray, List.append_toArray, List.nil_append, List.cons_append]
  gi_wp2_with fail
  obtain ⟨W0, hW0⟩ : ∃ W, W = ((((w.alloc (.cells #[.pointer (some ⟨tb, 0, none⟩)] 23)).alloc (.cells #[.bool p] 4)).alloc (.cells #[.string ⟨#[120]⟩] 9)).alloc (.cells #[.int .i64 0, .slice none 0 0, .string ⟨#[]⟩, .bool false, .int .i64 0] 50)) := ⟨_, rfl⟩
  rw [← hW0]
  have b0 : Below w.heap.size w W0 := by rw [hW0]; repeat (first | exact Below.refl _ _ | refine Below.alloc ?_ (by simp <;> omega) _)
  have z0 : w.heap.size + 1 + 1 + 1 + 1 ≤ W0.heap.size := by rw [hW0]; simp
  have ot : W0.heap[w.heap.size]? = some (.cells #[.pointer (some ⟨tb, 0, none⟩)] 23) := by rw [hW0, heap_old _ _ _ (by simp <;> omega), heap_old _ _ _ (by simp <;> omega), heap_old _ _ _ (by simp <;> omega)]; exact heap_new _ _ _ (by simp)
  have op : W0.heap[w.heap.size + 1]? = some (.cells #[.bool p] 4) := by rw [hW0, heap_old _ _ _ (by simp <;> omega), heap_old _ _ _ (by simp <;> omega)]; exact heap_new _ _ _ (by simp)
  have ow : W0.heap[w.heap.size + 1 + 1]? = some (.cells #[.string ⟨#[120]⟩] 9) := by rw [hW0, heap_old _ _ _ (by simp <;> omega)]; exact heap_new _ _ _ (by simp)
  have or0 : W0.heap[w.heap.size + 1 + 1 + 1]? = some (.cells #[.int .i64 0, .slice none 0 0, .string ⟨#[]⟩, .bool false, .int .i64 0] 50) := by rw [hW0]; exact heap_new _ _ _ (by simp)
  clear hW0
  have t0 := ht.below b0
  refine wpIn_rangeFunc_once rfl (by decide) (gf := 73) (lb := #[.pointer (some ⟨nb, 0, none⟩), .pointer (some ⟨cb, 0, none⟩)]) rfl trivial (enters_of Tryz.func73 (by kernel_rfl) rfl) (levels1_once (20 - 1) (by decide) tb M g cap pb pe es clk nb cb W0 t0 ((b0.block _ hnl).trans hnb) ((b0.block _ hcl).trans hcb)) rfl False (fun W => Below w.heap.size w W ∧ ∃ pg pc, W.heap[w.heap.size + 1 + 1 + 1]? = some (.cells #[.int .i64 1, .slice (some ⟨pg, 0, none⟩) 1 pc, .string ⟨#[]⟩, .bool false, .int .i64 0] 50) ∧ W0.heap.size + 2 < pg ∧ pg < W.heap.size ∧ 1 ≤ pc ∧ W.cell? ⟨pg, 0, none⟩ = some (.int .i64 0)) ?hix ?a1 ?assign ?body ?done ?stop
  case assign =>
    intro l W K hK
    gi_wp2
    exact hK
  case hix =>
    rintro W W' r ⟨h1, pg, pc, h2, h3, h4, h5, h6⟩ hgr hr1 hr2
    refine ⟨h1.trans ⟨hgr.os, hgr.tape, hgr.output, hgr.size, fun k hk => hgr.block k (by have := h1.size; omega) (by simp; omega)⟩, pg, pc, (hgr.block _ (heap_lt h2) (by simp; omega)).trans h2, h3, Nat.lt_of_lt_of_le h4 hgr.size, h5, (World.cell?_of_block (a := ⟨pg, 0, none⟩) (hgr.block _ h4 (by simp; omega))).trans h6⟩
  case body =>
    intro l V hV hv zv
    have tV := t0.below hV
    have vt : V.heap[w.heap.size]? = _ := (hV.block _ (by omega)).trans ot
    have vp : V.heap[w.heap.size + 1]? = _ := (hV.block _ (by omega)).trans op
    have vw : V.heap[w.heap.size + 1 + 1]? = _ := (hV.block _ (by omega)).trans ow
    have vr : V.heap[w.heap.size + 1 + 1 + 1]? = some (.cells #[.int .i64 0, .slice none 0 0, .string ⟨#[]⟩, .bool false, .int .i64 0] 50) := (hV.block _ (by omega)).trans or0
    have vc := (cells_of hv).1
    gi_wp2_with fail
    refine wpIn_loop_rounds 2 ?_
    rw [roundsIn_succ]
    gi_wp2_with fail
    obtain ⟨U0, hU0⟩ : ∃ W, W = V.alloc (.cells #[.string ⟨#[65]⟩, .slice none 0 0, .bool false, .bool false] 161) := ⟨_, rfl⟩
    rw [← hU0]
    have c0 : Below V.heap.size V U0 := by rw [hU0]; exact below1 _ _
    have y0 : V.heap.size < U0.heap.size := by rw [hU0]; simp
    have ab : U0.heap[V.heap.size]? = some (.cells #[.string ⟨#[65]⟩, .slice none 0 0, .bool false, .bool false] 161) := by rw [hU0]; exact heap_new _ _ _ rfl
    clear hU0
    have aT := tV.below c0
    have at_ : U0.heap[w.heap.size]? = _ := (c0.block _ (by omega)).trans vt
    have aw : U0.heap[w.heap.size + 1 + 1]? = _ := (c0.block _ (by omega)).trans vw
    have hS0 : (∀ j, U0.cell? ⟨w.heap.size, j, none⟩ = (#[.pointer (some ⟨tb, 0, none⟩)] : Array Value)[j]?) ∧ (∀ j, U0.cell? ⟨w.heap.size + 1 + 1, j, none⟩ = (#[.string ⟨#[120]⟩] : Array Value)[j]?) ∧ (∀ j, U0.cell? ⟨V.heap.size, j, none⟩ = (#[.string ⟨#[65]⟩, .slice none 0 0, .bool false, .bool false] : Array Value)[j]?) ∧ (∀ j, U0.cell? ⟨tb, j, none⟩ = (#[.map (some M)] : Array Value)[j]?) ∧ U0.heap[M]? = some (.map es clk) ∧ U0.heap[pb]? = some (.map #[⟨.string ⟨#[120]⟩, .agg #[.bool true, .int .i64 0, .bool false, .int .i64 0], 0⟩] 1) := ⟨(cells_of at_).1, (cells_of aw).1, (cells_of ab).1, (cells_of aT.tab).1, aT.map, aT.pa⟩
    refine wpIn_region_round (S := fun W => (∀ j, W.cell? ⟨w.heap.size, j, none⟩ = (#[.pointer (some ⟨tb, 0, none⟩)] : Array Value)[j]?) ∧ (∀ j, W.cell? ⟨w.heap.size + 1 + 1, j, none⟩ = (#[.string ⟨#[120]⟩] : Array Value)[j]?) ∧ (∀ j, W.cell? ⟨V.heap.size, j, none⟩ = (#[.string ⟨#[65]⟩, .slice none 0 0, .bool false, .bool false] : Array Value)[j]?) ∧ (∀ j, W.cell? ⟨tb, j, none⟩ = (#[.map (some M)] : Array Value)[j]?) ∧ W.heap[M]? = some (.map es clk) ∧ W.heap[pb]? = some (.map #[⟨.string ⟨#[120]⟩, .agg #[.bool true, .int .i64 0, .bool false, .int .i64 0], 0⟩] 1)) (by kernel_rfl) (by kernel_rfl) (fun q => by obtain ⟨_, _, h⟩ := q; exact h) ?_
    obtain ⟨U1, hU1⟩ : ∃ W4, W4 = (U0).drew := ⟨_, rfl⟩
    have e4 : ({ U0 with drawn := (U0).drawn + 1 } : World) = U1 := hU1.symm
    rw [e4]
    have hB4 : Below (U0).heap.size (U0) U1 := by rw [hU1]; exact (Below.refl _ _).drew
    have hS : (∀ j, U1.cell? ⟨w.heap.size, j, none⟩ = (#[.pointer (some ⟨tb, 0, none⟩)] : Array Value)[j]?) ∧ (∀ j, U1.cell? ⟨w.heap.size + 1 + 1, j, none⟩ = (#[.string ⟨#[120]⟩] : Array Value)[j]?) ∧ (∀ j, U1.cell? ⟨V.heap.size, j, none⟩ = (#[.string ⟨#[65]⟩, .slice none 0 0, .bool false, .bool false] : Array Value)[j]?) ∧ (∀ j, U1.cell? ⟨tb, j, none⟩ = (#[.map (some M)] : Array Value)[j]?) ∧ U1.heap[M]? = some (.map es clk) ∧ U1.heap[pb]? = some (.map #[⟨.string ⟨#[120]⟩, .agg #[.bool true, .int .i64 0, .bool false, .int .i64 0], 0⟩] 1) := ⟨fun j => (hB4.cell (p := ⟨w.heap.size, j, none⟩) (by show w.heap.size < _; omega)).trans (hS0.1 j), fun j => (hB4.cell (p := ⟨w.heap.size + 1 + 1, j, none⟩) (by show w.heap.size + 1 + 1 < _; omega)).trans (hS0.2.1 j), fun j => (hB4.cell (p := ⟨V.heap.size, j, none⟩) (by show V.heap.size < _; omega)).trans (hS0.2.2.1 j), fun j => (hB4.cell (p := ⟨tb, j, none⟩) (heap_lt aT.tab)).trans (hS0.2.2.2.1 j), (hB4.block _ (heap_lt aT.map)).trans aT.map, (hB4.block _ (heap_lt aT.pa)).trans aT.pa⟩
    clear e4 hU1
    refine wpAnyH_take (i := 0) (v := .pointer (some ⟨tb, 0, none⟩)) rfl (by kernel_rfl) (by kernel_rfl) (by kernel_rfl) (fun _ _ _ h => h) (Or.inl ⟨by rfl, ?r⟩) hS ?_
    case r => intro W hW; simp [go_sem, execOp, Act.eval, hW.1]
    simp only [List.getElem_toArray, List.getElem_cons_zero, Act.put, List.setIfInBounds_toArray, List.set_cons_succ, List.set_cons_zero]
    refine wpAnyH_take (i := 1) (v := .pointer (some ⟨tb, 0, none⟩)) rfl (by kernel_rfl) (by kernel_rfl) (by kernel_rfl) (fun _ _ _ h => h) (Or.inl ⟨by rfl, ?r⟩) hS ?_
    case r => intro W hW; simp [go_sem, execOp, Act.eval]
    simp only [List.getElem_toArray, List.getElem_cons_zero, List.getElem_cons_succ, Act.put, List.setIfInBounds_toArray, List.set_cons_succ, List.set_cons_zero]
    refine wpAnyH_take (i := 2) (v := .pointer (some ⟨tb, 0, none⟩)) rfl (by kernel_rfl) (by kernel_rfl) (by kernel_rfl) (fun _ _ _ h => h) (Or.inl ⟨by rfl, ?r⟩) hS ?_
    case r => intro W hW; simp [go_sem, execOp, Act.eval]
    simp only [List.getElem_toArray, List.getElem_cons_zero, List.getElem_cons_succ, Act.put, List.setIfInBounds_toArray, List.set_cons_succ, List.set_cons_zero]
    refine wpAnyH_take (i := 3) (v := .map (some M)) rfl (by kernel_rfl) (by kernel_rfl) (by kernel_rfl) (fun _ _ _ h => h) (Or.inl ⟨by rfl, ?r⟩) hS ?_
    case r => intro W hW; simp [go_sem, execOp, Act.eval, hW.2.2.2.1]
    simp only [List.getElem_toArray, List.getElem_cons_zero, List.getElem_cons_succ, Act.put, List.setIfInBounds_toArray, List.set_cons_succ, List.set_cons_zero]
    refine wpAnyH_take (i := 4) (v := .pointer (some ⟨V.heap.size, 0, none⟩)) rfl (by kernel_rfl) (by kernel_rfl) (by kernel_rfl) (fun _ _ _ h => h) (Or.inl ⟨by rfl, ?r⟩) hS ?_
    case r => intro W hW; simp [go_sem, execOp, Act.eval]
    simp only [List.getElem_toArray, List.getElem_cons_zero, List.getElem_cons_succ, Act.put, List.setIfInBounds_toArray, List.set_cons_succ, List.set_cons_zero]
    refine wpAnyH_take (i := 5) (v := .string ⟨#[65]⟩) rfl (by kernel_rfl) (by kernel_rfl) (by kernel_rfl) (fun _ _ _ h => h) (Or.inl ⟨by rfl, ?r⟩) hS ?_
    case r => intro W hW; simp [go_sem, execOp, Act.eval, hW.2.2.1]
    simp only [List.getElem_toArray, List.getElem_cons_zero, List.getElem_cons_succ, Act.put, List.setIfInBounds_toArray, List.set_cons_succ, List.set_cons_zero]
    refine wpAnyH_take (i := 6) (v := .agg #[.int .i64 8, .bool false, .slice (some ⟨g, 0, none⟩) 1 cap, .map (some pb)]) rfl (by kernel_rfl) (by kernel_rfl) (by kernel_rfl) (fun _ _ _ h => h) (Or.inl ⟨by rfl, ?r⟩) hS ?_
    case r => intro W hW; simp [go_sem, execOp, Act.eval, look_yes (P := Tryz.prog) Tryz.underlying57 Tryz.underlying9 hW.2.2.2.2.1 ht.fA false]
    simp only [List.getElem_toArray, List.getElem_cons_zero, List.getElem_cons_succ, Act.put, List.setIfInBounds_toArray, List.set_cons_succ, List.set_cons_zero]
    refine wpAnyH_take (i := 7) (v := .map (some pb)) rfl (by kernel_rfl) (by kernel_rfl) (by kernel_rfl) (fun _ _ _ h => h) (Or.inl ⟨by rfl, ?r⟩) hS ?_
    case r => intro W hW; simp [go_sem, execOp, Act.eval, fld3]
    simp only [List.getElem_toArray, List.getElem_cons_zero, List.getElem_cons_succ, Act.put, List.setIfInBounds_toArray, List.set_cons_succ, List.set_cons_zero]
    refine wpAnyH_take (i := 8) (v := .string ⟨#[120]⟩) rfl (by kernel_rfl) (by kernel_rfl) (by kernel_rfl) (fun _ _ _ h => h) (Or.inl ⟨by rfl, ?r⟩) hS ?_
    case r => intro W hW; simp [go_sem, execOp, Act.eval, hW.2.1]
    simp only [List.getElem_toArray, List.getElem_cons_zero, List.getElem_cons_succ, Act.put, List.setIfInBounds_toArray, List.set_cons_succ, List.set_cons_zero]
    refine wpAnyH_take (i := 9) (v := .tuple #[.agg #[.bool true, .int .i64 0, .bool false, .int .i64 0], .bool true]) rfl (by kernel_rfl) (by kernel_rfl) (by kernel_rfl) (fun _ _ _ h => h) (Or.inl ⟨by rfl, ?r⟩) hS ?_
    case r => intro W hW; simp [go_sem, execOp, Act.eval, look_yes (P := Tryz.prog) Tryz.underlying104 Tryz.underlying9 hW.2.2.2.2.2 (i := 0) (v := .agg #[.bool true, .int .i64 0, .bool false, .int .i64 0]) (s := ⟨#[120]⟩) rfl true]
    simp only [List.getElem_toArray, List.getElem_cons_zero, List.getElem_cons_succ, Act.put, List.setIfInBounds_toArray, List.set_cons_succ, List.set_cons_zero]
    refine wpAnyH_take (i := 10) (v := .tuple #[.agg #[.bool true, .int .i64 0, .bool false, .int .i64 0], .bool true]) rfl (by kernel_rfl) (by kernel_rfl) (by kernel_rfl) (fun _ _ _ h => h) (Or.inl ⟨by rfl, ?r⟩) hS ?_
    case r => intro W hW; simp [go_sem, execOp, Act.eval]
    simp only [List.getElem_toArray, List.getElem_cons_zero, List.getElem_cons_succ, Act.put, List.setIfInBounds_toArray, List.set_cons_succ, List.set_cons_zero]
    refine wpAnyH_take (i := 11) (v := .agg #[.bool true, .int .i64 0, .bool false, .int .i64 0]) rfl (by kernel_rfl) (by kernel_rfl) (by kernel_rfl) (fun _ _ _ h => h) (Or.inl ⟨by rfl, ?r⟩) hS ?_
    case r => intro W hW; simp [go_sem, execOp, Act.eval]
    simp only [List.getElem_toArray, List.getElem_cons_zero, List.getElem_cons_succ, Act.put, List.setIfInBounds_toArray, List.set_cons_succ, List.set_cons_zero]
    refine wpAnyH_take (i := 12) (v := .bool true) rfl (by kernel_rfl) (by kernel_rfl) (by kernel_rfl) (fun _ _ _ h => h) (Or.inl ⟨by rfl, ?r⟩) hS ?_
    case r => intro W hW; simp [go_sem, execOp, Act.eval]
    simp only [List.getElem_toArray, List.getElem_cons_zero, List.getElem_cons_succ, Act.put, List.setIfInBounds_toArray, List.set_cons_succ, List.set_cons_zero]
    have c1 : Below V.heap.size V U1 := c0.trans (hB4.mono (by omega))
    have y1 : V.heap.size < U1.heap.size := Nat.lt_of_lt_of_le y0 hB4.size
    clear hB4 hS0 at_ aw ab aT c0 y0
    refine wpAnyH_all (rs := [13]) (by kernel_rfl) (by simp) (fun i2 hi2 => ?_)
    obtain rfl : i2 = 13 := by simpa using hi2
    clear hi2
    refine wpOp_step rfl (fun K hK => ite_yes rfl ?_)
    simp only [List.getElem_toArray, List.getElem_cons_zero, List.getElem_cons_succ]
    go_simp
    obtain ⟨U2, hU2⟩ : ∃ W, W = U1.alloc (.cells #[.bool false, .int .i64 0, .bool false, .int .i64 0] 103) := ⟨_, rfl⟩
    rw [← hU2]
    have c2 : Below U1.heap.size U1 U2 := by rw [hU2]; exact below1 _ _
    have y2 : U1.heap.size < U2.heap.size := by rw [hU2]; simp
    have n2 : U2.heap[U1.heap.size]? = some (.cells #[.bool false, .int .i64 0, .bool false, .int .i64 0] 103) := by rw [hU2]; exact heap_new _ _ _ rfl
    clear hU2
    have lT := t0.lts
    have K2 : ∀ k j, k < U1.heap.size → U2.cell? ⟨k, j, none⟩ = U1.cell? ⟨k, j, none⟩ := fun k j h => c2.cell (p := ⟨k, j, none⟩) h
    have hl1 : w.heap.size < U1.heap.size ∧ w.heap.size + 1 + 1 < U1.heap.size ∧ tb < U1.heap.size ∧ M < U1.heap.size ∧ pb < U1.heap.size := by have := hV.size; omega
    have hSU2 : (∀ j, U2.cell? ⟨w.heap.size, j, none⟩ = (#[.pointer (some ⟨tb, 0, none⟩)] : Array Value)[j]?) ∧ (∀ j, U2.cell? ⟨w.heap.size + 1 + 1, j, none⟩ = (#[.string ⟨#[120]⟩] : Array Value)[j]?) ∧ (∀ j, U2.cell? ⟨V.heap.size, j, none⟩ = (#[.string ⟨#[65]⟩, .slice none 0 0, .bool false, .bool false] : Array Value)[j]?) ∧ (∀ j, U2.cell? ⟨tb, j, none⟩ = (#[.map (some M)] : Array Value)[j]?) ∧ U2.heap[M]? = some (.map es clk) ∧ U2.heap[pb]? = some (.map #[⟨.string ⟨#[120]⟩, .agg #[.bool true, .int .i64 0, .bool false, .int .i64 0], 0⟩] 1) := ⟨fun j => (K2 _ j hl1.1).trans (hS.1 j), fun j => (K2 _ j hl1.2.1).trans (hS.2.1 j), fun j => (K2 _ j y1).trans (hS.2.2.1 j), fun j => (K2 _ j hl1.2.2.1).trans (hS.2.2.2.1 j), (c2.block _ hl1.2.2.2.1).trans hS.2.2.2.2.1, (c2.block _ hl1.2.2.2.2).trans hS.2.2.2.2.2⟩
    refine hK _ _ ⟨hSU2, ?_⟩
    clear hK K hS
    have hS := hSU2
    clear hSU2
    try simp only [Act.put, List.setIfInBounds_toArray, List.set_cons_succ, List.set_cons_zero]
    obtain ⟨nc2, nf2⟩ := cells_of n2
    refine wpAnyH_all (rs := [14]) (by kernel_rfl) (by simp) (fun i2 hi2 => ?_)
    obtain rfl : i2 = 14 := by simpa using hi2
    clear hi2
    refine wpOp_step rfl (fun K hK => ite_yes rfl ?_)
    simp only [List.getElem_toArray, List.getElem_cons_zero, List.getElem_cons_succ]
    go_simp
    obtain ⟨U3, hU3⟩ : ∃ W, W = (((U2.setCell ⟨U1.heap.size, 0, none⟩ (.bool true)).setCell ⟨U1.heap.size, 1, none⟩ (.int .i64 0)).setCell ⟨U1.heap.size, 2, none⟩ (.bool false)).setCell ⟨U1.heap.size, 3, none⟩ (.int .i64 0) := ⟨_, rfl⟩
    rw [← hU3]
    have k3 : Kp (· = U1.heap.size) U2 U3 := by rw [hU3]; exact kp_set4 _ _ _ _ _ _
    clear hU3
    have y3 := k3.size
    have c3 : Below V.heap.size V U3 := c1.trans ((c2.mono (by omega)).trans (k3.below (by omega) fun i hi h => by omega))
    have K3 : ∀ k j, k < U1.heap.size → U3.cell? ⟨k, j, none⟩ = U2.cell? ⟨k, j, none⟩ := fun k j h => k3.cell (by omega) (by omega)
    have hSU3 : (∀ j, U3.cell? ⟨w.heap.size, j, none⟩ = (#[.pointer (some ⟨tb, 0, none⟩)] : Array Value)[j]?) ∧ (∀ j, U3.cell? ⟨w.heap.size + 1 + 1, j, none⟩ = (#[.string ⟨#[120]⟩] : Array Value)[j]?) ∧ (∀ j, U3.cell? ⟨V.heap.size, j, none⟩ = (#[.string ⟨#[65]⟩, .slice none 0 0, .bool false, .bool false] : Array Value)[j]?) ∧ (∀ j, U3.cell? ⟨tb, j, none⟩ = (#[.map (some M)] : Array Value)[j]?) ∧ U3.heap[M]? = some (.map es clk) ∧ U3.heap[pb]? = some (.map #[⟨.string ⟨#[120]⟩, .agg #[.bool true, .int .i64 0, .bool false, .int .i64 0], 0⟩] 1) := ⟨fun j => (K3 _ j hl1.1).trans (hS.1 j), fun j => (K3 _ j hl1.2.1).trans (hS.2.1 j), fun j => (K3 _ j y1).trans (hS.2.2.1 j), fun j => (K3 _ j hl1.2.2.1).trans (hS.2.2.2.1 j), (k3.block _ (by omega) (by omega)).trans hS.2.2.2.2.1, (k3.block _ (by omega) (by omega)).trans hS.2.2.2.2.2⟩
    refine hK _ _ ⟨hSU3, ?_⟩
    clear hK K hS
    have hS := hSU3
    clear hSU3
    try simp only [Act.put, List.setIfInBounds_toArray, List.set_cons_succ, List.set_cons_zero]
    refine wpAnyH_take (i := 15) (v := .bool true) rfl (by kernel_rfl) (by kernel_rfl) (by kernel_rfl) (fun _ _ _ h => h) (Or.inl ⟨by rfl, ?r⟩) hS ?_
    case r => intro W hW; simp [go_sem, execOp, Act.eval]
    simp only [List.getElem_toArray, List.getElem_cons_zero, List.getElem_cons_succ, Act.put, List.setIfInBounds_toArray, List.set_cons_succ, List.set_cons_zero]
    refine wpAnyH_done (by kernel_rfl) ?_ _
    refine NoPanic.normal ?_
    try simp only [Act.put]
    clear K2 K3 nc2 nf2 n2
    obtain ⟨hS1, hS2, hS3, -, -, -⟩ := hS
    have hVU : V.heap.size < U3.heap.size := by omega
    obtain ⟨i0, hi, hz0, hz1, hz2⟩ := info_parts info161
    obtain ⟨U4, hU4⟩ : ∃ W, W = U3.alloc (.cells #[.string ⟨#[65]⟩, .slice none 0 0, .bool false, .bool false] 161) := ⟨_, rfl⟩
    have c4 : Below U3.heap.size U3 U4 := by rw [hU4]; exact below1 _ _
    have y4 : U3.heap.size < U4.heap.size := by rw [hU4]; simp
    have n4 : U4.heap[U3.heap.size]? = some (.cells #[.string ⟨#[65]⟩, .slice none 0 0, .bool false, .bool false] 161) := by rw [hU4]; exact heap_new _ _ _ rfl
    gi_wp2_with (gi_at_builtin; rw [← hU4]; clear hU4; refine wpListIn_append_own _ rfl _ _ 159 rfl U4.heap.size 161 i0 (.agg #[.string ⟨#[]⟩, .slice none 0 0, .bool false, .bool false]) 4 48 Tryz.underlying159 hi hz0 hz1 hz2 rfl (by decide) _ 0 [] rfl (World.ownsRow_nil _ _ _ _) ⟨U3.heap.size, 0, none⟩ 1 1 (#[.string ⟨#[65]⟩, .slice none 0 0, .bool false, .bool false] : Array Value).toList rfl rfl ?hn ?h1 (by decide) (by decide) (Nat.le_refl _) ?hc)
    case hn => exact fun j u hj => by rw [(cells_of n4).1 j, ← hj]; simp
    case h1 => exact ⟨rfl, rfl, rfl⟩
    intro v' U5 hown hgr hnil
    obtain ⟨hg, hc, rfl, hglo, hghi, c5, hrow⟩ := new_row hown hgr (fun e => by simpa using hnil e)
    clear hown hgr hnil i0 hi hz0 hz1 hz2
    have y5 := c5.size
    have g0 := (hrow 0 _ rfl).1
    have g1 := (hrow 1 _ rfl).1
    have g2 := (hrow 2 _ rfl).1
    have g3 := (hrow 3 _ rfl).1
    have d5 : Below V.heap.size V U5 := c3.trans ((c4.mono (by omega)).trans (c5.mono (by omega)))
    have e1 : U5.heap[w.heap.size]? = _ := (d5.block _ (by have := hV.size; omega)).trans vt
    have e2 : U5.heap[w.heap.size + 1]? = _ := (d5.block _ (by have := hV.size; omega)).trans vp
    have e3 : U5.heap[w.heap.size + 1 + 1]? = _ := (d5.block _ (by have := hV.size; omega)).trans vw
    have e4' : U5.heap[w.heap.size + 1 + 1 + 1]? = some (.cells #[.int .i64 0, .slice none 0 0, .string ⟨#[]⟩, .bool false, .int .i64 0] 50) := (d5.block _ (by have := hV.size; omega)).trans vr
    clear hS1 hS2 hS3
    gi_wp2_with fail
    rw [roundsIn_succ]
    gi_wp2_with fail
    have hzV := hV.size
    refine wpIn_region_round (S := fun W => (∀ j, W.cell? ⟨w.heap.size, j, none⟩ = (#[.pointer (some ⟨tb, 0, none⟩)] : Array Value)[j]?) ∧ (∀ j, W.cell? ⟨w.heap.size + 1, j, none⟩ = (#[.bool p] : Array Value)[j]?) ∧ (∀ j, W.cell? ⟨w.heap.size + 1 + 1, j, none⟩ = (#[.string ⟨#[120]⟩] : Array Value)[j]?) ∧ W.cell? ⟨hg, 0, none⟩ = some (.string ⟨#[65]⟩) ∧ W.cell? ⟨hg, 1, none⟩ = some (.slice none 0 0) ∧ W.cell? ⟨hg, 2, none⟩ = some (.bool false) ∧ W.cell? ⟨hg, 3, none⟩ = some (.bool false)) (by kernel_rfl) (by kernel_rfl) (fun q => by obtain ⟨_, _, h⟩ := q; exact h) ?_
    obtain ⟨U6, hU6⟩ : ∃ W4, W4 = (U5).drew := ⟨_, rfl⟩
    have e4 : ({ U5 with drawn := (U5).drawn + 1 } : World) = U6 := hU6.symm
    rw [e4]
    have hB4 : Below (U5).heap.size (U5) U6 := by rw [hU6]; exact (Below.refl _ _).drew
    have hS : (∀ j, U6.cell? ⟨w.heap.size, j, none⟩ = (#[.pointer (some ⟨tb, 0, none⟩)] : Array Value)[j]?) ∧ (∀ j, U6.cell? ⟨w.heap.size + 1, j, none⟩ = (#[.bool p] : Array Value)[j]?) ∧ (∀ j, U6.cell? ⟨w.heap.size + 1 + 1, j, none⟩ = (#[.string ⟨#[120]⟩] : Array Value)[j]?) ∧ U6.cell? ⟨hg, 0, none⟩ = some (.string ⟨#[65]⟩) ∧ U6.cell? ⟨hg, 1, none⟩ = some (.slice none 0 0) ∧ U6.cell? ⟨hg, 2, none⟩ = some (.bool false) ∧ U6.cell? ⟨hg, 3, none⟩ = some (.bool false) := ⟨(cells_of ((hB4.block _ (by omega)).trans e1)).1, (cells_of ((hB4.block _ (by omega)).trans e2)).1, (cells_of ((hB4.block _ (by omega)).trans e3)).1, (hB4.cell (p := ⟨hg, 0, none⟩) hghi).trans g0, (hB4.cell (p := ⟨hg, 1, none⟩) hghi).trans g1, (hB4.cell (p := ⟨hg, 2, none⟩) hghi).trans g2, (hB4.cell (p := ⟨hg, 3, none⟩) hghi).trans g3⟩
    clear e4 hU6
    refine wpAnyH_take (i := 0) (v := .pointer (some ⟨tb, 0, none⟩)) rfl (by kernel_rfl) (by kernel_rfl) (by kernel_rfl) (fun _ _ _ h => h) (Or.inl ⟨by rfl, ?r⟩) hS ?_
    case r => intro W hW; simp [go_sem, execOp, Act.eval, hW.1]
    simp only [List.getElem_toArray, List.getElem_cons_zero, Act.put, List.setIfInBounds_toArray, List.set_cons_succ, List.set_cons_zero]
    refine wpAnyH_take (i := 1) (v := .slice (some ⟨hg, 0, none⟩) 1 hc) rfl (by kernel_rfl) (by kernel_rfl) (by kernel_rfl) (fun _ _ _ h => h) (Or.inl ⟨by rfl, ?r⟩) hS ?_
    case r => intro W hW; simp [go_sem, execOp, Act.eval]
    simp only [List.getElem_toArray, List.getElem_cons_zero, List.getElem_cons_succ, Act.put, List.setIfInBounds_toArray, List.set_cons_succ, List.set_cons_zero]
    refine wpAnyH_take (i := 2) (v := .pointer (some ⟨hg, 0, none⟩)) rfl (by kernel_rfl) (by kernel_rfl) (by kernel_rfl) (fun _ _ _ h => h) (Or.inl ⟨by rfl, ?r⟩) hS ?_
    case r => intro W hW; simp [go_sem, execOp, Act.eval]
    simp only [List.getElem_toArray, List.getElem_cons_zero, List.getElem_cons_succ, Act.put, List.setIfInBounds_toArray, List.set_cons_succ, List.set_cons_zero]
    refine wpAnyH_take (i := 3) (v := .agg #[.string ⟨#[65]⟩, .slice none 0 0, .bool false, .bool false]) rfl (by kernel_rfl) (by kernel_rfl) (by kernel_rfl) (fun _ _ _ h => h) (Or.inl ⟨by rfl, ?r⟩) hS ?_
    case r => intro W hW; simp [go_sem, execOp, Act.eval, hW.2.2.2.1, hW.2.2.2.2.1, hW.2.2.2.2.2.1, hW.2.2.2.2.2.2]
    simp only [List.getElem_toArray, List.getElem_cons_zero, List.getElem_cons_succ, Act.put, List.setIfInBounds_toArray, List.set_cons_succ, List.set_cons_zero]
    refine wpAnyH_take (i := 4) (v := .bool p) rfl (by kernel_rfl) (by kernel_rfl) (by kernel_rfl) (fun _ _ _ h => h) (Or.inl ⟨by rfl, ?r⟩) hS ?_
    case r => intro W hW; simp [go_sem, execOp, Act.eval, hW.2.1]
    simp only [List.getElem_toArray, List.getElem_cons_zero, List.getElem_cons_succ, Act.put, List.setIfInBounds_toArray, List.set_cons_succ, List.set_cons_zero]
    refine wpAnyH_take (i := 5) (v := .string ⟨#[120]⟩) rfl (by kernel_rfl) (by kernel_rfl) (by kernel_rfl) (fun _ _ _ h => h) (Or.inl ⟨by rfl, ?r⟩) hS ?_
    case r => intro W hW; simp [go_sem, execOp, Act.eval, hW.2.2.1]
    simp only [List.getElem_toArray, List.getElem_cons_zero, List.getElem_cons_succ, Act.put, List.setIfInBounds_toArray, List.set_cons_succ, List.set_cons_zero]
    have d6 : Below V.heap.size V U6 := d5.trans (hB4.mono (by omega))
    have y6 := hB4.size
    have r6 : U6.heap[w.heap.size + 1 + 1 + 1]? = some (.cells #[.int .i64 0, .slice none 0 0, .string ⟨#[]⟩, .bool false, .int .i64 0] 50) := (hB4.block _ (by omega)).trans e4'
    have t6 := tV.below d6
    clear hB4 g0 g1 g2 g3 e1 e2 e3 e4'
    refine wpAnyH_all (rs := [6]) (by kernel_rfl) (by simp) (fun i2 hi2 => ?_)
    obtain rfl : i2 = 6 := by simpa using hi2
    clear hi2
    refine wpOp_step rfl (fun K hK => ite_yes rfl ?_)
    simp only [List.getElem_toArray, List.getElem_cons_zero, List.getElem_cons_succ]
    go_simp
    refine (found_X tb M g cap pb pe es clk p _ t6).mono ?_
    rintro r U7 ⟨⟨pg, pc, rfl, hp1, hp2, hp3, hp4⟩, c7⟩
    have y7 := c7.size
    have q7 : ∀ k j, k < U6.heap.size → U7.cell? ⟨k, j, none⟩ = U6.cell? ⟨k, j, none⟩ := fun k j h => c7.cell (p := ⟨k, j, none⟩) h
    have r7 : U7.heap[w.heap.size + 1 + 1 + 1]? = some (.cells #[.int .i64 0, .slice none 0 0, .string ⟨#[]⟩, .bool false, .int .i64 0] 50) := (c7.block _ (by omega)).trans r6
    go_simp
    have hSU7 : (∀ j, U7.cell? ⟨w.heap.size, j, none⟩ = (#[.pointer (some ⟨tb, 0, none⟩)] : Array Value)[j]?) ∧ (∀ j, U7.cell? ⟨w.heap.size + 1, j, none⟩ = (#[.bool p] : Array Value)[j]?) ∧ (∀ j, U7.cell? ⟨w.heap.size + 1 + 1, j, none⟩ = (#[.string ⟨#[120]⟩] : Array Value)[j]?) ∧ U7.cell? ⟨hg, 0, none⟩ = some (.string ⟨#[65]⟩) ∧ U7.cell? ⟨hg, 1, none⟩ = some (.slice none 0 0) ∧ U7.cell? ⟨hg, 2, none⟩ = some (.bool false) ∧ U7.cell? ⟨hg, 3, none⟩ = some (.bool false) := ⟨fun j => (q7 (w.heap.size) j (by omega)).trans (hS.1 j), fun j => (q7 (w.heap.size + 1) j (by omega)).trans (hS.2.1 j), fun j => (q7 (w.heap.size + 1 + 1) j (by omega)).trans (hS.2.2.1 j), (q7 hg 0 (by omega)).trans hS.2.2.2.1, (q7 hg 1 (by omega)).trans hS.2.2.2.2.1, (q7 hg 2 (by omega)).trans hS.2.2.2.2.2.1, (q7 hg 3 (by omega)).trans hS.2.2.2.2.2.2⟩
    refine hK _ _ ⟨hSU7, ?_⟩
    clear hK K hS
    have hS := hSU7
    clear hSU7
    try simp only [Act.put, List.setIfInBounds_toArray, List.set_cons_succ, List.set_cons_zero]
    obtain ⟨rc7, rf7⟩ := cells_of r7
    refine wpAnyH_all (rs := [7]) (by kernel_rfl) (by simp) (fun i2 hi2 => ?_)
    obtain rfl : i2 = 7 := by simpa using hi2
    clear hi2
    refine wpOp_step rfl (fun K hK => ite_yes rfl ?_)
    simp only [List.getElem_toArray, List.getElem_cons_zero, List.getElem_cons_succ]
    go_simp
    obtain ⟨U8, hU8⟩ : ∃ W, W = ((((U7.setCell ⟨w.heap.size + 1 + 1 + 1, 0, none⟩ (.int .i64 1)).setCell ⟨w.heap.size + 1 + 1 + 1, 1, none⟩ (.slice (some ⟨pg, 0, none⟩) 1 pc)).setCell ⟨w.heap.size + 1 + 1 + 1, 2, none⟩ (.string ⟨#[]⟩)).setCell ⟨w.heap.size + 1 + 1 + 1, 3, none⟩ (.bool false)).setCell ⟨w.heap.size + 1 + 1 + 1, 4, none⟩ (.int .i64 0) := ⟨_, rfl⟩
    rw [← hU8]
    have k8 : Kp (· = w.heap.size + 1 + 1 + 1) U7 U8 := by rw [hU8]; exact kp_set5 _ _ _ _ _ _ _
    have r8 : U8.heap[w.heap.size + 1 + 1 + 1]? = some (.cells #[.int .i64 1, .slice (some ⟨pg, 0, none⟩) 1 pc, .string ⟨#[]⟩, .bool false, .int .i64 0] 50) := by rw [hU8]; exact heap_set (heap_set (heap_set (heap_set (heap_set r7 0 _) 1 _) 2 _) 3 _) 4 _
    clear hU8
    have y8 := k8.size
    have q8 : ∀ k j, k < U7.heap.size → k ≠ w.heap.size + 1 + 1 + 1 → U8.cell? ⟨k, j, none⟩ = U7.cell? ⟨k, j, none⟩ := fun k j h hn => k8.cell h hn
    have hSU8 : (∀ j, U8.cell? ⟨w.heap.size, j, none⟩ = (#[.pointer (some ⟨tb, 0, none⟩)] : Array Value)[j]?) ∧ (∀ j, U8.cell? ⟨w.heap.size + 1, j, none⟩ = (#[.bool p] : Array Value)[j]?) ∧ (∀ j, U8.cell? ⟨w.heap.size + 1 + 1, j, none⟩ = (#[.string ⟨#[120]⟩] : Array Value)[j]?) ∧ U8.cell? ⟨hg, 0, none⟩ = some (.string ⟨#[65]⟩) ∧ U8.cell? ⟨hg, 1, none⟩ = some (.slice none 0 0) ∧ U8.cell? ⟨hg, 2, none⟩ = some (.bool false) ∧ U8.cell? ⟨hg, 3, none⟩ = some (.bool false) := ⟨fun j => (q8 (w.heap.size) j (by omega) (by omega)).trans (hS.1 j), fun j => (q8 (w.heap.size + 1) j (by omega) (by omega)).trans (hS.2.1 j), fun j => (q8 (w.heap.size + 1 + 1) j (by omega) (by omega)).trans (hS.2.2.1 j), (q8 hg 0 (by omega) (by omega)).trans hS.2.2.2.1, (q8 hg 1 (by omega) (by omega)).trans hS.2.2.2.2.1, (q8 hg 2 (by omega) (by omega)).trans hS.2.2.2.2.2.1, (q8 hg 3 (by omega) (by omega)).trans hS.2.2.2.2.2.2⟩
    refine hK _ _ ⟨hSU8, ?_⟩
    clear hK K hS
    have hS := hSU8
    clear hSU8
    try simp only [Act.put, List.setIfInBounds_toArray, List.set_cons_succ, List.set_cons_zero]
    refine wpAnyH_done (by kernel_rfl) ?_ _
    refine NoPanic.normal ?_
    try simp only [Act.put]
    gi_wp2_with fail
    have hB8 : ∀ k, k < V.heap.size → k ≠ w.heap.size + 1 + 1 + 1 → U8.heap[k]? = V.heap[k]? := fun k hk hn => (k8.block k (by omega) hn).trans ((c7.block k (by omega)).trans (d6.block k hk))
    refine ⟨⟨b0.trans ((hV.mono (by omega)).trans ?_), pg, pc, r8, by omega, by omega, hp3, (q8 pg 0 (by omega) (by omega)).trans hp4⟩, by omega, hB8 _ (by omega) (by omega), hB8 _ (by omega) (by omega)⟩
    exact (d6.mono (by omega)).trans ((c7.mono (by omega)).trans (k8.below (by omega) fun i hi h => by omega))
  case done => exact fun _ _ _ h _ _ => h.elim
  case stop =>
    rintro D W hD ⟨hW, pg, pc, r1, h3, h4, h5, h6⟩ hdf
    refine ⟨by simp, .inl ⟨_, _, rfl, run_takeDeferred hdf, ?_⟩⟩
    have r2 : (W.putObj D (.deferred none)).heap[w.heap.size + 1 + 1 + 1]? = some (.cells #[.int .i64 1, .slice (some ⟨pg, 0, none⟩) 1 pc, .string ⟨#[]⟩, .bool false, .int .i64 0] 50) := (World.putObj_heap_other (by omega)).trans r1
    have rc2 := (cells_of r2).1
    have k2 : Below w.heap.size W (W.putObj D (.deferred none)) := ⟨rfl, rfl, rfl, by simp, fun k hk => World.putObj_heap_other (by omega)⟩
    refine ⟨fndX pg pc, by simp [results, Tryz.results46, go_sem, rc2], ⟨pg, pc, rfl, by omega, by simpa using h4, h5, ?_⟩, hW.trans k2⟩
    exact (World.cell?_of_block (a := ⟨pg, 0, none⟩) (World.putObj_heap_other (by show pg ≠ D; omega))).trans h6
end Go.Proofs.YtaboeocgoocgfaaGreatDoor
