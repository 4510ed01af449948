/-
  What a type without embedded ones has under a name.
-/
import Derived.Test.YtaboeocgoocgfaaGreatDoorS
import Derived.Test.YtaboeocgoocgfaaGreatDoorT
import Derived.Test.YtaboeocgoocgfaaGreatDoorNd
namespace Go.Proofs.YtaboeocgoocgfaaGreatDoor
open Go.RowKit Go.Shelf

attribute [local go_sem] Oper.semAt_some
set_option maxRecDepth 100000 in
set_option maxHeartbeats 8000000 in
theorem find_no (tb M g cap pb pe : Nat) (es : Array MapEntry) (clk : Nat) (nb cb : Nat) (p : Bool) (s : ByteArray) (w : World) (ht : TabAt w tb M g cap pb pe es clk) (hnb : w.heap[nb]? = some (.cells #[.string ⟨#[65]⟩] 9)) (hcb : w.heap[cb]? = some (.cells #[.pointer (some ⟨tb, 0, none⟩)] 23)) (hno : Instr.findNow .string (.string s) (#[⟨.string ⟨#[120]⟩, .agg #[.bool true, .int .i64 0, .bool false, .int .i64 0], 0⟩] : Array MapEntry).toList 0 = some none) :
    Calls Tryz.prog 46 #[.pointer (some ⟨tb, 0, none⟩), .func (.func 73) #[] #[.pointer (some ⟨nb, 0, none⟩), .pointer (some ⟨cb, 0, none⟩)], .bool p, .string s] w fun e w' => e = .returned (.agg #[.int .i64 0, .slice none 0 0, .string ⟨#[]⟩, .bool false, .int .i64 0]) ∧ Below w.heap.size w w' := by
  have hnl := heap_lt hnb
  have hcl := heap_lt hcb
  have htl := ht.lts
  refine (callsIn_wide (n := 20)).1 ?_
  refine callsIn_of_wp_marks Tryz.func46 rfl trivial ?_ rfl
  simp only [Tryz.ntmps46, List.size_toArray, List.length_cons, List.length_nil, Nat.reduceAdd, Nat.reduceSub, Array.replicate_succ, Array.replicate_zero, List.push_toArray, List.append_toArray, List.nil_append, List.cons_append]
  gi_wp2_with fail
  obtain ⟨W0, hW0⟩ : ∃ W, W = ((((w.alloc (.cells #[.pointer (some ⟨tb, 0, none⟩)] 23)).alloc (.cells #[.bool p] 4)).alloc (.cells #[.string s] 9)).alloc (.cells #[.int .i64 0, .slice none 0 0, .string ⟨#[]⟩, .bool false, .int .i64 0] 50)) := ⟨_, rfl⟩
  rw [← hW0]
  have b0 : Below w.heap.size w W0 := by rw [hW0]; repeat (first | exact Below.refl _ _ | refine Below.alloc ?_ (by simp <;> omega) _)
  have z0 : w.heap.size + 1 + 1 + 1 + 1 ≤ W0.heap.size := by rw [hW0]; simp
  have ot : W0.heap[w.heap.size]? = some (.cells #[.pointer (some ⟨tb, 0, none⟩)] 23) := by rw [hW0, heap_old _ _ _ (by simp <;> omega), heap_old _ _ _ (by simp <;> omega), heap_old _ _ _ (by simp <;> omega)]; exact heap_new _ _ _ (by simp)
  have op : W0.heap[w.heap.size + 1]? = some (.cells #[.bool p] 4) := by rw [hW0, heap_old _ _ _ (by simp <;> omega), heap_old _ _ _ (by simp <;> omega)]; exact heap_new _ _ _ (by simp)
  have ow : W0.heap[w.heap.size + 1 + 1]? = some (.cells #[.string s] 9) := by rw [hW0, heap_old _ _ _ (by simp <;> omega)]; exact heap_new _ _ _ (by simp)
  have or0 : W0.heap[w.heap.size + 1 + 1 + 1]? = some (.cells #[.int .i64 0, .slice none 0 0, .string ⟨#[]⟩, .bool false, .int .i64 0] 50) := by rw [hW0]; exact heap_new _ _ _ (by simp)
  clear hW0
  have t0 := ht.below b0
  refine wpIn_rangeFunc_once rfl (by decide) (gf := 73) (lb := #[.pointer (some ⟨nb, 0, none⟩), .pointer (some ⟨cb, 0, none⟩)]) rfl trivial (enters_of Tryz.func73 (by kernel_rfl) rfl) (levels1_once (20 - 1) (by decide) tb M g cap pb pe es clk nb cb W0 t0 ((b0.block _ hnl).trans hnb) ((b0.block _ hcl).trans hcb)) rfl True (fun _ => False) ?hix ?a1 ?assign ?body ?done ?stop
  case assign =>
    intro l W K hK
    gi_wp2
    exact hK
  case hix =>
    exact fun _ _ _ h _ _ _ => h
  case body =>
    intro l V hV hv zv
    have tV := t0.below hV
    have vt : V.heap[w.heap.size]? = _ := (hV.block _ (by omega)).trans ot
    have vp : V.heap[w.heap.size + 1]? = _ := (hV.block _ (by omega)).trans op
    have vw : V.heap[w.heap.size + 1 + 1]? = _ := (hV.block _ (by omega)).trans ow
    have vr : V.heap[w.heap.size + 1 + 1 + 1]? = some (.cells #[.int .i64 0, .slice none 0 0, .string ⟨#[]⟩, .bool false, .int .i64 0] 50) := (hV.block _ (by omega)).trans or0
    have vc := (cells_of hv).1
    gi_wp2_with fail
    refine wpIn_loop_rounds 2 ?_
    rw [roundsIn_succ]
    gi_wp2_with fail
    obtain ⟨U0, hU0⟩ : ∃ W, W = V.alloc (.cells #[.string ⟨#[65]⟩, .slice none 0 0, .bool false, .bool false] 161) := ⟨_, rfl⟩
    rw [← hU0]
    have c0 : Below V.heap.size V U0 := by rw [hU0]; exact below1 _ _
    have y0 : V.heap.size < U0.heap.size := by rw [hU0]; simp
    have ab : U0.heap[V.heap.size]? = some (.cells #[.string ⟨#[65]⟩, .slice none 0 0, .bool false, .bool false] 161) := by rw [hU0]; exact heap_new _ _ _ rfl
    clear hU0
    have aT := tV.below c0
    have at_ : U0.heap[w.heap.size]? = _ := (c0.block _ (by omega)).trans vt
    have aw : U0.heap[w.heap.size + 1 + 1]? = _ := (c0.block _ (by omega)).trans vw
    have hS0 : (∀ j, U0.cell? ⟨w.heap.size, j, none⟩ = (#[.pointer (some ⟨tb, 0, none⟩)] : Array Value)[j]?) ∧ (∀ j, U0.cell? ⟨w.heap.size + 1 + 1, j, none⟩ = (#[.string s] : Array Value)[j]?) ∧ (∀ j, U0.cell? ⟨V.heap.size, j, none⟩ = (#[.string ⟨#[65]⟩, .slice none 0 0, .bool false, .bool false] : Array Value)[j]?) ∧ (∀ j, U0.cell? ⟨tb, j, none⟩ = (#[.map (some M)] : Array Value)[j]?) ∧ U0.heap[M]? = some (.map es clk) ∧ U0.heap[pb]? = some (.map #[⟨.string ⟨#[120]⟩, .agg #[.bool true, .int .i64 0, .bool false, .int .i64 0], 0⟩] 1) := ⟨(cells_of at_).1, (cells_of aw).1, (cells_of ab).1, (cells_of aT.tab).1, aT.map, aT.pa⟩
    refine wpIn_region_round (S := fun W => (∀ j, W.cell? ⟨w.heap.size, j, none⟩ = (#[.pointer (some ⟨tb, 0, none⟩)] : Array Value)[j]?) ∧ (∀ j, W.cell? ⟨w.heap.size + 1 + 1, j, none⟩ = (#[.string s] : Array Value)[j]?) ∧ (∀ j, W.cell? ⟨V.heap.size, j, none⟩ = (#[.string ⟨#[65]⟩, .slice none 0 0, .bool false, .bool false] : Array Value)[j]?) ∧ (∀ j, W.cell? ⟨tb, j, none⟩ = (#[.map (some M)] : Array Value)[j]?) ∧ W.heap[M]? = some (.map es clk) ∧ W.heap[pb]? = some (.map #[⟨.string ⟨#[120]⟩, .agg #[.bool true, .int .i64 0, .bool false, .int .i64 0], 0⟩] 1)) (by kernel_rfl) (by kernel_rfl) (fun q => by obtain ⟨_, _, h⟩ := q; exact h) ?_
    obtain ⟨U1, hU1⟩ : ∃ W4, W4 = (U0).drew := ⟨_, rfl⟩
    have e4 : ({ U0 with drawn := (U0).drawn + 1 } : World) = U1 := hU1.symm
    rw [e4]
    have hB4 : Below (U0).heap.size (U0) U1 := by rw [hU1]; exact (Below.refl _ _).drew
    have hS : (∀ j, U1.cell? ⟨w.heap.size, j, none⟩ = (#[.pointer (some ⟨tb, 0, none⟩)] : Array Value)[j]?) ∧ (∀ j, U1.cell? ⟨w.heap.size + 1 + 1, j, none⟩ = (#[.string s] : Array Value)[j]?) ∧ (∀ j, U1.cell? ⟨V.heap.size, j, none⟩ = (#[.string ⟨#[65]⟩, .slice none 0 0, .bool false, .bool false] : Array Value)[j]?) ∧ (∀ j, U1.cell? ⟨tb, j, none⟩ = (#[.map (some M)] : Array Value)[j]?) ∧ U1.heap[M]? = some (.map es clk) ∧ U1.heap[pb]? = some (.map #[⟨.string ⟨#[120]⟩, .agg #[.bool true, .int .i64 0, .bool false, .int .i64 0], 0⟩] 1) := ⟨fun j => (hB4.cell (p := ⟨w.heap.size, j, none⟩) (by show w.heap.size < _; omega)).trans (hS0.1 j), fun j => (hB4.cell (p := ⟨w.heap.size + 1 + 1, j, none⟩) (by show w.heap.size + 1 + 1 < _; omega)).trans (hS0.2.1 j), fun j => (hB4.cell (p := ⟨V.heap.size, j, none⟩) (by show V.heap.size < _; omega)).trans (hS0.2.2.1 j), fun j => (hB4.cell (p := ⟨tb, j, none⟩) (heap_lt aT.tab)).trans (hS0.2.2.2.1 j), (hB4.block _ (heap_lt aT.map)).trans aT.map, (hB4.block _ (heap_lt aT.pa)).trans aT.pa⟩
    clear e4 hU1
    refine wpAnyH_take (i := 0) (v := .pointer (some ⟨tb, 0, none⟩)) rfl (by kernel_rfl) (by kernel_rfl) (by kernel_rfl) (fun _ _ _ h => h) (Or.inl ⟨by rfl, ?r⟩) hS ?_
    case r => intro W hW; simp [go_sem, execOp, Act.eval, hW.1]
    simp only [List.getElem_toArray, List.getElem_cons_zero, Act.put, List.setIfInBounds_toArray, List.set_cons_succ, List.set_cons_zero]
    refine wpAnyH_take (i := 1) (v := .pointer (some ⟨tb, 0, none⟩)) rfl (by kernel_rfl) (by kernel_rfl) (by kernel_rfl) (fun _ _ _ h => h) (Or.inl ⟨by rfl, ?r⟩) hS ?_
    case r => intro W hW; simp [go_sem, execOp, Act.eval]
    simp only [List.getElem_toArray, List.getElem_cons_zero, List.getElem_cons_succ, Act.put, List.setIfInBounds_toArray, List.set_cons_succ, List.set_cons_zero]
    refine wpAnyH_take (i := 2) (v := .pointer (some ⟨tb, 0, none⟩)) rfl (by kernel_rfl) (by kernel_rfl) (by kernel_rfl) (fun _ _ _ h => h) (Or.inl ⟨by rfl, ?r⟩) hS ?_
    case r => intro W hW; simp [go_sem, execOp, Act.eval]
    simp only [List.getElem_toArray, List.getElem_cons_zero, List.getElem_cons_succ, Act.put, List.setIfInBounds_toArray, List.set_cons_succ, List.set_cons_zero]
    refine wpAnyH_take (i := 3) (v := .map (some M)) rfl (by kernel_rfl) (by kernel_rfl) (by kernel_rfl) (fun _ _ _ h => h) (Or.inl ⟨by rfl, ?r⟩) hS ?_
    case r => intro W hW; simp [go_sem, execOp, Act.eval, hW.2.2.2.1]
    simp only [List.getElem_toArray, List.getElem_cons_zero, List.getElem_cons_succ, Act.put, List.setIfInBounds_toArray, List.set_cons_succ, List.set_cons_zero]
    refine wpAnyH_take (i := 4) (v := .pointer (some ⟨V.heap.size, 0, none⟩)) rfl (by kernel_rfl) (by kernel_rfl) (by kernel_rfl) (fun _ _ _ h => h) (Or.inl ⟨by rfl, ?r⟩) hS ?_
    case r => intro W hW; simp [go_sem, execOp, Act.eval]
    simp only [List.getElem_toArray, List.getElem_cons_zero, List.getElem_cons_succ, Act.put, List.setIfInBounds_toArray, List.set_cons_succ, List.set_cons_zero]
    refine wpAnyH_take (i := 5) (v := .string ⟨#[65]⟩) rfl (by kernel_rfl) (by kernel_rfl) (by kernel_rfl) (fun _ _ _ h => h) (Or.inl ⟨by rfl, ?r⟩) hS ?_
    case r => intro W hW; simp [go_sem, execOp, Act.eval, hW.2.2.1]
    simp only [List.getElem_toArray, List.getElem_cons_zero, List.getElem_cons_succ, Act.put, List.setIfInBounds_toArray, List.set_cons_succ, List.set_cons_zero]
    refine wpAnyH_take (i := 6) (v := .agg #[.int .i64 8, .bool false, .slice (some ⟨g, 0, none⟩) 1 cap, .map (some pb)]) rfl (by kernel_rfl) (by kernel_rfl) (by kernel_rfl) (fun _ _ _ h => h) (Or.inl ⟨by rfl, ?r⟩) hS ?_
    case r => intro W hW; simp [go_sem, execOp, Act.eval, look_yes (P := Tryz.prog) Tryz.underlying57 Tryz.underlying9 hW.2.2.2.2.1 ht.fA false]
    simp only [List.getElem_toArray, List.getElem_cons_zero, List.getElem_cons_succ, Act.put, List.setIfInBounds_toArray, List.set_cons_succ, List.set_cons_zero]
    refine wpAnyH_take (i := 7) (v := .map (some pb)) rfl (by kernel_rfl) (by kernel_rfl) (by kernel_rfl) (fun _ _ _ h => h) (Or.inl ⟨by rfl, ?r⟩) hS ?_
    case r => intro W hW; simp [go_sem, execOp, Act.eval, fld3]
    simp only [List.getElem_toArray, List.getElem_cons_zero, List.getElem_cons_succ, Act.put, List.setIfInBounds_toArray, List.set_cons_succ, List.set_cons_zero]
    refine wpAnyH_take (i := 8) (v := .string s) rfl (by kernel_rfl) (by kernel_rfl) (by kernel_rfl) (fun _ _ _ h => h) (Or.inl ⟨by rfl, ?r⟩) hS ?_
    case r => intro W hW; simp [go_sem, execOp, Act.eval, hW.2.1]
    simp only [List.getElem_toArray, List.getElem_cons_zero, List.getElem_cons_succ, Act.put, List.setIfInBounds_toArray, List.set_cons_succ, List.set_cons_zero]
    refine wpAnyH_take (i := 9) (v := .tuple #[.agg #[.bool false, .int .i64 0, .bool false, .int .i64 0], .bool false]) rfl (by kernel_rfl) (by kernel_rfl) (by kernel_rfl) (fun _ _ _ h => h) (Or.inl ⟨by rfl, ?r⟩) hS ?_
    case r => intro W hW; simp [go_sem, execOp, Act.eval, look_no (P := Tryz.prog) Tryz.underlying104 Tryz.underlying9 hW.2.2.2.2.2 hno (Tryz.zeroValue103 _) true]
    simp only [List.getElem_toArray, List.getElem_cons_zero, List.getElem_cons_succ, Act.put, List.setIfInBounds_toArray, List.set_cons_succ, List.set_cons_zero]
    refine wpAnyH_take (i := 10) (v := .tuple #[.agg #[.bool false, .int .i64 0, .bool false, .int .i64 0], .bool false]) rfl (by kernel_rfl) (by kernel_rfl) (by kernel_rfl) (fun _ _ _ h => h) (Or.inl ⟨by rfl, ?r⟩) hS ?_
    case r => intro W hW; simp [go_sem, execOp, Act.eval]
    simp only [List.getElem_toArray, List.getElem_cons_zero, List.getElem_cons_succ, Act.put, List.setIfInBounds_toArray, List.set_cons_succ, List.set_cons_zero]
    refine wpAnyH_take (i := 11) (v := .agg #[.bool false, .int .i64 0, .bool false, .int .i64 0]) rfl (by kernel_rfl) (by kernel_rfl) (by kernel_rfl) (fun _ _ _ h => h) (Or.inl ⟨by rfl, ?r⟩) hS ?_
    case r => intro W hW; simp [go_sem, execOp, Act.eval]
    simp only [List.getElem_toArray, List.getElem_cons_zero, List.getElem_cons_succ, Act.put, List.setIfInBounds_toArray, List.set_cons_succ, List.set_cons_zero]
    refine wpAnyH_take (i := 12) (v := .bool false) rfl (by kernel_rfl) (by kernel_rfl) (by kernel_rfl) (fun _ _ _ h => h) (Or.inl ⟨by rfl, ?r⟩) hS ?_
    case r => intro W hW; simp [go_sem, execOp, Act.eval]
    simp only [List.getElem_toArray, List.getElem_cons_zero, List.getElem_cons_succ, Act.put, List.setIfInBounds_toArray, List.set_cons_succ, List.set_cons_zero]
    have c1 : Below V.heap.size V U1 := c0.trans (hB4.mono (by omega))
    have y1 : V.heap.size < U1.heap.size := Nat.lt_of_lt_of_le y0 hB4.size
    clear hB4 hS0 at_ aw ab aT c0 y0
    refine wpAnyH_all (rs := [13]) (by kernel_rfl) (by simp) (fun i2 hi2 => ?_)
    obtain rfl : i2 = 13 := by simpa using hi2
    clear hi2
    refine wpOp_step rfl (fun K hK => ite_yes rfl ?_)
    simp only [List.getElem_toArray, List.getElem_cons_zero, List.getElem_cons_succ]
    go_simp
    obtain ⟨U2, hU2⟩ : ∃ W, W = U1.alloc (.cells #[.bool false, .int .i64 0, .bool false, .int .i64 0] 103) := ⟨_, rfl⟩
    rw [← hU2]
    have c2 : Below U1.heap.size U1 U2 := by rw [hU2]; exact below1 _ _
    have y2 : U1.heap.size < U2.heap.size := by rw [hU2]; simp
    have n2 : U2.heap[U1.heap.size]? = some (.cells #[.bool false, .int .i64 0, .bool false, .int .i64 0] 103) := by rw [hU2]; exact heap_new _ _ _ rfl
    clear hU2
    have lT := t0.lts
    have K2 : ∀ k j, k < U1.heap.size → U2.cell? ⟨k, j, none⟩ = U1.cell? ⟨k, j, none⟩ := fun k j h => c2.cell (p := ⟨k, j, none⟩) h
    have hl1 : w.heap.size < U1.heap.size ∧ w.heap.size + 1 + 1 < U1.heap.size ∧ tb < U1.heap.size ∧ M < U1.heap.size ∧ pb < U1.heap.size := by have := hV.size; omega
    have hSU2 : (∀ j, U2.cell? ⟨w.heap.size, j, none⟩ = (#[.pointer (some ⟨tb, 0, none⟩)] : Array Value)[j]?) ∧ (∀ j, U2.cell? ⟨w.heap.size + 1 + 1, j, none⟩ = (#[.string s] : Array Value)[j]?) ∧ (∀ j, U2.cell? ⟨V.heap.size, j, none⟩ = (#[.string ⟨#[65]⟩, .slice none 0 0, .bool false, .bool false] : Array Value)[j]?) ∧ (∀ j, U2.cell? ⟨tb, j, none⟩ = (#[.map (some M)] : Array Value)[j]?) ∧ U2.heap[M]? = some (.map es clk) ∧ U2.heap[pb]? = some (.map #[⟨.string ⟨#[120]⟩, .agg #[.bool true, .int .i64 0, .bool false, .int .i64 0], 0⟩] 1) := ⟨fun j => (K2 _ j hl1.1).trans (hS.1 j), fun j => (K2 _ j hl1.2.1).trans (hS.2.1 j), fun j => (K2 _ j y1).trans (hS.2.2.1 j), fun j => (K2 _ j hl1.2.2.1).trans (hS.2.2.2.1 j), (c2.block _ hl1.2.2.2.1).trans hS.2.2.2.2.1, (c2.block _ hl1.2.2.2.2).trans hS.2.2.2.2.2⟩
    refine hK _ _ ⟨hSU2, ?_⟩
    clear hK K hS
    have hS := hSU2
    clear hSU2
    try simp only [Act.put, List.setIfInBounds_toArray, List.set_cons_succ, List.set_cons_zero]
    obtain ⟨nc2, nf2⟩ := cells_of n2
    refine wpAnyH_all (rs := [14]) (by kernel_rfl) (by simp) (fun i2 hi2 => ?_)
    obtain rfl : i2 = 14 := by simpa using hi2
    clear hi2
    refine wpOp_step rfl (fun K hK => ite_yes rfl ?_)
    simp only [List.getElem_toArray, List.getElem_cons_zero, List.getElem_cons_succ]
    go_simp
    obtain ⟨U3, hU3⟩ : ∃ W, W = (((U2.setCell ⟨U1.heap.size, 0, none⟩ (.bool false)).setCell ⟨U1.heap.size, 1, none⟩ (.int .i64 0)).setCell ⟨U1.heap.size, 2, none⟩ (.bool false)).setCell ⟨U1.heap.size, 3, none⟩ (.int .i64 0) := ⟨_, rfl⟩
    rw [← hU3]
    have k3 : Kp (· = U1.heap.size) U2 U3 := by rw [hU3]; exact kp_set4 _ _ _ _ _ _
    clear hU3
    have y3 := k3.size
    have c3 : Below V.heap.size V U3 := c1.trans ((c2.mono (by omega)).trans (k3.below (by omega) fun i hi h => by omega))
    have K3 : ∀ k j, k < U1.heap.size → U3.cell? ⟨k, j, none⟩ = U2.cell? ⟨k, j, none⟩ := fun k j h => k3.cell (by omega) (by omega)
    have hSU3 : (∀ j, U3.cell? ⟨w.heap.size, j, none⟩ = (#[.pointer (some ⟨tb, 0, none⟩)] : Array Value)[j]?) ∧ (∀ j, U3.cell? ⟨w.heap.size + 1 + 1, j, none⟩ = (#[.string s] : Array Value)[j]?) ∧ (∀ j, U3.cell? ⟨V.heap.size, j, none⟩ = (#[.string ⟨#[65]⟩, .slice none 0 0, .bool false, .bool false] : Array Value)[j]?) ∧ (∀ j, U3.cell? ⟨tb, j, none⟩ = (#[.map (some M)] : Array Value)[j]?) ∧ U3.heap[M]? = some (.map es clk) ∧ U3.heap[pb]? = some (.map #[⟨.string ⟨#[120]⟩, .agg #[.bool true, .int .i64 0, .bool false, .int .i64 0], 0⟩] 1) := ⟨fun j => (K3 _ j hl1.1).trans (hS.1 j), fun j => (K3 _ j hl1.2.1).trans (hS.2.1 j), fun j => (K3 _ j y1).trans (hS.2.2.1 j), fun j => (K3 _ j hl1.2.2.1).trans (hS.2.2.2.1 j), (k3.block _ (by omega) (by omega)).trans hS.2.2.2.2.1, (k3.block _ (by omega) (by omega)).trans hS.2.2.2.2.2⟩
    refine hK _ _ ⟨hSU3, ?_⟩
    clear hK K hS
    have hS := hSU3
    clear hSU3
    try simp only [Act.put, List.setIfInBounds_toArray, List.set_cons_succ, List.set_cons_zero]
    refine wpAnyH_take (i := 15) (v := .bool false) rfl (by kernel_rfl) (by kernel_rfl) (by kernel_rfl) (fun _ _ _ h => h) (Or.inl ⟨by rfl, ?r⟩) hS ?_
    case r => intro W hW; simp [go_sem, execOp, Act.eval]
    simp only [List.getElem_toArray, List.getElem_cons_zero, List.getElem_cons_succ, Act.put, List.setIfInBounds_toArray, List.set_cons_succ, List.set_cons_zero]
    refine wpAnyH_done (by kernel_rfl) ?_ _
    refine NoPanic.normal ?_
    try simp only [Act.put]
    clear K2 K3 nc2 nf2 n2
    obtain ⟨hS1, hS2, hS3, -, -, -⟩ := hS
    have hVU : V.heap.size < U3.heap.size := by omega
    gi_wp2_with fail
    rw [roundsIn_succ]
    gi_wp2_with fail
    exact ⟨trivial, c3⟩
  case done =>
    intro D W hD _ hW hdf
    have wr := (cells_of ((hW.block _ (by omega)).trans or0))
    obtain ⟨wc, wf⟩ := wr
    gi_wp2_with fail
    obtain ⟨X1, hX1⟩ : ∃ X, X = ((((W.setCell ⟨w.heap.size + 1 + 1 + 1, 0, none⟩ (.int .i64 0)).setCell ⟨w.heap.size + 1 + 1 + 1, 1, none⟩ (.slice none 0 0)).setCell ⟨w.heap.size + 1 + 1 + 1, 2, none⟩ (.string ⟨#[]⟩)).setCell ⟨w.heap.size + 1 + 1 + 1, 3, none⟩ (.bool false)).setCell ⟨w.heap.size + 1 + 1 + 1, 4, none⟩ (.int .i64 0) := ⟨_, rfl⟩
    rw [← hX1]
    have k1 : Kp (· = w.heap.size + 1 + 1 + 1) W X1 := by rw [hX1]; exact kp_set5 _ _ _ _ _ _ _
    have r1 : X1.heap[w.heap.size + 1 + 1 + 1]? = some (.cells #[.int .i64 0, .slice none 0 0, .string ⟨#[]⟩, .bool false, .int .i64 0] 50) := by rw [hX1]; exact heap_set (heap_set (heap_set (heap_set (heap_set ((hW.block _ (by omega)).trans or0) 0 _) 1 _) 2 _) 3 _) 4 _
    clear hX1
    have hd1 : X1.heap[D]? = some (.deferred (some [])) := (k1.block _ (heap_lt hdf) (by omega)).trans hdf
    refine ⟨by simp, .inl ⟨_, _, rfl, run_takeDeferred hd1, ?_⟩⟩
    have r2 : (X1.putObj D (.deferred none)).heap[w.heap.size + 1 + 1 + 1]? = some (.cells #[.int .i64 0, .slice none 0 0, .string ⟨#[]⟩, .bool false, .int .i64 0] 50) := (World.putObj_heap_other (by omega)).trans r1
    have rc2 := (cells_of r2).1
    refine ⟨.agg #[.int .i64 0, .slice none 0 0, .string ⟨#[]⟩, .bool false, .int .i64 0], by simp [results, Tryz.results46, go_sem, rc2], rfl, ?_⟩
    have k2 : Below w.heap.size X1 (X1.putObj D (.deferred none)) := ⟨rfl, rfl, rfl, by simp, fun k hk => World.putObj_heap_other (by omega)⟩
    exact (b0.trans (hW.mono (by omega))).trans ((k1.below (by have := hW.size; omega) fun i hi h => by omega).trans k2)
  case stop => exact fun _ _ _ h _ => h.elim
end Go.Proofs.YtaboeocgoocgfaaGreatDoor
