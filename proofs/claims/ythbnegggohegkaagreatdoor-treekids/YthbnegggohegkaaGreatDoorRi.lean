/-
  The walk of tree.Right at names, sums and products, and at the int 01.
-/
import Derived.Test.YthbnegggohegkaaGreatDoorCk
import Derived.Deep.RegionHeld3
namespace Go.Proofs.YthbnegggohegkaaGreatDoor
open Go.RowKit

set_option maxHeartbeats 400000 in
theorem ownRole_any (k : Int) (h40 : (k == 40) = false) (h27 : (k == 27) = false) (s : ByteArray) (n a : Int) (p : Option Addr) (m c : Nat) (w : World) :
    Calls Tryz.prog 32 #[.agg #[.int .i64 k, .string s, .int .i64 n, .int .i64 a, .slice p m c]] w fun e w' => e = .returned (.int .i64 0) ∧ Below w.heap.size w w' := by
  go_enter Tryz.func32, Tryz.ntmps32
  go_wp2_with fail
  go_ret
  exact ⟨rfl, below1 _ _⟩

theorem Sim.kind40 {t : MT} (h : Sim t) : (t.kind == 40) = false := by cases h <;> rfl

set_option maxRecDepth 100000 in
set_option maxHeartbeats 2000000 in
theorem right_sim {gw ow gs os : Nat} (t : MT) (hS : Sim t) (hsz : t.size ≤ 60) (w : World) (ht : TabsAt gw ow gs os w) (hin : t.In w.heap.size w) :
    Calls Tryz.prog 13 #[nodeV t] w fun e w' => e = .returned .nilIface ∧ Below w.heap.size w w' := by
  have h6 := ht.two
  have hgw := ht.gwLt
  have hgs := ht.gsLt
  have hB2 := below2 w (nodeO t) (.cells #[.int .i64 0] 63)
  have K2 := (BoxAt.new w t).below (Nat.lt_succ_self _) ((Below.refl _ _).alloc (by simp) (.cells #[.int .i64 0] 63))
  have hcc : ((w.alloc (nodeO t)).alloc (.cells #[.int .i64 0] 63)).cell? ⟨w.heap.size + 1, 0, none⟩ = some (.int .i64 0) ∧ ((w.alloc (nodeO t)).alloc (.cells #[.int .i64 0] 63)).frozen? ⟨w.heap.size + 1, 0, none⟩ = false := by simp
  have HO : Hid (∀ W, Calls Tryz.prog 32 #[nodeV t] W fun e w' => e = .returned (.int .i64 0) ∧ Below W.heap.size W w') := fun W => ownRole_any t.kind hS.kind40 hS.kind t.text t.num t.at_ t.ptr t.kids.length t.cap W
  have HC : Hid (∀ W, Below (w.heap.size + 2) ((w.alloc (nodeO t)).alloc (.cells #[.int .i64 0] 63)) W → Calls Tryz.prog 31 #[.pointer (some ⟨w.heap.size + 1, 0, none⟩), nodeV t, .int .i64 0, .int .i64 1] W fun e w' => e = .returned .nilIface ∧ Below (w.heap.size + 1) ((w.alloc (nodeO t)).alloc (.cells #[.int .i64 0] 63)) w') := fun W hW =>
    (check_sim t.size (w.heap.size + 1) (by omega) (by omega) (by omega) t 0 1 0 W (Nat.le_refl _) hS (.inl rfl) (ht.below (Nat.le_refl _) (hB2.trans (hW.mono (by omega)))) (MT.In.mono (by omega) t (MT.In.below (hB2.trans (hW.mono (by omega))) t hin)) (by have := hW.size; simp at this; omega)
      ((hW.cell (p := ⟨w.heap.size + 1, 0, none⟩) (by simp)).trans hcc.1) ((hW.frozen (p := ⟨w.heap.size + 1, 0, none⟩) (by simp)).trans hcc.2) (by omega) (by omega) (by omega) (by omega)).mono
      fun _ _ ⟨h1, _, _, h4⟩ => ⟨h1, (hW.mono (by omega)).trans h4.below⟩
  have HK : Hid (∀ W, Below (w.heap.size + 1) ((w.alloc (nodeO t)).alloc (.cells #[.int .i64 0] 63)) W → (W.cell? ⟨w.heap.size, 0, none⟩ = some (.int .i64 t.kind) ∧ W.cell? ⟨w.heap.size, 1, none⟩ = some (.string t.text) ∧ W.cell? ⟨w.heap.size, 2, none⟩ = some (.int .i64 t.num) ∧ W.cell? ⟨w.heap.size, 3, none⟩ = some (.int .i64 t.at_) ∧ W.cell? ⟨w.heap.size, 4, none⟩ = some (.slice t.ptr t.kids.length t.cap))) := fun W hW => by
    obtain ⟨k0, k1, k2, k3, k4⟩ := K2.below (Nat.lt_succ_self _) hW
    exact ⟨k0, k1, k2, k3, k4⟩
  clear hcc hin K2
  go_enter Tryz.func13, Tryz.ntmps13
  go_wp2_with fail
  go_region_held3 (fun W => W.cell? ⟨w.heap.size, 0, none⟩ = some (.int .i64 t.kind) ∧ W.cell? ⟨w.heap.size, 1, none⟩ = some (.string t.text) ∧ W.cell? ⟨w.heap.size, 2, none⟩ = some (.int .i64 t.num) ∧ W.cell? ⟨w.heap.size, 3, none⟩ = some (.int .i64 t.at_) ∧ W.cell? ⟨w.heap.size, 4, none⟩ = some (.slice t.ptr t.kids.length t.cap))
    (first | exact HK.out _ hbF | exact HK.out _ (hbA.mono (by omega)) | (simp; done))
    (first
      | (go_at_call 32; refine (HO.out _).mono ?_; rintro e w1 ⟨rfl, hb0⟩; have hbA : Below (w.heap.size + 2) ((w.alloc (nodeO t)).alloc (.cells #[.int .i64 0] 63)) w1 := ((Below.refl _ _).drew).trans (hb0.mono (by simp)))
      | (go_at_call 31; refine (HC.out _ hbA).mono ?_; rintro e w2 ⟨rfl, hbF⟩))
  go_wp2_with fail
  go_ret
  exact ⟨rfl, hB2.trans (hbF.mono (by omega))⟩

theorem heap_set {w : World} {g : Nat} {cur : Array Value} {e : TypeId} {fr : Nat × Nat} (hg : w.heap[g]? = some (.cells cur e fr)) (j : Nat) (v : Value) : (w.setCell ⟨g, j, none⟩ v).heap[g]? = some (.cells (cur.setIfInBounds j v) e fr) := by
  have hlt := (Array.getElem?_eq_some_iff.1 hg).1
  show (w.heap.modify g _)[g]? = _
  rw [Array.getElem?_eq_getElem (by rw [Array.size_modify]; exact hlt), Array.getElem_modify_self, (Array.getElem?_eq_some_iff.1 hg).2]
  rfl

set_option maxRecDepth 100000 in
set_option maxHeartbeats 1000000 in
theorem treeWrong_any (code k : Int) (s : ByteArray) (hs : s.size ≤ 40) (n a : Int) (p : Option Addr) (m c : Nat) (w : World) :
    Calls Tryz.prog 51 #[.int .i64 code, .agg #[.int .i64 k, .string s, .int .i64 n, .int .i64 a, .slice p m c]] w fun e w' => ∃ B, e = .returned (.iface 67 (.pointer (some ⟨B, 0, none⟩))) ∧ w.heap.size ≤ B ∧ w'.heap[B]? = some (.cells #[.int .i64 code, .int .i64 a, .string s] 28 (0, 0)) ∧ Below w.heap.size w w' := by
  have hB2 := below2 w (.cells #[.int .i64 k, .string s, .int .i64 n, .int .i64 a, .slice p m c] 24) (.cells #[.int .i64 code, .int .i64 a, .string ⟨#[]⟩] 28)
  go_enter Tryz.func51, Tryz.ntmps51
  go_wp2_with fail
  refine (clone_any s _ (by omega)).mono ?_
  rintro e w1 ⟨rfl, hb1⟩
  have hz1 := hb1.size
  simp only [World.size_alloc] at hz1
  have hrow : w1.heap[w.heap.size + 1]? = some (.cells #[.int .i64 code, .int .i64 a, .string ⟨#[]⟩] 28 (0, 0)) := by
    rw [hb1.block _ (by simp)]
    have := heap_alloc_new (w.alloc (.cells #[.int .i64 k, .string s, .int .i64 n, .int .i64 a, .slice p m c] 24)) (.cells #[.int .i64 code, .int .i64 a, .string ⟨#[]⟩] 28)
    rwa [World.size_alloc] at this
  have hc2 : w1.cell? ⟨w.heap.size + 1, 2, none⟩ = some (.string ⟨#[]⟩) := by simp [World.cell?, hrow]
  have hf2 : w1.frozen? ⟨w.heap.size + 1, 2, none⟩ = false := by simp [World.frozen?, hrow]
  have HR : Hid (w1.heap[w.heap.size + 1]? = some (.cells #[.int .i64 code, .int .i64 a, .string ⟨#[]⟩] 28 (0, 0))) := hrow
  clear hrow
  go_wp2_with fail
  go_ret
  refine ⟨w.heap.size + 1, rfl, by omega, ?_, (hB2.trans (hb1.mono (by simp; omega))).setCell (p := ⟨w.heap.size + 1, 2, none⟩) (by show w.heap.size ≤ w.heap.size + 1; omega) _⟩
  exact heap_set HR.out 2 (.string s)

set_option maxRecDepth 100000 in
set_option maxHeartbeats 2000000 in
theorem check_int {gw ow gs os : Nat} (cb : Nat) (a : Int) (p : Option Addr) (c : Nat) (w : World) (ht : TabsAt gw ow gs os w)
    (hcb : cb < w.heap.size) (hc : w.cell? ⟨cb, 0, none⟩ = some (.int .i64 0)) :
    Calls Tryz.prog 31 #[.pointer (some ⟨cb, 0, none⟩), .agg (leafN 35 ⟨#[48, 49]⟩ a p c), .int .i64 0, .int .i64 1] w fun e w' => ∃ B, e = .returned (.iface 67 (.pointer (some ⟨B, 0, none⟩))) ∧ w.heap.size ≤ B ∧ w'.heap[B]? = some (.cells #[.int .i64 20, .int .i64 a, .string ⟨#[48, 49]⟩] 28 (0, 0)) ∧ Below w.heap.size w w' := by
  have N0 := CellsOf.new w (leafN 35 ⟨#[48, 49]⟩ a p c) 24
  have hb0 := below1 w (.cells (leafN 35 ⟨#[48, 49]⟩ a p c) 24)
  go_enter Tryz.func31, Tryz.ntmps31
  go_wp2_with fail
  refine (shape_leaf 35 (.inr rfl) ⟨#[48, 49]⟩ a 0 p c _).mono ?_
  rintro e w1 ⟨rfl, hb1⟩
  have hz1 := hb1.size
  simp only [World.size_alloc] at hz1
  have hB1 := hb0.trans (hb1.mono (by simp))
  have N1 := N0.below (by simp) hb1
  have N2 := N1.below (by omega : w.heap.size < w1.heap.size) (below1 w1 (.cells leafR 94))
  have hB2 := hB1.trans ((below1 w1 (.cells leafR 94)).mono (by omega))
  have n0 := N2 0 _ rfl
  have n1 := N2 1 _ rfl
  have n2 := N2 2 _ rfl
  have n3 := N2 3 _ rfl
  have n4 := N2 4 _ rfl
  go_wp2_with fail
  refine (fault_int cb 0 1 a p c _ (ht.below (Nat.le_refl _) hB2) (by simp; omega) ((hB2.cell (p := ⟨cb, 0, none⟩) hcb).trans hc) (by omega) (by omega)).mono ?_
  rintro e w2 ⟨rfl, hb3⟩
  have hz3 := hb3.size
  simp only [World.size_alloc] at hz3
  have hB3 := hB2.trans (hb3.mono (by simp; omega))
  have N3 := N2.below (by simp; omega) hb3
  have q0 := N3 0 _ rfl
  have q1 := N3 1 _ rfl
  have q2 := N3 2 _ rfl
  have q3 := N3 3 _ rfl
  have q4 := N3 4 _ rfl
  clear n0 n1 n2 n3 n4
  go_wp2_with fail
  refine (treeWrong_any 20 35 ⟨#[48, 49]⟩ (by decide) 0 a p 0 c _).mono ?_
  rintro e w4 ⟨B, rfl, hB, hrow, hb4⟩
  go_wp2_with fail
  go_ret
  exact ⟨B, rfl, by have := hB3.size; omega, hrow, hB3.trans (hb4.mono hB3.size)⟩

set_option maxRecDepth 100000 in
set_option maxHeartbeats 2000000 in
theorem right_int {gw ow gs os : Nat} (a : Int) (w : World) (ht : TabsAt gw ow gs os w) :
    Calls Tryz.prog 13 #[.agg (leafN 35 ⟨#[48, 49]⟩ a none 0)] w fun e w' => ∃ B, e = .returned (.iface 67 (.pointer (some ⟨B, 0, none⟩))) ∧ w.heap.size ≤ B ∧ w'.heap[B]? = some (.cells #[.int .i64 20, .int .i64 a, .string ⟨#[48, 49]⟩] 28 (0, 0)) ∧ Below w.heap.size w w' := by
  have hB2 := below2 w (.cells (leafN 35 ⟨#[48, 49]⟩ a none 0) 24) (.cells #[.int .i64 0] 63)
  have K2 := (CellsOf.new w (leafN 35 ⟨#[48, 49]⟩ a none 0) 24).below (Nat.lt_succ_self _) ((Below.refl _ _).alloc (by simp) (.cells #[.int .i64 0] 63))
  have hcc : ((w.alloc (.cells (leafN 35 ⟨#[48, 49]⟩ a none 0) 24)).alloc (.cells #[.int .i64 0] 63)).cell? ⟨w.heap.size + 1, 0, none⟩ = some (.int .i64 0) := by simp
  have HO : Hid (∀ W, Calls Tryz.prog 32 #[.agg (leafN 35 ⟨#[48, 49]⟩ a none 0)] W fun e w' => e = .returned (.int .i64 0) ∧ Below W.heap.size W w') := fun W => ownRole_any 35 rfl rfl ⟨#[48, 49]⟩ 0 a none 0 0 W
  have HC : Hid (∀ W, Below (w.heap.size + 2) ((w.alloc (.cells (leafN 35 ⟨#[48, 49]⟩ a none 0) 24)).alloc (.cells #[.int .i64 0] 63)) W → Calls Tryz.prog 31 #[.pointer (some ⟨w.heap.size + 1, 0, none⟩), .agg (leafN 35 ⟨#[48, 49]⟩ a none 0), .int .i64 0, .int .i64 1] W fun e w' => ∃ B, e = .returned (.iface 67 (.pointer (some ⟨B, 0, none⟩))) ∧ w.heap.size ≤ B ∧ w'.heap[B]? = some (.cells #[.int .i64 20, .int .i64 a, .string ⟨#[48, 49]⟩] 28 (0, 0)) ∧ Below (w.heap.size + 2) ((w.alloc (.cells (leafN 35 ⟨#[48, 49]⟩ a none 0) 24)).alloc (.cells #[.int .i64 0] 63)) w') := fun W hW =>
    (check_int (w.heap.size + 1) a none 0 W (ht.below (Nat.le_refl _) (hB2.trans (hW.mono (by omega)))) (by have := hW.size; simp at this; omega) ((hW.cell (p := ⟨w.heap.size + 1, 0, none⟩) (by simp)).trans hcc)).mono
      fun _ _ ⟨B, h1, h2, h3, h4⟩ => ⟨B, h1, by have := hW.size; simp at this; omega, h3, hW.trans (h4.mono (by have := hW.size; simp at this; omega))⟩
  have HK : Hid (∀ W, Below (w.heap.size + 2) ((w.alloc (.cells (leafN 35 ⟨#[48, 49]⟩ a none 0) 24)).alloc (.cells #[.int .i64 0] 63)) W → (W.cell? ⟨w.heap.size, 0, none⟩ = some (.int .i64 35) ∧ W.cell? ⟨w.heap.size, 1, none⟩ = some (.string ⟨#[48, 49]⟩) ∧ W.cell? ⟨w.heap.size, 2, none⟩ = some (.int .i64 0) ∧ W.cell? ⟨w.heap.size, 3, none⟩ = some (.int .i64 a) ∧ W.cell? ⟨w.heap.size, 4, none⟩ = some (.slice none 0 0))) := fun W hW => by
    have K3 := K2.below (by omega : w.heap.size < w.heap.size + 2) hW
    exact ⟨K3 0 _ rfl, K3 1 _ rfl, K3 2 _ rfl, K3 3 _ rfl, K3 4 _ rfl⟩
  clear hcc K2
  go_enter Tryz.func13, Tryz.ntmps13
  go_wp2_with fail
  go_region_held3 (fun W => W.cell? ⟨w.heap.size, 0, none⟩ = some (.int .i64 35) ∧ W.cell? ⟨w.heap.size, 1, none⟩ = some (.string ⟨#[48, 49]⟩) ∧ W.cell? ⟨w.heap.size, 2, none⟩ = some (.int .i64 0) ∧ W.cell? ⟨w.heap.size, 3, none⟩ = some (.int .i64 a) ∧ W.cell? ⟨w.heap.size, 4, none⟩ = some (.slice none 0 0))
    (first | exact HK.out _ hbF | exact HK.out _ hbA | (simp; done))
    (first
      | (go_at_call 32; refine (HO.out _).mono ?_; rintro e w1 ⟨rfl, hb0⟩; have hbA : Below (w.heap.size + 2) ((w.alloc (.cells (leafN 35 ⟨#[48, 49]⟩ a none 0) 24)).alloc (.cells #[.int .i64 0] 63)) w1 := ((Below.refl _ _).drew).trans (hb0.mono (by simp)))
      | (go_at_call 31; refine (HC.out _ hbA).mono ?_; rintro e w2 ⟨B, rfl, hB, hrow, hbF⟩))
  go_wp2_with fail
  go_ret
  exact ⟨B, rfl, hB, hrow, hB2.trans (hbF.mono (by omega))⟩
end Go.Proofs.YthbnegggohegkaaGreatDoor
