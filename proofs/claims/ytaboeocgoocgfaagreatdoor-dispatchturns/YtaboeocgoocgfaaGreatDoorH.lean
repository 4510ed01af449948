/-
  tree.Right at the least program with a type.
-/
import Derived.Test.YtaboeocgoocgfaaGreatDoorF
namespace Go.Proofs.YtaboeocgoocgfaaGreatDoor
open Go.RowKit Go.ChangeMaps

set_option maxRecDepth 100000 in
set_option maxHeartbeats 4000000 in
theorem isName_A {gw ow gs os : Nat} (w : World) (ht : TabsAt gw ow gs os w) :
    Calls Tryz.prog 95 #[.string ⟨#[65]⟩] w fun e w' => e = .returned (.bool true) ∧ Below w.heap.size w w' := by
  go_enter Tryz.func95, Tryz.ntmps95
  go_wp2_with fail
  refine Calls.mono (name_any ⟨#[65]⟩ _ ht) ?_
  rintro _ w1 ⟨rfl, hb⟩
  rw [show isName (⟨#[65]⟩ : ByteArray).data.toList = true from by decide +kernel]
  go_wp2_with fail
  go_ret
  exact ⟨rfl, hb⟩
set_option maxRecDepth 100000 in
set_option maxHeartbeats 4000000 in
theorem isName_X {gw ow gs os : Nat} (w : World) (ht : TabsAt gw ow gs os w) :
    Calls Tryz.prog 95 #[.string ⟨#[120]⟩] w fun e w' => e = .returned (.bool true) ∧ Below w.heap.size w w' := by
  go_enter Tryz.func95, Tryz.ntmps95
  go_wp2_with fail
  refine Calls.mono (name_any ⟨#[120]⟩ _ ht) ?_
  rintro _ w1 ⟨rfl, hb⟩
  rw [show isName (⟨#[120]⟩ : ByteArray).data.toList = true from by decide +kernel]
  go_wp2_with fail
  go_ret
  exact ⟨rfl, hb⟩
set_option maxRecDepth 100000 in
set_option maxHeartbeats 4000000 in
theorem textFits_P (KA : Nat) (w : World) :
    Calls Tryz.prog 81 #[.agg #[.int .i64 1, .string ⟨#[]⟩, .int .i64 0, .int .i64 0, .slice (some ⟨KA, 0, none⟩) 1 1], .int .i64 0] w fun e w' => e = .returned (.bool true) ∧ Below w.heap.size w w' := by
  go_enter Tryz.func81, Tryz.ntmps81
  go_wp2_with fail
  go_ret
  exact ⟨rfl, below1 w _⟩
set_option maxRecDepth 100000 in
set_option maxHeartbeats 4000000 in
theorem textFits_A {gw ow gs os : Nat} (KX : Nat) (w : World) (ht : TabsAt gw ow gs os w) :
    Calls Tryz.prog 81 #[.agg #[.int .i64 3, .string ⟨#[65]⟩, .int .i64 0, .int .i64 0, .slice (some ⟨KX, 0, none⟩) 1 1], .int .i64 2] w fun e w' => e = .returned (.bool true) ∧ Below w.heap.size w w' := by
  go_enter Tryz.func81, Tryz.ntmps81
  go_wp2_with fail
  refine Calls.mono (isName_A _ (ht.below (Nat.le_refl _) (below1 w _))) ?_
  rintro _ w1 ⟨rfl, hb⟩
  go_wp2_with fail
  go_ret
  exact ⟨rfl, (below1 w _).trans (hb.mono (by simp))⟩
set_option maxRecDepth 100000 in
set_option maxHeartbeats 4000000 in
theorem textFits_X {gw ow gs os : Nat} (w : World) (ht : TabsAt gw ow gs os w) :
    Calls Tryz.prog 81 #[.agg #[.int .i64 8, .string ⟨#[120]⟩, .int .i64 0, .int .i64 0, .slice none 0 0], .int .i64 3] w fun e w' => e = .returned (.bool true) ∧ Below w.heap.size w w' := by
  go_enter Tryz.func81, Tryz.ntmps81
  go_wp2_with fail
  refine Calls.mono (isName_X _ (ht.below (Nat.le_refl _) (below1 w _))) ?_
  rintro _ w1 ⟨rfl, hb⟩
  go_wp2_with fail
  go_ret
  exact ⟨rfl, (below1 w _).trans (hb.mono (by simp))⟩
set_option maxRecDepth 100000 in
set_option maxHeartbeats 4000000 in
theorem numberFits_P (KA : Nat) (w : World) :
    Calls Tryz.prog 82 #[.agg #[.int .i64 1, .string ⟨#[]⟩, .int .i64 0, .int .i64 0, .slice (some ⟨KA, 0, none⟩) 1 1]] w fun e w' => e = .returned (.bool true) ∧ Below w.heap.size w w' := by
  go_enter Tryz.func82, Tryz.ntmps82
  go_wp2_with fail
  go_ret
  exact ⟨rfl, below1 w _⟩
set_option maxRecDepth 100000 in
set_option maxHeartbeats 4000000 in
theorem shapeFault_P (g : Nat) (w : World) :
    Calls Tryz.prog 83 #[.agg #[.slice (some ⟨g, 0, none⟩) 1 1, .int .i64 0, .int .i64 (-1), .bool false], .int .i64 1] w fun e w' => e = .returned (.int .i64 0) ∧ Below w.heap.size w w' := by
  go_enter Tryz.func83, Tryz.ntmps83
  go_wp2_with fail
  go_ret
  exact ⟨rfl, below1 w _⟩
set_option maxRecDepth 100000 in
set_option maxHeartbeats 4000000 in
theorem fault_P (c : Nat) (a : Int) (ha : a < 20000) (KA : Nat) (g : Nat) (w : World) (hc : w.cell? ⟨c, 0, none⟩ = some (.int .i64 a)) (hcl : c < w.heap.size) :
    Calls Tryz.prog 59 #[.pointer (some ⟨c, 0, none⟩), .agg #[.int .i64 1, .string ⟨#[]⟩, .int .i64 0, .int .i64 0, .slice (some ⟨KA, 0, none⟩) 1 1], .int .i64 0, .int .i64 1, .agg #[.slice (some ⟨g, 0, none⟩) 1 1, .int .i64 0, .int .i64 (-1), .bool false]] w fun e w' => e = .returned (.int .i64 0) ∧ Below w.heap.size w w' := by
  go_enter Tryz.func59, Tryz.ntmps59
  go_wp2_with fail
  refine Calls.mono (takes_1 _) ?_
  rintro _ _ ⟨rfl, rfl⟩
  go_wp2_with fail
  refine Calls.mono (textFits_P KA _) ?_
  rintro _ w2 ⟨rfl, hb2⟩
  have e1 : ∀ j, w2.cell? ⟨w.heap.size, j, none⟩ = (#[.int .i64 1, .string ⟨#[]⟩, .int .i64 0, .int .i64 0, .slice (some ⟨KA, 0, none⟩) 1 1] : Array Value)[j]? := fun j => (hb2.cell (p := ⟨w.heap.size, j, none⟩) (by simp <;> omega)).trans (by rw [World.cell?_alloc_lt _ _ _ (by simp <;> omega), World.cell?_alloc_new])
  have e2 : ∀ j, w2.cell? ⟨w.heap.size + 1, j, none⟩ = (#[.slice (some ⟨g, 0, none⟩) 1 1, .int .i64 0, .int .i64 (-1), .bool false] : Array Value)[j]? := fun j => (hb2.cell (p := ⟨w.heap.size + 1, j, none⟩) (by simp <;> omega)).trans (by rw [World.cell?_alloc_at _ _ _ _ (by simp)])
  go_wp2_with fail
  refine Calls.mono (numberFits_P KA _) ?_
  rintro _ w3 ⟨rfl, hb3⟩
  have s2 : w.heap.size + 1 + 1 ≤ w2.heap.size := by have := hb2.size; simpa using this
  have f1 : ∀ j, w3.cell? ⟨w.heap.size, j, none⟩ = (#[.int .i64 1, .string ⟨#[]⟩, .int .i64 0, .int .i64 0, .slice (some ⟨KA, 0, none⟩) 1 1] : Array Value)[j]? := fun j => (hb3.cell (p := ⟨w.heap.size, j, none⟩) (by show w.heap.size < w2.heap.size; omega)).trans (e1 j)
  have f2 : ∀ j, w3.cell? ⟨w.heap.size + 1, j, none⟩ = (#[.slice (some ⟨g, 0, none⟩) 1 1, .int .i64 0, .int .i64 (-1), .bool false] : Array Value)[j]? := fun j => (hb3.cell (p := ⟨w.heap.size + 1, j, none⟩) (by show w.heap.size + 1 < w2.heap.size; omega)).trans (e2 j)
  go_wp2_with fail
  refine Calls.mono (shapeFault_P g _) ?_
  rintro _ w4 ⟨rfl, hb4⟩
  go_wp2_with fail
  go_ret
  have h2 : Below w.heap.size w w2 := (below2 w _ _).trans (hb2.mono (by simp; omega))
  have h3 : Below w.heap.size w w3 := h2.trans (hb3.mono h2.size)
  exact ⟨rfl, h3.trans (hb4.mono h3.size)⟩
set_option maxRecDepth 100000 in
set_option maxHeartbeats 4000000 in
theorem numberFits_A (KX : Nat) (w : World) :
    Calls Tryz.prog 82 #[.agg #[.int .i64 3, .string ⟨#[65]⟩, .int .i64 0, .int .i64 0, .slice (some ⟨KX, 0, none⟩) 1 1]] w fun e w' => e = .returned (.bool true) ∧ Below w.heap.size w w' := by
  go_enter Tryz.func82, Tryz.ntmps82
  go_wp2_with fail
  go_ret
  exact ⟨rfl, below1 w _⟩
set_option maxRecDepth 100000 in
set_option maxHeartbeats 4000000 in
theorem shapeFault_A (g : Nat) (w : World) :
    Calls Tryz.prog 83 #[.agg #[.slice (some ⟨g, 0, none⟩) 1 1, .int .i64 0, .int .i64 30, .bool true], .int .i64 1] w fun e w' => e = .returned (.int .i64 0) ∧ Below w.heap.size w w' := by
  go_enter Tryz.func83, Tryz.ntmps83
  go_wp2_with fail
  go_ret
  exact ⟨rfl, below1 w _⟩
set_option maxRecDepth 100000 in
set_option maxHeartbeats 4000000 in
theorem fault_A {gw ow gs os : Nat} (c : Nat) (a : Int) (ha : a < 20000) (KX : Nat) (g : Nat) (w : World) (ht : TabsAt gw ow gs os w) (hc : w.cell? ⟨c, 0, none⟩ = some (.int .i64 a)) (hcl : c < w.heap.size) :
    Calls Tryz.prog 59 #[.pointer (some ⟨c, 0, none⟩), .agg #[.int .i64 3, .string ⟨#[65]⟩, .int .i64 0, .int .i64 0, .slice (some ⟨KX, 0, none⟩) 1 1], .int .i64 2, .int .i64 2, .agg #[.slice (some ⟨g, 0, none⟩) 1 1, .int .i64 0, .int .i64 30, .bool true]] w fun e w' => e = .returned (.int .i64 0) ∧ Below w.heap.size w w' := by
  go_enter Tryz.func59, Tryz.ntmps59
  go_wp2_with fail
  refine Calls.mono (takes_3 _) ?_
  rintro _ _ ⟨rfl, rfl⟩
  go_wp2_with fail
  refine Calls.mono (textFits_A KX _ (ht.below (Nat.le_refl _) (below2 w _ _))) ?_
  rintro _ w2 ⟨rfl, hb2⟩
  have e1 : ∀ j, w2.cell? ⟨w.heap.size, j, none⟩ = (#[.int .i64 3, .string ⟨#[65]⟩, .int .i64 0, .int .i64 0, .slice (some ⟨KX, 0, none⟩) 1 1] : Array Value)[j]? := fun j => (hb2.cell (p := ⟨w.heap.size, j, none⟩) (by simp <;> omega)).trans (by rw [World.cell?_alloc_lt _ _ _ (by simp <;> omega), World.cell?_alloc_new])
  have e2 : ∀ j, w2.cell? ⟨w.heap.size + 1, j, none⟩ = (#[.slice (some ⟨g, 0, none⟩) 1 1, .int .i64 0, .int .i64 30, .bool true] : Array Value)[j]? := fun j => (hb2.cell (p := ⟨w.heap.size + 1, j, none⟩) (by simp <;> omega)).trans (by rw [World.cell?_alloc_at _ _ _ _ (by simp)])
  go_wp2_with fail
  refine Calls.mono (numberFits_A KX _) ?_
  rintro _ w3 ⟨rfl, hb3⟩
  have s2 : w.heap.size + 1 + 1 ≤ w2.heap.size := by have := hb2.size; simpa using this
  have f1 : ∀ j, w3.cell? ⟨w.heap.size, j, none⟩ = (#[.int .i64 3, .string ⟨#[65]⟩, .int .i64 0, .int .i64 0, .slice (some ⟨KX, 0, none⟩) 1 1] : Array Value)[j]? := fun j => (hb3.cell (p := ⟨w.heap.size, j, none⟩) (by show w.heap.size < w2.heap.size; omega)).trans (e1 j)
  have f2 : ∀ j, w3.cell? ⟨w.heap.size + 1, j, none⟩ = (#[.slice (some ⟨g, 0, none⟩) 1 1, .int .i64 0, .int .i64 30, .bool true] : Array Value)[j]? := fun j => (hb3.cell (p := ⟨w.heap.size + 1, j, none⟩) (by show w.heap.size + 1 < w2.heap.size; omega)).trans (e2 j)
  go_wp2_with fail
  refine Calls.mono (shapeFault_A g _) ?_
  rintro _ w4 ⟨rfl, hb4⟩
  go_wp2_with fail
  go_ret
  have h2 : Below w.heap.size w w2 := (below2 w _ _).trans (hb2.mono (by simp; omega))
  have h3 : Below w.heap.size w w3 := h2.trans (hb3.mono h2.size)
  exact ⟨rfl, h3.trans (hb4.mono h3.size)⟩
set_option maxRecDepth 100000 in
set_option maxHeartbeats 4000000 in
theorem numberFits_X (w : World) :
    Calls Tryz.prog 82 #[.agg #[.int .i64 8, .string ⟨#[120]⟩, .int .i64 0, .int .i64 0, .slice none 0 0]] w fun e w' => e = .returned (.bool true) ∧ Below w.heap.size w w' := by
  go_enter Tryz.func82, Tryz.ntmps82
  go_wp2_with fail
  go_ret
  exact ⟨rfl, below1 w _⟩
set_option maxRecDepth 100000 in
set_option maxHeartbeats 4000000 in
theorem shapeFault_X (w : World) :
    Calls Tryz.prog 83 #[.agg #[.slice none 0 0, .int .i64 0, .int .i64 0, .bool false], .int .i64 0] w fun e w' => e = .returned (.int .i64 0) ∧ Below w.heap.size w w' := by
  go_enter Tryz.func83, Tryz.ntmps83
  go_wp2_with fail
  go_ret
  exact ⟨rfl, below1 w _⟩
set_option maxRecDepth 100000 in
set_option maxHeartbeats 4000000 in
theorem fault_X {gw ow gs os : Nat} (c : Nat) (a : Int) (ha : a < 20000) (w : World) (ht : TabsAt gw ow gs os w) (hc : w.cell? ⟨c, 0, none⟩ = some (.int .i64 a)) (hcl : c < w.heap.size) :
    Calls Tryz.prog 59 #[.pointer (some ⟨c, 0, none⟩), .agg #[.int .i64 8, .string ⟨#[120]⟩, .int .i64 0, .int .i64 0, .slice none 0 0], .int .i64 3, .int .i64 3, .agg #[.slice none 0 0, .int .i64 0, .int .i64 0, .bool false]] w fun e w' => e = .returned (.int .i64 0) ∧ Below w.heap.size w w' := by
  go_enter Tryz.func59, Tryz.ntmps59
  go_wp2_with fail
  refine Calls.mono (takes_8 _) ?_
  rintro _ _ ⟨rfl, rfl⟩
  go_wp2_with fail
  refine Calls.mono (textFits_X _ (ht.below (Nat.le_refl _) (below2 w _ _))) ?_
  rintro _ w2 ⟨rfl, hb2⟩
  have e1 : ∀ j, w2.cell? ⟨w.heap.size, j, none⟩ = (#[.int .i64 8, .string ⟨#[120]⟩, .int .i64 0, .int .i64 0, .slice none 0 0] : Array Value)[j]? := fun j => (hb2.cell (p := ⟨w.heap.size, j, none⟩) (by simp <;> omega)).trans (by rw [World.cell?_alloc_lt _ _ _ (by simp <;> omega), World.cell?_alloc_new])
  have e2 : ∀ j, w2.cell? ⟨w.heap.size + 1, j, none⟩ = (#[.slice none 0 0, .int .i64 0, .int .i64 0, .bool false] : Array Value)[j]? := fun j => (hb2.cell (p := ⟨w.heap.size + 1, j, none⟩) (by simp <;> omega)).trans (by rw [World.cell?_alloc_at _ _ _ _ (by simp)])
  go_wp2_with fail
  refine Calls.mono (numberFits_X _) ?_
  rintro _ w3 ⟨rfl, hb3⟩
  have s2 : w.heap.size + 1 + 1 ≤ w2.heap.size := by have := hb2.size; simpa using this
  have f1 : ∀ j, w3.cell? ⟨w.heap.size, j, none⟩ = (#[.int .i64 8, .string ⟨#[120]⟩, .int .i64 0, .int .i64 0, .slice none 0 0] : Array Value)[j]? := fun j => (hb3.cell (p := ⟨w.heap.size, j, none⟩) (by show w.heap.size < w2.heap.size; omega)).trans (e1 j)
  have f2 : ∀ j, w3.cell? ⟨w.heap.size + 1, j, none⟩ = (#[.slice none 0 0, .int .i64 0, .int .i64 0, .bool false] : Array Value)[j]? := fun j => (hb3.cell (p := ⟨w.heap.size + 1, j, none⟩) (by show w.heap.size + 1 < w2.heap.size; omega)).trans (e2 j)
  go_wp2_with fail
  refine Calls.mono (shapeFault_X _) ?_
  rintro _ w4 ⟨rfl, hb4⟩
  go_wp2_with fail
  go_ret
  have h2 : Below w.heap.size w w2 := (below2 w _ _).trans (hb2.mono (by simp; omega))
  have h3 : Below w.heap.size w w3 := h2.trans (hb3.mono h2.size)
  exact ⟨rfl, h3.trans (hb4.mono h3.size)⟩
set_option maxRecDepth 100000 in
set_option maxHeartbeats 4000000 in
theorem role_any (g : Nat) (r l m : Int) (cr : Bool) (w : World) (hg : g < w.heap.size) (hc : w.cell? ⟨g, 0, none⟩ = some (.int .i64 r)) :
    Calls Tryz.prog 62 #[.agg #[.slice (some ⟨g, 0, none⟩) 1 1, .int .i64 l, .int .i64 m, .bool cr], .int .i64 0] w fun e w' => e = .returned (.int .i64 r) ∧ Below w.heap.size w w' := by
  go_enter Tryz.func62, Tryz.ntmps62
  go_wp2_with fail
  go_ret
  exact ⟨rfl, below1 w _⟩
set_option maxRecDepth 100000 in
set_option maxHeartbeats 4000000 in
theorem second_X (w : World) :
    Calls Tryz.prog 61 #[.agg #[.int .i64 8, .string ⟨#[120]⟩, .int .i64 0, .int .i64 0, .slice none 0 0]] w fun e w' => e = .returned (.int .i64 (-1)) ∧ Below w.heap.size w w' := by
  go_enter Tryz.func61, Tryz.ntmps61
  go_wp2_with fail
  refine wp_loop_rounds 1 ?_
  rw [rounds_succ]
  go_wp2_with fail
  go_ret
  exact ⟨rfl, below1 w _⟩
set_option maxRecDepth 100000 in
set_option maxHeartbeats 4000000 in
theorem second_A (KX : Nat) (w : World) (hK : KX < w.heap.size) (k0 : w.cell? ⟨KX, 0, none⟩ = some (.int .i64 8)) (k1 : w.cell? ⟨KX, 1, none⟩ = some (.string ⟨#[120]⟩)) (k2 : w.cell? ⟨KX, 2, none⟩ = some (.int .i64 0)) (k3 : w.cell? ⟨KX, 3, none⟩ = some (.int .i64 0)) (k4 : w.cell? ⟨KX, 4, none⟩ = some (.slice none 0 0)) :
    Calls Tryz.prog 61 #[.agg #[.int .i64 3, .string ⟨#[65]⟩, .int .i64 0, .int .i64 0, .slice (some ⟨KX, 0, none⟩) 1 1]] w fun e w' => e = .returned (.int .i64 (-1)) ∧ Below w.heap.size w w' := by
  go_enter Tryz.func61, Tryz.ntmps61
  go_wp2_with fail
  refine wp_loop_rounds 2 ?_
  rw [rounds_succ]
  go_wp2_with fail
  rw [rounds_succ]
  go_wp2_with fail
  go_ret
  exact ⟨rfl, below2 w _ _⟩
set_option maxRecDepth 100000 in
set_option maxHeartbeats 4000000 in
theorem second_P (KA KX : Nat) (w : World) (hK : KA < w.heap.size) (k0 : w.cell? ⟨KA, 0, none⟩ = some (.int .i64 3)) (k1 : w.cell? ⟨KA, 1, none⟩ = some (.string ⟨#[65]⟩)) (k2 : w.cell? ⟨KA, 2, none⟩ = some (.int .i64 0)) (k3 : w.cell? ⟨KA, 3, none⟩ = some (.int .i64 0)) (k4 : w.cell? ⟨KA, 4, none⟩ = some (.slice (some ⟨KX, 0, none⟩) 1 1)) :
    Calls Tryz.prog 61 #[.agg #[.int .i64 1, .string ⟨#[]⟩, .int .i64 0, .int .i64 0, .slice (some ⟨KA, 0, none⟩) 1 1]] w fun e w' => e = .returned (.int .i64 (-1)) ∧ Below w.heap.size w w' := by
  go_enter Tryz.func61, Tryz.ntmps61
  go_wp2_with fail
  refine wp_loop_rounds 2 ?_
  rw [rounds_succ]
  go_wp2_with fail
  rw [rounds_succ]
  go_wp2_with fail
  go_ret
  exact ⟨rfl, below2 w _ _⟩
end Go.Proofs.YtaboeocgoocgfaaGreatDoor
