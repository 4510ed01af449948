/-
  tree.Right at the least program with a type: check, Right.
-/
import Derived.Test.YtaboeocgoocgfaaGreatDoorH
namespace Go.Proofs.YtaboeocgoocgfaaGreatDoor
open Go.RowKit Go.ChangeMaps

theorem TabsAt.kp {gw ow gs os c : Nat} {w w' : World} (h : TabsAt gw ow gs os w) (q : Kp (· = c) w w') (h1 : gw ≠ c) (h2 : gs ≠ c) (h3 : 2 ≠ c) (h4 : 3 ≠ c) : TabsAt gw ow gs os w' :=
  have e := h.two
  ⟨(q.cell (by omega) h3).trans h.words, (q.cell (by omega) h4).trans h.signs, fun k hk => ⟨(q.cell h.gwLt h1).trans (h.word k hk).1, (q.cell h.gwLt h1).trans (h.word k hk).2⟩, fun k hk => (q.cell h.gsLt h2).trans (h.sign k hk), Nat.le_trans e q.size, Nat.lt_of_lt_of_le h.gwLt q.size, Nat.lt_of_lt_of_le h.gsLt q.size⟩
set_option maxRecDepth 100000 in
set_option maxHeartbeats 4000000 in
theorem check_X {gw ow gs os : Nat} (c : Nat) (a : Int) (ha : 0 ≤ a) (ha2 : a < 1000) (w : World) (ht : TabsAt gw ow gs os w) (hc : w.cell? ⟨c, 0, none⟩ = some (.int .i64 a)) (hcl : c < w.heap.size) (hf : w.frozen? ⟨c, 0, none⟩ = false) :
    Calls Tryz.prog 32 #[.pointer (some ⟨c, 0, none⟩), .agg #[.int .i64 8, .string ⟨#[120]⟩, .int .i64 0, .int .i64 0, .slice none 0 0], .int .i64 3, .int .i64 3] w fun e w' => e = .returned .nilIface ∧ Kp (· = c) w w' ∧ w'.cell? ⟨c, 0, none⟩ = some (.int .i64 (a + 1)) ∧ w'.frozen? ⟨c, 0, none⟩ = false := by
  go_enter Tryz.func32, Tryz.ntmps32
  go_wp2_with fail
  refine Calls.mono (shapeOf_X _) ?_
  rintro _ _ ⟨rfl, rfl⟩
  go_wp2_with fail
  obtain ⟨W1, hW1⟩ : ∃ W, W = (((((((w.alloc (.cells #[.int .i64 8, .string ⟨#[120]⟩, .int .i64 0, .int .i64 0, .slice none 0 0] 30)).alloc (.cells #[.int .i64 8, .string ⟨#[120]⟩, .int .i64 0, .int .i64 0, .slice none 0 0] 30)).alloc (.cells #[.slice none 0 0, .int .i64 0, .int .i64 0, .bool false] 145)).alloc (.cells #[.int .i64 8, .string ⟨#[120]⟩, .int .i64 0, .int .i64 0, .slice none 0 0] 30)).alloc (.cells #[.slice none 0 0, .int .i64 0, .int .i64 0, .bool false] 145)).alloc (.cells #[.slice none 0 0, .int .i64 0, .int .i64 0, .bool false] 145)).alloc (.cells #[.slice none 0 0, .int .i64 0, .int .i64 0, .bool false] 145)) := ⟨_, rfl⟩
  have b1 : Below w.heap.size w W1 := by rw [hW1]; repeat (first | exact Below.refl _ _ | refine Below.alloc ?_ (by simp <;> omega) _)
  have z1 : W1.heap.size = w.heap.size + 1 + 1 + 1 + 1 + 1 + 1 + 1 := by rw [hW1]; simp
  have n1 : ∀ j, W1.cell? ⟨w.heap.size, j, none⟩ = (#[.int .i64 8, .string ⟨#[120]⟩, .int .i64 0, .int .i64 0, .slice none 0 0] : Array Value)[j]? := fun j => by
    rw [hW1, World.cell?_alloc_lt _ _ _ (by simp <;> omega), World.cell?_alloc_lt _ _ _ (by simp <;> omega), World.cell?_alloc_lt _ _ _ (by simp <;> omega), World.cell?_alloc_lt _ _ _ (by simp <;> omega), World.cell?_alloc_lt _ _ _ (by simp <;> omega), World.cell?_alloc_lt _ _ _ (by simp <;> omega), World.cell?_alloc_new]
  have m1 : ∀ j, W1.cell? ⟨w.heap.size + 1 + 1 + 1 + 1 + 1 + 1, j, none⟩ = (#[.slice none 0 0, .int .i64 0, .int .i64 0, .bool false] : Array Value)[j]? := fun j => by
    rw [hW1]; rw [World.cell?_alloc_at _ _ _ _ (by simp)]
  rw [← hW1]
  clear hW1
  refine Calls.mono (fault_X c a (by omega) _ (ht.below (Nat.le_refl _) b1) ((b1.cell (p := ⟨c, 0, none⟩) hcl).trans hc) (Nat.lt_of_lt_of_le hcl b1.size)) ?_
  rintro _ W2 ⟨rfl, hb2⟩
  have q2 : Kp (· = c) W1 W2 := Kp.of hb2
  have z2 : W1.heap.size ≤ W2.heap.size := q2.size
  have c2 : ∀ b j, b < W1.heap.size → b ≠ c → W2.cell? ⟨b, j, none⟩ = W1.cell? ⟨b, j, none⟩ := fun b j hb hn => q2.cell hb hn
  have cc2 : W2.cell? ⟨c, 0, none⟩ = some (.int .i64 a) := (hb2.cell (p := ⟨c, 0, none⟩) (Nat.lt_of_lt_of_le hcl b1.size)).trans ((b1.cell (p := ⟨c, 0, none⟩) hcl).trans hc)
  have cf2 : W2.frozen? ⟨c, 0, none⟩ = false := (hb2.frozen (p := ⟨c, 0, none⟩) (Nat.lt_of_lt_of_le hcl b1.size)).trans ((b1.frozen (p := ⟨c, 0, none⟩) hcl).trans hf)
  have n2 : ∀ j, W2.cell? ⟨w.heap.size, j, none⟩ = (#[.int .i64 8, .string ⟨#[120]⟩, .int .i64 0, .int .i64 0, .slice none 0 0] : Array Value)[j]? := fun j => (c2 w.heap.size j (by omega) (by omega)).trans (n1 j)
  have m2 : ∀ j, W2.cell? ⟨w.heap.size + 1 + 1 + 1 + 1 + 1 + 1, j, none⟩ = (#[.slice none 0 0, .int .i64 0, .int .i64 0, .bool false] : Array Value)[j]? := fun j => (c2 (w.heap.size + 1 + 1 + 1 + 1 + 1 + 1) j (by omega) (by omega)).trans (m1 j)
  go_wp2_with fail
  obtain ⟨W3, hW3⟩ : ∃ W, W = W2.setCell ⟨c, 0, none⟩ (.int .i64 (a + 1)) := ⟨_, rfl⟩
  rw [← hW3]
  have q3 : Kp (· = c) W2 W3 := by rw [hW3]; exact Kp.set _ _ _ _ rfl
  have z3 : W2.heap.size ≤ W3.heap.size := q3.size
  have c3 : ∀ b j, b < W2.heap.size → b ≠ c → W3.cell? ⟨b, j, none⟩ = W2.cell? ⟨b, j, none⟩ := fun b j hb hn => q3.cell hb hn
  have cc3 : W3.cell? ⟨c, 0, none⟩ = some (.int .i64 (a + 1)) := by rw [hW3]; exact World.cell?_setCell_same _ _ _ cc2
  have cf3 : W3.frozen? ⟨c, 0, none⟩ = false := by rw [hW3]; simpa using cf2
  clear hW3
  have n3 : ∀ j, W3.cell? ⟨w.heap.size, j, none⟩ = (#[.int .i64 8, .string ⟨#[120]⟩, .int .i64 0, .int .i64 0, .slice none 0 0] : Array Value)[j]? := fun j => (c3 w.heap.size j (by omega) (by omega)).trans (n2 j)
  have m3 : ∀ j, W3.cell? ⟨w.heap.size + 1 + 1 + 1 + 1 + 1 + 1, j, none⟩ = (#[.slice none 0 0, .int .i64 0, .int .i64 0, .bool false] : Array Value)[j]? := fun j => (c3 (w.heap.size + 1 + 1 + 1 + 1 + 1 + 1) j (by omega) (by omega)).trans (m2 j)
  refine Calls.mono (second_X _) ?_
  rintro _ W4 ⟨rfl, hb4⟩
  have q4 : Kp (· = c) W3 W4 := Kp.of hb4
  have z4 : W3.heap.size ≤ W4.heap.size := q4.size
  have c4 : ∀ b j, b < W3.heap.size → b ≠ c → W4.cell? ⟨b, j, none⟩ = W3.cell? ⟨b, j, none⟩ := fun b j hb hn => q4.cell hb hn
  have cc4 : W4.cell? ⟨c, 0, none⟩ = some (.int .i64 (a + 1)) := (hb4.cell (p := ⟨c, 0, none⟩) (by show c < W3.heap.size; omega)).trans cc3
  have cf4 : W4.frozen? ⟨c, 0, none⟩ = false := (hb4.frozen (p := ⟨c, 0, none⟩) (by show c < W3.heap.size; omega)).trans cf3
  have n4 : ∀ j, W4.cell? ⟨w.heap.size, j, none⟩ = (#[.int .i64 8, .string ⟨#[120]⟩, .int .i64 0, .int .i64 0, .slice none 0 0] : Array Value)[j]? := fun j => (c4 w.heap.size j (by omega) (by omega)).trans (n3 j)
  have m4 : ∀ j, W4.cell? ⟨w.heap.size + 1 + 1 + 1 + 1 + 1 + 1, j, none⟩ = (#[.slice none 0 0, .int .i64 0, .int .i64 0, .bool false] : Array Value)[j]? := fun j => (c4 (w.heap.size + 1 + 1 + 1 + 1 + 1 + 1) j (by omega) (by omega)).trans (m3 j)
  have Q4 : Kp (· = c) w W4 := (((Kp.of b1).trans q2 fun _ _ h => h).trans q3 fun _ _ h => h).trans q4 fun _ _ h => h
  go_wp2_with fail
  refine wp_loop_rounds 1 ?_
  rw [rounds_succ]
  go_wp2_with fail
  go_ret
  exact ⟨rfl, Q4, cc4, cf4⟩

set_option maxRecDepth 100000 in
set_option maxHeartbeats 4000000 in
theorem check_A {gw ow gs os : Nat} (c : Nat) (a : Int) (ha : 0 ≤ a) (ha2 : a < 999) (KX : Nat) (w : World) (ht : TabsAt gw ow gs os w) (hgc1 : gw ≠ c) (hgc2 : gs ≠ c) (hgc3 : 2 ≠ c) (hgc4 : 3 ≠ c) (hc : w.cell? ⟨c, 0, none⟩ = some (.int .i64 a)) (hcl : c < w.heap.size) (hf : w.frozen? ⟨c, 0, none⟩ = false) (hK : KX < w.heap.size) (hKc : KX ≠ c) (k0 : w.cell? ⟨KX, 0, none⟩ = some (.int .i64 8)) (k1 : w.cell? ⟨KX, 1, none⟩ = some (.string ⟨#[120]⟩)) (k2 : w.cell? ⟨KX, 2, none⟩ = some (.int .i64 0)) (k3 : w.cell? ⟨KX, 3, none⟩ = some (.int .i64 0)) (k4 : w.cell? ⟨KX, 4, none⟩ = some (.slice none 0 0)) :
    Calls Tryz.prog 32 #[.pointer (some ⟨c, 0, none⟩), .agg #[.int .i64 3, .string ⟨#[65]⟩, .int .i64 0, .int .i64 0, .slice (some ⟨KX, 0, none⟩) 1 1], .int .i64 2, .int .i64 2] w fun e w' => e = .returned .nilIface ∧ Kp (· = c) w w' ∧ w'.cell? ⟨c, 0, none⟩ = some (.int .i64 (a + 2)) ∧ w'.frozen? ⟨c, 0, none⟩ = false := by
  go_enter Tryz.func32, Tryz.ntmps32
  go_wp2_with fail
  refine Calls.mono (shapeOf_A KX _) ?_
  rintro _ _ ⟨rfl, rfl⟩
  go_wp2_with fail
  obtain ⟨W1, hW1⟩ : ∃ W, W = ((((((((w.alloc (.cells #[.int .i64 3, .string ⟨#[65]⟩, .int .i64 0, .int .i64 0, .slice (some ⟨KX, 0, none⟩) 1 1] 30)).alloc (.cells #[.int .i64 3, .string ⟨#[65]⟩, .int .i64 0, .int .i64 0, .slice (some ⟨KX, 0, none⟩) 1 1] 30)).alloc (.cells #[.slice (some ⟨w.heap.size + 1 + 1 + 1 + 1 + 1 + 1, 0, none⟩) 1 1, .int .i64 0, .int .i64 30, .bool true] 145)).alloc (.cells #[.int .i64 3, .string ⟨#[65]⟩, .int .i64 0, .int .i64 0, .slice (some ⟨KX, 0, none⟩) 1 1] 30)).alloc (.cells #[.slice (some ⟨w.heap.size + 1 + 1 + 1 + 1 + 1 + 1, 0, none⟩) 1 1, .int .i64 0, .int .i64 30, .bool true] 145)).alloc (.cells #[.slice (some ⟨w.heap.size + 1 + 1 + 1 + 1 + 1 + 1, 0, none⟩) 1 1, .int .i64 0, .int .i64 30, .bool true] 145)).alloc (.cells #[.int .i64 3] 96)).alloc (.cells #[.slice (some ⟨w.heap.size + 1 + 1 + 1 + 1 + 1 + 1, 0, none⟩) 1 1, .int .i64 0, .int .i64 30, .bool true] 145)) := ⟨_, rfl⟩
  have b1 : Below w.heap.size w W1 := by rw [hW1]; repeat (first | exact Below.refl _ _ | refine Below.alloc ?_ (by simp <;> omega) _)
  have z1 : W1.heap.size = w.heap.size + 1 + 1 + 1 + 1 + 1 + 1 + 1 + 1 := by rw [hW1]; simp
  have n1 : ∀ j, W1.cell? ⟨w.heap.size, j, none⟩ = (#[.int .i64 3, .string ⟨#[65]⟩, .int .i64 0, .int .i64 0, .slice (some ⟨KX, 0, none⟩) 1 1] : Array Value)[j]? := fun j => by
    rw [hW1, World.cell?_alloc_lt _ _ _ (by simp <;> omega), World.cell?_alloc_lt _ _ _ (by simp <;> omega), World.cell?_alloc_lt _ _ _ (by simp <;> omega), World.cell?_alloc_lt _ _ _ (by simp <;> omega), World.cell?_alloc_lt _ _ _ (by simp <;> omega), World.cell?_alloc_lt _ _ _ (by simp <;> omega), World.cell?_alloc_lt _ _ _ (by simp <;> omega), World.cell?_alloc_new]
  have m1 : ∀ j, W1.cell? ⟨w.heap.size + 1 + 1 + 1 + 1 + 1 + 1 + 1, j, none⟩ = (#[.slice (some ⟨w.heap.size + 1 + 1 + 1 + 1 + 1 + 1, 0, none⟩) 1 1, .int .i64 0, .int .i64 30, .bool true] : Array Value)[j]? := fun j => by
    rw [hW1]; rw [World.cell?_alloc_at _ _ _ _ (by simp)]
  have g1 : W1.cell? ⟨w.heap.size + 1 + 1 + 1 + 1 + 1 + 1, 0, none⟩ = some (.int .i64 3) := by
    rw [hW1, World.cell?_alloc_lt _ _ _ (by simp <;> omega), World.cell?_alloc_at _ _ _ _ (by simp)]; rfl
  rw [← hW1]
  clear hW1
  refine Calls.mono (fault_A c a (by omega) KX _ _ (ht.below (Nat.le_refl _) b1) ((b1.cell (p := ⟨c, 0, none⟩) hcl).trans hc) (Nat.lt_of_lt_of_le hcl b1.size)) ?_
  rintro _ W2 ⟨rfl, hb2⟩
  have q2 : Kp (· = c) W1 W2 := Kp.of hb2
  have z2 : W1.heap.size ≤ W2.heap.size := q2.size
  have c2 : ∀ b j, b < W1.heap.size → b ≠ c → W2.cell? ⟨b, j, none⟩ = W1.cell? ⟨b, j, none⟩ := fun b j hb hn => q2.cell hb hn
  have cc2 : W2.cell? ⟨c, 0, none⟩ = some (.int .i64 a) := (hb2.cell (p := ⟨c, 0, none⟩) (Nat.lt_of_lt_of_le hcl b1.size)).trans ((b1.cell (p := ⟨c, 0, none⟩) hcl).trans hc)
  have cf2 : W2.frozen? ⟨c, 0, none⟩ = false := (hb2.frozen (p := ⟨c, 0, none⟩) (Nat.lt_of_lt_of_le hcl b1.size)).trans ((b1.frozen (p := ⟨c, 0, none⟩) hcl).trans hf)
  have n2 : ∀ j, W2.cell? ⟨w.heap.size, j, none⟩ = (#[.int .i64 3, .string ⟨#[65]⟩, .int .i64 0, .int .i64 0, .slice (some ⟨KX, 0, none⟩) 1 1] : Array Value)[j]? := fun j => (c2 w.heap.size j (by omega) (by omega)).trans (n1 j)
  have m2 : ∀ j, W2.cell? ⟨w.heap.size + 1 + 1 + 1 + 1 + 1 + 1 + 1, j, none⟩ = (#[.slice (some ⟨w.heap.size + 1 + 1 + 1 + 1 + 1 + 1, 0, none⟩) 1 1, .int .i64 0, .int .i64 30, .bool true] : Array Value)[j]? := fun j => (c2 (w.heap.size + 1 + 1 + 1 + 1 + 1 + 1 + 1) j (by omega) (by omega)).trans (m1 j)
  have g2 : W2.cell? ⟨w.heap.size + 1 + 1 + 1 + 1 + 1 + 1, 0, none⟩ = some (.int .i64 3) := (c2 (w.heap.size + 1 + 1 + 1 + 1 + 1 + 1) 0 (by omega) (by omega)).trans g1
  go_wp2_with fail
  obtain ⟨W3, hW3⟩ : ∃ W, W = W2.setCell ⟨c, 0, none⟩ (.int .i64 (a + 1)) := ⟨_, rfl⟩
  rw [← hW3]
  have q3 : Kp (· = c) W2 W3 := by rw [hW3]; exact Kp.set _ _ _ _ rfl
  have z3 : W2.heap.size ≤ W3.heap.size := q3.size
  have c3 : ∀ b j, b < W2.heap.size → b ≠ c → W3.cell? ⟨b, j, none⟩ = W2.cell? ⟨b, j, none⟩ := fun b j hb hn => q3.cell hb hn
  have cc3 : W3.cell? ⟨c, 0, none⟩ = some (.int .i64 (a + 1)) := by rw [hW3]; exact World.cell?_setCell_same _ _ _ cc2
  have cf3 : W3.frozen? ⟨c, 0, none⟩ = false := by rw [hW3]; simpa using cf2
  clear hW3
  have n3 : ∀ j, W3.cell? ⟨w.heap.size, j, none⟩ = (#[.int .i64 3, .string ⟨#[65]⟩, .int .i64 0, .int .i64 0, .slice (some ⟨KX, 0, none⟩) 1 1] : Array Value)[j]? := fun j => (c3 w.heap.size j (by omega) (by omega)).trans (n2 j)
  have m3 : ∀ j, W3.cell? ⟨w.heap.size + 1 + 1 + 1 + 1 + 1 + 1 + 1, j, none⟩ = (#[.slice (some ⟨w.heap.size + 1 + 1 + 1 + 1 + 1 + 1, 0, none⟩) 1 1, .int .i64 0, .int .i64 30, .bool true] : Array Value)[j]? := fun j => (c3 (w.heap.size + 1 + 1 + 1 + 1 + 1 + 1 + 1) j (by omega) (by omega)).trans (m2 j)
  have g3 : W3.cell? ⟨w.heap.size + 1 + 1 + 1 + 1 + 1 + 1, 0, none⟩ = some (.int .i64 3) := (c3 (w.heap.size + 1 + 1 + 1 + 1 + 1 + 1) 0 (by omega) (by omega)).trans g2
  refine Calls.mono (second_A KX _ (by omega) ((c3 KX 0 (by omega) hKc).trans ((c2 KX 0 (by omega) hKc).trans ((b1.cell (p := ⟨KX, 0, none⟩) hK).trans k0))) ((c3 KX 1 (by omega) hKc).trans ((c2 KX 1 (by omega) hKc).trans ((b1.cell (p := ⟨KX, 1, none⟩) hK).trans k1))) ((c3 KX 2 (by omega) hKc).trans ((c2 KX 2 (by omega) hKc).trans ((b1.cell (p := ⟨KX, 2, none⟩) hK).trans k2))) ((c3 KX 3 (by omega) hKc).trans ((c2 KX 3 (by omega) hKc).trans ((b1.cell (p := ⟨KX, 3, none⟩) hK).trans k3))) ((c3 KX 4 (by omega) hKc).trans ((c2 KX 4 (by omega) hKc).trans ((b1.cell (p := ⟨KX, 4, none⟩) hK).trans k4)))) ?_
  rintro _ W4 ⟨rfl, hb4⟩
  have q4 : Kp (· = c) W3 W4 := Kp.of hb4
  have z4 : W3.heap.size ≤ W4.heap.size := q4.size
  have c4 : ∀ b j, b < W3.heap.size → b ≠ c → W4.cell? ⟨b, j, none⟩ = W3.cell? ⟨b, j, none⟩ := fun b j hb hn => q4.cell hb hn
  have cc4 : W4.cell? ⟨c, 0, none⟩ = some (.int .i64 (a + 1)) := (hb4.cell (p := ⟨c, 0, none⟩) (by show c < W3.heap.size; omega)).trans cc3
  have cf4 : W4.frozen? ⟨c, 0, none⟩ = false := (hb4.frozen (p := ⟨c, 0, none⟩) (by show c < W3.heap.size; omega)).trans cf3
  have n4 : ∀ j, W4.cell? ⟨w.heap.size, j, none⟩ = (#[.int .i64 3, .string ⟨#[65]⟩, .int .i64 0, .int .i64 0, .slice (some ⟨KX, 0, none⟩) 1 1] : Array Value)[j]? := fun j => (c4 w.heap.size j (by omega) (by omega)).trans (n3 j)
  have m4 : ∀ j, W4.cell? ⟨w.heap.size + 1 + 1 + 1 + 1 + 1 + 1 + 1, j, none⟩ = (#[.slice (some ⟨w.heap.size + 1 + 1 + 1 + 1 + 1 + 1, 0, none⟩) 1 1, .int .i64 0, .int .i64 30, .bool true] : Array Value)[j]? := fun j => (c4 (w.heap.size + 1 + 1 + 1 + 1 + 1 + 1 + 1) j (by omega) (by omega)).trans (m3 j)
  have g4 : W4.cell? ⟨w.heap.size + 1 + 1 + 1 + 1 + 1 + 1, 0, none⟩ = some (.int .i64 3) := (c4 (w.heap.size + 1 + 1 + 1 + 1 + 1 + 1) 0 (by omega) (by omega)).trans g3
  have Q4 : Kp (· = c) w W4 := (((Kp.of b1).trans q2 fun _ _ h => h).trans q3 fun _ _ h => h).trans q4 fun _ _ h => h
  have K0 : W4.cell? ⟨KX, 0, none⟩ = some (.int .i64 8) := (Q4.cell hK hKc).trans k0
  have K1 : W4.cell? ⟨KX, 1, none⟩ = some (.string ⟨#[120]⟩) := (Q4.cell hK hKc).trans k1
  have K2 : W4.cell? ⟨KX, 2, none⟩ = some (.int .i64 0) := (Q4.cell hK hKc).trans k2
  have K3 : W4.cell? ⟨KX, 3, none⟩ = some (.int .i64 0) := (Q4.cell hK hKc).trans k3
  have K4 : W4.cell? ⟨KX, 4, none⟩ = some (.slice none 0 0) := (Q4.cell hK hKc).trans k4
  have hK4 : KX < W4.heap.size := by omega
  have hs4 : w.heap.size + 1 + 1 + 1 + 1 + 1 + 1 + 1 < W4.heap.size := by omega
  have hn4 : w.heap.size < W4.heap.size := by omega
  go_wp2_with fail
  refine wp_loop_rounds 2 ?_
  rw [rounds_succ]
  go_wp2_with fail
  obtain ⟨W5, hW5⟩ : ∃ W, W = W4.alloc (.cells #[.int .i64 8, .string ⟨#[120]⟩, .int .i64 0, .int .i64 0, .slice none 0 0] 30) := ⟨_, rfl⟩
  rw [← hW5]
  have hb5 : Below W4.heap.size W4 W5 := by rw [hW5]; exact below1 _ _
  have q5 : Kp (· = c) W4 W5 := Kp.of hb5
  have z5 : W5.heap.size = W4.heap.size + 1 := by rw [hW5]; simp
  have c5 : ∀ b j, b < W4.heap.size → b ≠ c → W5.cell? ⟨b, j, none⟩ = W4.cell? ⟨b, j, none⟩ := fun b j hb hn => q5.cell hb hn
  have kb5 : ∀ j, W5.cell? ⟨W4.heap.size, j, none⟩ = (#[.int .i64 8, .string ⟨#[120]⟩, .int .i64 0, .int .i64 0, .slice none 0 0] : Array Value)[j]? := fun j => by rw [hW5, World.cell?_alloc_new]
  have cc5 : W5.cell? ⟨c, 0, none⟩ = some (.int .i64 (a + 1)) := (hb5.cell (p := ⟨c, 0, none⟩) (by show c < W4.heap.size; omega)).trans cc4
  have cf5 : W5.frozen? ⟨c, 0, none⟩ = false := (hb5.frozen (p := ⟨c, 0, none⟩) (by show c < W4.heap.size; omega)).trans cf4
  clear hW5
  have n5 : ∀ j, W5.cell? ⟨w.heap.size, j, none⟩ = (#[.int .i64 3, .string ⟨#[65]⟩, .int .i64 0, .int .i64 0, .slice (some ⟨KX, 0, none⟩) 1 1] : Array Value)[j]? := fun j => (c5 w.heap.size j (by omega) (by omega)).trans (n4 j)
  have m5 : ∀ j, W5.cell? ⟨w.heap.size + 1 + 1 + 1 + 1 + 1 + 1 + 1, j, none⟩ = (#[.slice (some ⟨w.heap.size + 1 + 1 + 1 + 1 + 1 + 1, 0, none⟩) 1 1, .int .i64 0, .int .i64 30, .bool true] : Array Value)[j]? := fun j => (c5 (w.heap.size + 1 + 1 + 1 + 1 + 1 + 1 + 1) j (by omega) (by omega)).trans (m4 j)
  have g5 : W5.cell? ⟨w.heap.size + 1 + 1 + 1 + 1 + 1 + 1, 0, none⟩ = some (.int .i64 3) := (c5 (w.heap.size + 1 + 1 + 1 + 1 + 1 + 1) 0 (by omega) (by omega)).trans g4
  refine Calls.mono (role_any _ _ _ _ _ _ (by omega) g5) ?_
  rintro _ W6 ⟨rfl, hb6⟩
  have q6 : Kp (· = c) W5 W6 := Kp.of hb6
  have z6 : W5.heap.size ≤ W6.heap.size := q6.size
  have c6 : ∀ b j, b < W5.heap.size → b ≠ c → W6.cell? ⟨b, j, none⟩ = W5.cell? ⟨b, j, none⟩ := fun b j hb hn => q6.cell hb hn
  have cc6 : W6.cell? ⟨c, 0, none⟩ = some (.int .i64 (a + 1)) := (hb6.cell (p := ⟨c, 0, none⟩) (by show c < W5.heap.size; omega)).trans cc5
  have cf6 : W6.frozen? ⟨c, 0, none⟩ = false := (hb6.frozen (p := ⟨c, 0, none⟩) (by show c < W5.heap.size; omega)).trans cf5
  have kb6 : ∀ j, W6.cell? ⟨W4.heap.size, j, none⟩ = (#[.int .i64 8, .string ⟨#[120]⟩, .int .i64 0, .int .i64 0, .slice none 0 0] : Array Value)[j]? := fun j => (c6 W4.heap.size j (by omega) (by omega)).trans (kb5 j)
  have n6 : ∀ j, W6.cell? ⟨w.heap.size, j, none⟩ = (#[.int .i64 3, .string ⟨#[65]⟩, .int .i64 0, .int .i64 0, .slice (some ⟨KX, 0, none⟩) 1 1] : Array Value)[j]? := fun j => (c6 w.heap.size j (by omega) (by omega)).trans (n5 j)
  have m6 : ∀ j, W6.cell? ⟨w.heap.size + 1 + 1 + 1 + 1 + 1 + 1 + 1, j, none⟩ = (#[.slice (some ⟨w.heap.size + 1 + 1 + 1 + 1 + 1 + 1, 0, none⟩) 1 1, .int .i64 0, .int .i64 30, .bool true] : Array Value)[j]? := fun j => (c6 (w.heap.size + 1 + 1 + 1 + 1 + 1 + 1 + 1) j (by omega) (by omega)).trans (m5 j)
  have g6 : W6.cell? ⟨w.heap.size + 1 + 1 + 1 + 1 + 1 + 1, 0, none⟩ = some (.int .i64 3) := (c6 (w.heap.size + 1 + 1 + 1 + 1 + 1 + 1) 0 (by omega) (by omega)).trans g5
  have Q6 : Kp (· = c) w W6 := (Q4.trans q5 fun _ _ h => h).trans q6 fun _ _ h => h
  have hb06 : Below c w W6 := Q6.below (by omega) (fun i hi (e : i = c) => by omega)
  go_wp2_with fail
  refine Calls.mono (check_X c (a + 1) (by omega) (by omega) _ (ht.kp Q6 hgc1 hgc2 hgc3 hgc4) cc6 (by omega) cf6) ?_
  rintro _ W7 ⟨rfl, q7, cc7, cf7⟩
  have z7 : W6.heap.size ≤ W7.heap.size := q7.size
  have n7 : ∀ j, W7.cell? ⟨w.heap.size, j, none⟩ = (#[.int .i64 3, .string ⟨#[65]⟩, .int .i64 0, .int .i64 0, .slice (some ⟨KX, 0, none⟩) 1 1] : Array Value)[j]? := fun j => (q7.cell (by omega) (show w.heap.size ≠ c by omega)).trans (n6 j)
  go_wp2_with fail
  rw [rounds_succ]
  go_wp2_with fail
  go_ret
  exact ⟨rfl, Q6.trans q7 fun _ _ h => h, by rw [cc7]; congr 2; omega, cf7⟩

set_option maxRecDepth 100000 in
set_option maxHeartbeats 4000000 in
theorem check_P {gw ow gs os : Nat} (c : Nat) (a : Int) (ha : 0 ≤ a) (ha2 : a < 998) (KA KX : Nat) (w : World) (ht : TabsAt gw ow gs os w) (hgc1 : gw ≠ c) (hgc2 : gs ≠ c) (hgc3 : 2 ≠ c) (hgc4 : 3 ≠ c) (hc : w.cell? ⟨c, 0, none⟩ = some (.int .i64 a)) (hcl : c < w.heap.size) (hf : w.frozen? ⟨c, 0, none⟩ = false) (hK : KA < w.heap.size) (hKc : KA ≠ c) (k0 : w.cell? ⟨KA, 0, none⟩ = some (.int .i64 3)) (k1 : w.cell? ⟨KA, 1, none⟩ = some (.string ⟨#[65]⟩)) (k2 : w.cell? ⟨KA, 2, none⟩ = some (.int .i64 0)) (k3 : w.cell? ⟨KA, 3, none⟩ = some (.int .i64 0)) (k4 : w.cell? ⟨KA, 4, none⟩ = some (.slice (some ⟨KX, 0, none⟩) 1 1)) (hX : KX < w.heap.size) (hXc : KX ≠ c) (x0 : w.cell? ⟨KX, 0, none⟩ = some (.int .i64 8)) (x1 : w.cell? ⟨KX, 1, none⟩ = some (.string ⟨#[120]⟩)) (x2 : w.cell? ⟨KX, 2, none⟩ = some (.int .i64 0)) (x3 : w.cell? ⟨KX, 3, none⟩ = some (.int .i64 0)) (x4 : w.cell? ⟨KX, 4, none⟩ = some (.slice none 0 0)) :
    Calls Tryz.prog 32 #[.pointer (some ⟨c, 0, none⟩), .agg #[.int .i64 1, .string ⟨#[]⟩, .int .i64 0, .int .i64 0, .slice (some ⟨KA, 0, none⟩) 1 1], .int .i64 0, .int .i64 1] w fun e w' => e = .returned .nilIface ∧ Kp (· = c) w w' ∧ w'.cell? ⟨c, 0, none⟩ = some (.int .i64 (a + 3)) ∧ w'.frozen? ⟨c, 0, none⟩ = false := by
  go_enter Tryz.func32, Tryz.ntmps32
  go_wp2_with fail
  refine Calls.mono (shapeOf_P KA _) ?_
  rintro _ _ ⟨rfl, rfl⟩
  go_wp2_with fail
  obtain ⟨W1, hW1⟩ : ∃ W, W = ((((((((w.alloc (.cells #[.int .i64 1, .string ⟨#[]⟩, .int .i64 0, .int .i64 0, .slice (some ⟨KA, 0, none⟩) 1 1] 30)).alloc (.cells #[.int .i64 1, .string ⟨#[]⟩, .int .i64 0, .int .i64 0, .slice (some ⟨KA, 0, none⟩) 1 1] 30)).alloc (.cells #[.slice (some ⟨w.heap.size + 1 + 1 + 1 + 1 + 1, 0, none⟩) 1 1, .int .i64 0, .int .i64 (-1), .bool false] 145)).alloc (.cells #[.int .i64 1, .string ⟨#[]⟩, .int .i64 0, .int .i64 0, .slice (some ⟨KA, 0, none⟩) 1 1] 30)).alloc (.cells #[.slice (some ⟨w.heap.size + 1 + 1 + 1 + 1 + 1, 0, none⟩) 1 1, .int .i64 0, .int .i64 (-1), .bool false] 145)).alloc (.cells #[.int .i64 2] 96)).alloc (.cells #[.slice (some ⟨w.heap.size + 1 + 1 + 1 + 1 + 1, 0, none⟩) 1 1, .int .i64 0, .int .i64 (-1), .bool false] 145)).alloc (.cells #[.slice (some ⟨w.heap.size + 1 + 1 + 1 + 1 + 1, 0, none⟩) 1 1, .int .i64 0, .int .i64 (-1), .bool false] 145)) := ⟨_, rfl⟩
  have b1 : Below w.heap.size w W1 := by rw [hW1]; repeat (first | exact Below.refl _ _ | refine Below.alloc ?_ (by simp <;> omega) _)
  have z1 : W1.heap.size = w.heap.size + 1 + 1 + 1 + 1 + 1 + 1 + 1 + 1 := by rw [hW1]; simp
  have n1 : ∀ j, W1.cell? ⟨w.heap.size, j, none⟩ = (#[.int .i64 1, .string ⟨#[]⟩, .int .i64 0, .int .i64 0, .slice (some ⟨KA, 0, none⟩) 1 1] : Array Value)[j]? := fun j => by
    rw [hW1, World.cell?_alloc_lt _ _ _ (by simp <;> omega), World.cell?_alloc_lt _ _ _ (by simp <;> omega), World.cell?_alloc_lt _ _ _ (by simp <;> omega), World.cell?_alloc_lt _ _ _ (by simp <;> omega), World.cell?_alloc_lt _ _ _ (by simp <;> omega), World.cell?_alloc_lt _ _ _ (by simp <;> omega), World.cell?_alloc_lt _ _ _ (by simp <;> omega), World.cell?_alloc_new]
  have m1 : ∀ j, W1.cell? ⟨w.heap.size + 1 + 1 + 1 + 1 + 1 + 1 + 1, j, none⟩ = (#[.slice (some ⟨w.heap.size + 1 + 1 + 1 + 1 + 1, 0, none⟩) 1 1, .int .i64 0, .int .i64 (-1), .bool false] : Array Value)[j]? := fun j => by
    rw [hW1]; rw [World.cell?_alloc_at _ _ _ _ (by simp)]
  have g1 : W1.cell? ⟨w.heap.size + 1 + 1 + 1 + 1 + 1, 0, none⟩ = some (.int .i64 2) := by
    rw [hW1, World.cell?_alloc_lt _ _ _ (by simp <;> omega), World.cell?_alloc_lt _ _ _ (by simp <;> omega), World.cell?_alloc_at _ _ _ _ (by simp)]; rfl
  rw [← hW1]
  clear hW1
  refine Calls.mono (fault_P c a (by omega) KA _ _ ((b1.cell (p := ⟨c, 0, none⟩) hcl).trans hc) (Nat.lt_of_lt_of_le hcl b1.size)) ?_
  rintro _ W2 ⟨rfl, hb2⟩
  have q2 : Kp (· = c) W1 W2 := Kp.of hb2
  have z2 : W1.heap.size ≤ W2.heap.size := q2.size
  have c2 : ∀ b j, b < W1.heap.size → b ≠ c → W2.cell? ⟨b, j, none⟩ = W1.cell? ⟨b, j, none⟩ := fun b j hb hn => q2.cell hb hn
  have cc2 : W2.cell? ⟨c, 0, none⟩ = some (.int .i64 a) := (hb2.cell (p := ⟨c, 0, none⟩) (Nat.lt_of_lt_of_le hcl b1.size)).trans ((b1.cell (p := ⟨c, 0, none⟩) hcl).trans hc)
  have cf2 : W2.frozen? ⟨c, 0, none⟩ = false := (hb2.frozen (p := ⟨c, 0, none⟩) (Nat.lt_of_lt_of_le hcl b1.size)).trans ((b1.frozen (p := ⟨c, 0, none⟩) hcl).trans hf)
  have n2 : ∀ j, W2.cell? ⟨w.heap.size, j, none⟩ = (#[.int .i64 1, .string ⟨#[]⟩, .int .i64 0, .int .i64 0, .slice (some ⟨KA, 0, none⟩) 1 1] : Array Value)[j]? := fun j => (c2 w.heap.size j (by omega) (by omega)).trans (n1 j)
  have m2 : ∀ j, W2.cell? ⟨w.heap.size + 1 + 1 + 1 + 1 + 1 + 1 + 1, j, none⟩ = (#[.slice (some ⟨w.heap.size + 1 + 1 + 1 + 1 + 1, 0, none⟩) 1 1, .int .i64 0, .int .i64 (-1), .bool false] : Array Value)[j]? := fun j => (c2 (w.heap.size + 1 + 1 + 1 + 1 + 1 + 1 + 1) j (by omega) (by omega)).trans (m1 j)
  have g2 : W2.cell? ⟨w.heap.size + 1 + 1 + 1 + 1 + 1, 0, none⟩ = some (.int .i64 2) := (c2 (w.heap.size + 1 + 1 + 1 + 1 + 1) 0 (by omega) (by omega)).trans g1
  go_wp2_with fail
  obtain ⟨W3, hW3⟩ : ∃ W, W = W2.setCell ⟨c, 0, none⟩ (.int .i64 (a + 1)) := ⟨_, rfl⟩
  rw [← hW3]
  have q3 : Kp (· = c) W2 W3 := by rw [hW3]; exact Kp.set _ _ _ _ rfl
  have z3 : W2.heap.size ≤ W3.heap.size := q3.size
  have c3 : ∀ b j, b < W2.heap.size → b ≠ c → W3.cell? ⟨b, j, none⟩ = W2.cell? ⟨b, j, none⟩ := fun b j hb hn => q3.cell hb hn
  have cc3 : W3.cell? ⟨c, 0, none⟩ = some (.int .i64 (a + 1)) := by rw [hW3]; exact World.cell?_setCell_same _ _ _ cc2
  have cf3 : W3.frozen? ⟨c, 0, none⟩ = false := by rw [hW3]; simpa using cf2
  clear hW3
  have n3 : ∀ j, W3.cell? ⟨w.heap.size, j, none⟩ = (#[.int .i64 1, .string ⟨#[]⟩, .int .i64 0, .int .i64 0, .slice (some ⟨KA, 0, none⟩) 1 1] : Array Value)[j]? := fun j => (c3 w.heap.size j (by omega) (by omega)).trans (n2 j)
  have m3 : ∀ j, W3.cell? ⟨w.heap.size + 1 + 1 + 1 + 1 + 1 + 1 + 1, j, none⟩ = (#[.slice (some ⟨w.heap.size + 1 + 1 + 1 + 1 + 1, 0, none⟩) 1 1, .int .i64 0, .int .i64 (-1), .bool false] : Array Value)[j]? := fun j => (c3 (w.heap.size + 1 + 1 + 1 + 1 + 1 + 1 + 1) j (by omega) (by omega)).trans (m2 j)
  have g3 : W3.cell? ⟨w.heap.size + 1 + 1 + 1 + 1 + 1, 0, none⟩ = some (.int .i64 2) := (c3 (w.heap.size + 1 + 1 + 1 + 1 + 1) 0 (by omega) (by omega)).trans g2
  refine Calls.mono (second_P KA KX _ (by omega) ((c3 KA 0 (by omega) hKc).trans ((c2 KA 0 (by omega) hKc).trans ((b1.cell (p := ⟨KA, 0, none⟩) hK).trans k0))) ((c3 KA 1 (by omega) hKc).trans ((c2 KA 1 (by omega) hKc).trans ((b1.cell (p := ⟨KA, 1, none⟩) hK).trans k1))) ((c3 KA 2 (by omega) hKc).trans ((c2 KA 2 (by omega) hKc).trans ((b1.cell (p := ⟨KA, 2, none⟩) hK).trans k2))) ((c3 KA 3 (by omega) hKc).trans ((c2 KA 3 (by omega) hKc).trans ((b1.cell (p := ⟨KA, 3, none⟩) hK).trans k3))) ((c3 KA 4 (by omega) hKc).trans ((c2 KA 4 (by omega) hKc).trans ((b1.cell (p := ⟨KA, 4, none⟩) hK).trans k4)))) ?_
  rintro _ W4 ⟨rfl, hb4⟩
  have q4 : Kp (· = c) W3 W4 := Kp.of hb4
  have z4 : W3.heap.size ≤ W4.heap.size := q4.size
  have c4 : ∀ b j, b < W3.heap.size → b ≠ c → W4.cell? ⟨b, j, none⟩ = W3.cell? ⟨b, j, none⟩ := fun b j hb hn => q4.cell hb hn
  have cc4 : W4.cell? ⟨c, 0, none⟩ = some (.int .i64 (a + 1)) := (hb4.cell (p := ⟨c, 0, none⟩) (by show c < W3.heap.size; omega)).trans cc3
  have cf4 : W4.frozen? ⟨c, 0, none⟩ = false := (hb4.frozen (p := ⟨c, 0, none⟩) (by show c < W3.heap.size; omega)).trans cf3
  have n4 : ∀ j, W4.cell? ⟨w.heap.size, j, none⟩ = (#[.int .i64 1, .string ⟨#[]⟩, .int .i64 0, .int .i64 0, .slice (some ⟨KA, 0, none⟩) 1 1] : Array Value)[j]? := fun j => (c4 w.heap.size j (by omega) (by omega)).trans (n3 j)
  have m4 : ∀ j, W4.cell? ⟨w.heap.size + 1 + 1 + 1 + 1 + 1 + 1 + 1, j, none⟩ = (#[.slice (some ⟨w.heap.size + 1 + 1 + 1 + 1 + 1, 0, none⟩) 1 1, .int .i64 0, .int .i64 (-1), .bool false] : Array Value)[j]? := fun j => (c4 (w.heap.size + 1 + 1 + 1 + 1 + 1 + 1 + 1) j (by omega) (by omega)).trans (m3 j)
  have g4 : W4.cell? ⟨w.heap.size + 1 + 1 + 1 + 1 + 1, 0, none⟩ = some (.int .i64 2) := (c4 (w.heap.size + 1 + 1 + 1 + 1 + 1) 0 (by omega) (by omega)).trans g3
  have Q4 : Kp (· = c) w W4 := (((Kp.of b1).trans q2 fun _ _ h => h).trans q3 fun _ _ h => h).trans q4 fun _ _ h => h
  have K0 : W4.cell? ⟨KA, 0, none⟩ = some (.int .i64 3) := (Q4.cell hK hKc).trans k0
  have K1 : W4.cell? ⟨KA, 1, none⟩ = some (.string ⟨#[65]⟩) := (Q4.cell hK hKc).trans k1
  have K2 : W4.cell? ⟨KA, 2, none⟩ = some (.int .i64 0) := (Q4.cell hK hKc).trans k2
  have K3 : W4.cell? ⟨KA, 3, none⟩ = some (.int .i64 0) := (Q4.cell hK hKc).trans k3
  have K4 : W4.cell? ⟨KA, 4, none⟩ = some (.slice (some ⟨KX, 0, none⟩) 1 1) := (Q4.cell hK hKc).trans k4
  have hK4 : KA < W4.heap.size := by omega
  have hs4 : w.heap.size + 1 + 1 + 1 + 1 + 1 + 1 + 1 < W4.heap.size := by omega
  have hn4 : w.heap.size < W4.heap.size := by omega
  go_wp2_with fail
  refine wp_loop_rounds 2 ?_
  rw [rounds_succ]
  go_wp2_with fail
  obtain ⟨W5, hW5⟩ : ∃ W, W = W4.alloc (.cells #[.int .i64 3, .string ⟨#[65]⟩, .int .i64 0, .int .i64 0, .slice (some ⟨KX, 0, none⟩) 1 1] 30) := ⟨_, rfl⟩
  rw [← hW5]
  have hb5 : Below W4.heap.size W4 W5 := by rw [hW5]; exact below1 _ _
  have q5 : Kp (· = c) W4 W5 := Kp.of hb5
  have z5 : W5.heap.size = W4.heap.size + 1 := by rw [hW5]; simp
  have c5 : ∀ b j, b < W4.heap.size → b ≠ c → W5.cell? ⟨b, j, none⟩ = W4.cell? ⟨b, j, none⟩ := fun b j hb hn => q5.cell hb hn
  have kb5 : ∀ j, W5.cell? ⟨W4.heap.size, j, none⟩ = (#[.int .i64 3, .string ⟨#[65]⟩, .int .i64 0, .int .i64 0, .slice (some ⟨KX, 0, none⟩) 1 1] : Array Value)[j]? := fun j => by rw [hW5, World.cell?_alloc_new]
  have cc5 : W5.cell? ⟨c, 0, none⟩ = some (.int .i64 (a + 1)) := (hb5.cell (p := ⟨c, 0, none⟩) (by show c < W4.heap.size; omega)).trans cc4
  have cf5 : W5.frozen? ⟨c, 0, none⟩ = false := (hb5.frozen (p := ⟨c, 0, none⟩) (by show c < W4.heap.size; omega)).trans cf4
  clear hW5
  have n5 : ∀ j, W5.cell? ⟨w.heap.size, j, none⟩ = (#[.int .i64 1, .string ⟨#[]⟩, .int .i64 0, .int .i64 0, .slice (some ⟨KA, 0, none⟩) 1 1] : Array Value)[j]? := fun j => (c5 w.heap.size j (by omega) (by omega)).trans (n4 j)
  have m5 : ∀ j, W5.cell? ⟨w.heap.size + 1 + 1 + 1 + 1 + 1 + 1 + 1, j, none⟩ = (#[.slice (some ⟨w.heap.size + 1 + 1 + 1 + 1 + 1, 0, none⟩) 1 1, .int .i64 0, .int .i64 (-1), .bool false] : Array Value)[j]? := fun j => (c5 (w.heap.size + 1 + 1 + 1 + 1 + 1 + 1 + 1) j (by omega) (by omega)).trans (m4 j)
  have g5 : W5.cell? ⟨w.heap.size + 1 + 1 + 1 + 1 + 1, 0, none⟩ = some (.int .i64 2) := (c5 (w.heap.size + 1 + 1 + 1 + 1 + 1) 0 (by omega) (by omega)).trans g4
  refine Calls.mono (role_any _ _ _ _ _ _ (by omega) g5) ?_
  rintro _ W6 ⟨rfl, hb6⟩
  have q6 : Kp (· = c) W5 W6 := Kp.of hb6
  have z6 : W5.heap.size ≤ W6.heap.size := q6.size
  have c6 : ∀ b j, b < W5.heap.size → b ≠ c → W6.cell? ⟨b, j, none⟩ = W5.cell? ⟨b, j, none⟩ := fun b j hb hn => q6.cell hb hn
  have cc6 : W6.cell? ⟨c, 0, none⟩ = some (.int .i64 (a + 1)) := (hb6.cell (p := ⟨c, 0, none⟩) (by show c < W5.heap.size; omega)).trans cc5
  have cf6 : W6.frozen? ⟨c, 0, none⟩ = false := (hb6.frozen (p := ⟨c, 0, none⟩) (by show c < W5.heap.size; omega)).trans cf5
  have kb6 : ∀ j, W6.cell? ⟨W4.heap.size, j, none⟩ = (#[.int .i64 3, .string ⟨#[65]⟩, .int .i64 0, .int .i64 0, .slice (some ⟨KX, 0, none⟩) 1 1] : Array Value)[j]? := fun j => (c6 W4.heap.size j (by omega) (by omega)).trans (kb5 j)
  have n6 : ∀ j, W6.cell? ⟨w.heap.size, j, none⟩ = (#[.int .i64 1, .string ⟨#[]⟩, .int .i64 0, .int .i64 0, .slice (some ⟨KA, 0, none⟩) 1 1] : Array Value)[j]? := fun j => (c6 w.heap.size j (by omega) (by omega)).trans (n5 j)
  have m6 : ∀ j, W6.cell? ⟨w.heap.size + 1 + 1 + 1 + 1 + 1 + 1 + 1, j, none⟩ = (#[.slice (some ⟨w.heap.size + 1 + 1 + 1 + 1 + 1, 0, none⟩) 1 1, .int .i64 0, .int .i64 (-1), .bool false] : Array Value)[j]? := fun j => (c6 (w.heap.size + 1 + 1 + 1 + 1 + 1 + 1 + 1) j (by omega) (by omega)).trans (m5 j)
  have g6 : W6.cell? ⟨w.heap.size + 1 + 1 + 1 + 1 + 1, 0, none⟩ = some (.int .i64 2) := (c6 (w.heap.size + 1 + 1 + 1 + 1 + 1) 0 (by omega) (by omega)).trans g5
  have Q6 : Kp (· = c) w W6 := (Q4.trans q5 fun _ _ h => h).trans q6 fun _ _ h => h
  have hb06 : Below c w W6 := Q6.below (by omega) (fun i hi (e : i = c) => by omega)
  go_wp2_with fail
  have X0 : W6.cell? ⟨KX, 0, none⟩ = some (.int .i64 8) := (Q6.cell hX hXc).trans x0
  have X1 : W6.cell? ⟨KX, 1, none⟩ = some (.string ⟨#[120]⟩) := (Q6.cell hX hXc).trans x1
  have X2 : W6.cell? ⟨KX, 2, none⟩ = some (.int .i64 0) := (Q6.cell hX hXc).trans x2
  have X3 : W6.cell? ⟨KX, 3, none⟩ = some (.int .i64 0) := (Q6.cell hX hXc).trans x3
  have X4 : W6.cell? ⟨KX, 4, none⟩ = some (.slice none 0 0) := (Q6.cell hX hXc).trans x4
  refine Calls.mono (check_A c (a + 1) (by omega) (by omega) KX _ (ht.kp Q6 hgc1 hgc2 hgc3 hgc4) hgc1 hgc2 hgc3 hgc4 cc6 (by omega) cf6 (by omega) hXc X0 X1 X2 X3 X4) ?_
  rintro _ W7 ⟨rfl, q7, cc7, cf7⟩
  have z7 : W6.heap.size ≤ W7.heap.size := q7.size
  have n7 : ∀ j, W7.cell? ⟨w.heap.size, j, none⟩ = (#[.int .i64 1, .string ⟨#[]⟩, .int .i64 0, .int .i64 0, .slice (some ⟨KA, 0, none⟩) 1 1] : Array Value)[j]? := fun j => (q7.cell (by omega) (show w.heap.size ≠ c by omega)).trans (n6 j)
  go_wp2_with fail
  rw [rounds_succ]
  go_wp2_with fail
  go_ret
  exact ⟨rfl, Q6.trans q7 fun _ _ h => h, by rw [cc7]; congr 2; omega, cf7⟩

set_option maxRecDepth 100000 in
set_option maxHeartbeats 4000000 in
theorem ownRole_P (KA : Nat) (w : World) :
    Calls Tryz.prog 33 #[.agg #[.int .i64 1, .string ⟨#[]⟩, .int .i64 0, .int .i64 0, .slice (some ⟨KA, 0, none⟩) 1 1]] w fun e w' => e = .returned (.int .i64 0) ∧ Below w.heap.size w w' := by
  go_enter Tryz.func33, Tryz.ntmps33
  go_wp2_with fail
  go_ret
  exact ⟨rfl, below1 w _⟩
set_option maxRecDepth 100000 in
set_option maxHeartbeats 4000000 in
theorem right_small {gw ow gs os : Nat} (KA KX : Nat) (w : World) (ht : TabsAt gw ow gs os w) (hA : KA < w.heap.size) (hX : KX < w.heap.size) (a0 : w.cell? ⟨KA, 0, none⟩ = some (.int .i64 3)) (a1 : w.cell? ⟨KA, 1, none⟩ = some (.string ⟨#[65]⟩)) (a2 : w.cell? ⟨KA, 2, none⟩ = some (.int .i64 0)) (a3 : w.cell? ⟨KA, 3, none⟩ = some (.int .i64 0)) (a4 : w.cell? ⟨KA, 4, none⟩ = some (.slice (some ⟨KX, 0, none⟩) 1 1)) (x0 : w.cell? ⟨KX, 0, none⟩ = some (.int .i64 8)) (x1 : w.cell? ⟨KX, 1, none⟩ = some (.string ⟨#[120]⟩)) (x2 : w.cell? ⟨KX, 2, none⟩ = some (.int .i64 0)) (x3 : w.cell? ⟨KX, 3, none⟩ = some (.int .i64 0)) (x4 : w.cell? ⟨KX, 4, none⟩ = some (.slice none 0 0)) :
    Calls Tryz.prog 17 #[.agg #[.int .i64 1, .string ⟨#[]⟩, .int .i64 0, .int .i64 0, .slice (some ⟨KA, 0, none⟩) 1 1]] w fun e w' => e = .returned .nilIface ∧ Below w.heap.size w w' := by
  have h6 := ht.two
  have hgw := ht.gwLt
  have hgs := ht.gsLt
  have hB2 := below2 w (.cells #[.int .i64 1, .string ⟨#[]⟩, .int .i64 0, .int .i64 0, .slice (some ⟨KA, 0, none⟩) 1 1] 30) (.cells #[.int .i64 0] 94)
  have hcc : ((w.alloc (.cells #[.int .i64 1, .string ⟨#[]⟩, .int .i64 0, .int .i64 0, .slice (some ⟨KA, 0, none⟩) 1 1] 30)).alloc (.cells #[.int .i64 0] 94)).cell? ⟨w.heap.size + 1, 0, none⟩ = some (.int .i64 0) ∧ ((w.alloc (.cells #[.int .i64 1, .string ⟨#[]⟩, .int .i64 0, .int .i64 0, .slice (some ⟨KA, 0, none⟩) 1 1] 30)).alloc (.cells #[.int .i64 0] 94)).frozen? ⟨w.heap.size + 1, 0, none⟩ = false := by simp
  have HC : Hid (∀ W, Below (w.heap.size + 2) ((w.alloc (.cells #[.int .i64 1, .string ⟨#[]⟩, .int .i64 0, .int .i64 0, .slice (some ⟨KA, 0, none⟩) 1 1] 30)).alloc (.cells #[.int .i64 0] 94)) W → Calls Tryz.prog 32 #[.pointer (some ⟨w.heap.size + 1, 0, none⟩), .agg #[.int .i64 1, .string ⟨#[]⟩, .int .i64 0, .int .i64 0, .slice (some ⟨KA, 0, none⟩) 1 1], .int .i64 0, .int .i64 1] W fun e w' => e = .returned .nilIface ∧ Below (w.heap.size + 1) ((w.alloc (.cells #[.int .i64 1, .string ⟨#[]⟩, .int .i64 0, .int .i64 0, .slice (some ⟨KA, 0, none⟩) 1 1] 30)).alloc (.cells #[.int .i64 0] 94)) w') := fun W hW => by
    have hz := hW.size
    simp only [World.size_alloc] at hz
    exact Calls.mono (check_P (w.heap.size + 1) 0 (by omega) (by omega) KA KX W (ht.below (Nat.le_refl _) (hB2.trans (hW.mono (by omega)))) (by omega) (by omega) (by omega) (by omega) ((hW.cell (p := ⟨w.heap.size + 1, 0, none⟩) (by simp)).trans hcc.1) (by omega) ((hW.frozen (p := ⟨w.heap.size + 1, 0, none⟩) (by simp)).trans hcc.2)
      (by omega) (by omega) ((hW.cell (p := ⟨KA, 0, none⟩) (by show KA < w.heap.size + 2; omega)).trans ((hB2.cell (p := ⟨KA, 0, none⟩) hA).trans a0)) ((hW.cell (p := ⟨KA, 1, none⟩) (by show KA < w.heap.size + 2; omega)).trans ((hB2.cell (p := ⟨KA, 1, none⟩) hA).trans a1)) ((hW.cell (p := ⟨KA, 2, none⟩) (by show KA < w.heap.size + 2; omega)).trans ((hB2.cell (p := ⟨KA, 2, none⟩) hA).trans a2)) ((hW.cell (p := ⟨KA, 3, none⟩) (by show KA < w.heap.size + 2; omega)).trans ((hB2.cell (p := ⟨KA, 3, none⟩) hA).trans a3)) ((hW.cell (p := ⟨KA, 4, none⟩) (by show KA < w.heap.size + 2; omega)).trans ((hB2.cell (p := ⟨KA, 4, none⟩) hA).trans a4)) (by omega) (by omega) ((hW.cell (p := ⟨KX, 0, none⟩) (by show KX < w.heap.size + 2; omega)).trans ((hB2.cell (p := ⟨KX, 0, none⟩) hX).trans x0)) ((hW.cell (p := ⟨KX, 1, none⟩) (by show KX < w.heap.size + 2; omega)).trans ((hB2.cell (p := ⟨KX, 1, none⟩) hX).trans x1)) ((hW.cell (p := ⟨KX, 2, none⟩) (by show KX < w.heap.size + 2; omega)).trans ((hB2.cell (p := ⟨KX, 2, none⟩) hX).trans x2)) ((hW.cell (p := ⟨KX, 3, none⟩) (by show KX < w.heap.size + 2; omega)).trans ((hB2.cell (p := ⟨KX, 3, none⟩) hX).trans x3)) ((hW.cell (p := ⟨KX, 4, none⟩) (by show KX < w.heap.size + 2; omega)).trans ((hB2.cell (p := ⟨KX, 4, none⟩) hX).trans x4))) fun e w' h => ⟨h.1, (hW.mono (by omega)).trans (h.2.1.below (by omega) fun i hi (q : i = w.heap.size + 1) => by omega)⟩
  have HK : Hid (∀ W, Below (w.heap.size + 1) ((w.alloc (.cells #[.int .i64 1, .string ⟨#[]⟩, .int .i64 0, .int .i64 0, .slice (some ⟨KA, 0, none⟩) 1 1] 30)).alloc (.cells #[.int .i64 0] 94)) W → (W.cell? ⟨w.heap.size, 0, none⟩ = some (.int .i64 1) ∧ W.cell? ⟨w.heap.size, 1, none⟩ = some (.string ⟨#[]⟩) ∧ W.cell? ⟨w.heap.size, 2, none⟩ = some (.int .i64 0) ∧ W.cell? ⟨w.heap.size, 3, none⟩ = some (.int .i64 0) ∧ W.cell? ⟨w.heap.size, 4, none⟩ = some (.slice (some ⟨KA, 0, none⟩) 1 1))) := fun W hW => by
    have e : ∀ j, W.cell? ⟨w.heap.size, j, none⟩ = (#[.int .i64 1, .string ⟨#[]⟩, .int .i64 0, .int .i64 0, .slice (some ⟨KA, 0, none⟩) 1 1] : Array Value)[j]? := fun j => (hW.cell (p := ⟨w.heap.size, j, none⟩) (Nat.lt_succ_self _)).trans (by rw [World.cell?_alloc_lt _ _ _ (by simp <;> omega), World.cell?_alloc_new])
    exact ⟨e 0, e 1, e 2, e 3, e 4⟩
  clear hcc
  go_enter Tryz.func17, Tryz.ntmps17
  go_wp2_with fail
  go_region_held3 (fun W => W.cell? ⟨w.heap.size, 0, none⟩ = some (.int .i64 1) ∧ W.cell? ⟨w.heap.size, 1, none⟩ = some (.string ⟨#[]⟩) ∧ W.cell? ⟨w.heap.size, 2, none⟩ = some (.int .i64 0) ∧ W.cell? ⟨w.heap.size, 3, none⟩ = some (.int .i64 0) ∧ W.cell? ⟨w.heap.size, 4, none⟩ = some (.slice (some ⟨KA, 0, none⟩) 1 1))
    (first | exact HK.out _ hbF | exact HK.out _ (hbA.mono (by omega)) | (simp; done))
    (first
      | (go_at_call 33; refine (ownRole_P KA _).mono ?_; rintro e w1 ⟨rfl, hb0⟩; have hbA : Below (w.heap.size + 2) ((w.alloc (.cells #[.int .i64 1, .string ⟨#[]⟩, .int .i64 0, .int .i64 0, .slice (some ⟨KA, 0, none⟩) 1 1] 30)).alloc (.cells #[.int .i64 0] 94)) w1 := ((Below.refl _ _).drew).trans (hb0.mono (by simp)))
      | (go_at_call 32; refine (HC.out _ hbA).mono ?_; rintro e w2 ⟨rfl, hbF⟩))
  go_wp2_with fail
  go_ret
  exact ⟨rfl, hB2.trans (hbF.mono (by omega))⟩

end Go.Proofs.YtaboeocgoocgfaaGreatDoor
