/-
  .
-/
import Derived.Test.YtdbijkgnddcneaaGreatDoorLxI2J
namespace Go.Proofs.YtdbijkgnddcneaaGreatDoor.Lx
open Go.RowKit Go.ChangeMaps
set_option maxRecDepth 100000
set_option maxHeartbeats 4000000
structure TreeAt (KP KS KT : Nat) (w : World) : Prop where
 p : w.heap[KP]? = some (.cells #[.int .i64 3, .string ⟨#[83]⟩, .int .i64 0, .int .i64 0, .slice (some ⟨KS, 0, none⟩) 2 2, .int .i64 3, .string ⟨#[84]⟩, .int .i64 0, .int .i64 0, .slice (some ⟨KT, 0, none⟩) 1 1] 98)
 s : w.heap[KS]? = some (.cells #[.int .i64 8, .string ⟨#[102]⟩, .int .i64 0, .int .i64 0, .slice none 0 0, .int .i64 8, .string ⟨#[103]⟩, .int .i64 0, .int .i64 0, .slice none 0 0] 98)
 t : w.heap[KT]? = some (.cells #[.int .i64 8, .string ⟨#[97]⟩, .int .i64 0, .int .i64 0, .slice none 0 0] 98)
theorem TreeAt.below {KP KS KT : Nat} {w w' : World} (h : TreeAt KP KS KT w) (hb : Below w.heap.size w w') : TreeAt KP KS KT w' :=
 ⟨(hb.block _ (heap_lt h.p)).trans h.p, (hb.block _ (heap_lt h.s)).trans h.s, (hb.block _ (heap_lt h.t)).trans h.t⟩
theorem check_P {gw ow gs os : Nat} (c : Nat) (a : Int) (ha : 0 ≤ a) (ha2 : a < 990) (KP KS KT : Nat) (w : World) (ht : TabsAt gw ow gs os w) (hgc1 : gw ≠ c) (hgc2 : gs ≠ c) (hgc3 : 6 ≠ c) (hgc4 : 7 ≠ c) (hc : w.cell? ⟨c, 0, none⟩ = some (.int .i64 a)) (hcl : c < w.heap.size) (hf : w.frozen? ⟨c, 0, none⟩ = false) (hk : w.heap[KP]? = some (.cells #[.int .i64 3, .string ⟨#[83]⟩, .int .i64 0, .int .i64 0, .slice (some ⟨KS, 0, none⟩) 2 2, .int .i64 3, .string ⟨#[84]⟩, .int .i64 0, .int .i64 0, .slice (some ⟨KT, 0, none⟩) 1 1] 98)) (hkc : KP ≠ c) (hs : w.heap[KS]? = some (.cells #[.int .i64 8, .string ⟨#[102]⟩, .int .i64 0, .int .i64 0, .slice none 0 0, .int .i64 8, .string ⟨#[103]⟩, .int .i64 0, .int .i64 0, .slice none 0 0] 98)) (hsc : KS ≠ c) (htT : w.heap[KT]? = some (.cells #[.int .i64 8, .string ⟨#[97]⟩, .int .i64 0, .int .i64 0, .slice none 0 0] 98)) (htc : KT ≠ c) :
  Calls Tryz.prog 103 #[.pointer (some ⟨c, 0, none⟩), .agg #[.int .i64 1, .string ⟨#[]⟩, .int .i64 0, .int .i64 0, .slice (some ⟨KP, 0, none⟩) 2 2], .int .i64 0, .int .i64 1] w fun e w' => e = .returned .nilIface ∧ Kp (· = c) w w' ∧ w'.cell? ⟨c, 0, none⟩ = some (.int .i64 (a + 6)) ∧ w'.frozen? ⟨c, 0, none⟩ = false := by
 have hk_l := heap_lt hk
 have hs_l := heap_lt hs
 have ht_l := heap_lt htT
 go_enter Tryz.func103, Tryz.ntmps103
 go_wp2_with fail
 refine Calls.mono (shapeOf_P KP _) ?_
 rintro _ _ ⟨rfl, rfl⟩
 go_wp2_with fail
 obtain ⟨W1, hW1⟩ : ∃ W, W = ((((((((w.alloc (.cells #[.int .i64 1, .string ⟨#[]⟩, .int .i64 0, .int .i64 0, .slice (some ⟨KP, 0, none⟩) 2 2] 98)).alloc (.cells #[.int .i64 1, .string ⟨#[]⟩, .int .i64 0, .int .i64 0, .slice (some ⟨KP, 0, none⟩) 2 2] 98)).alloc (.cells #[.slice (some ⟨w.heap.size + 1 + 1 + 1 + 1 + 1, 0, none⟩) 1 1, .int .i64 0, .int .i64 (-1), .bool false] 237)).alloc (.cells #[.int .i64 1, .string ⟨#[]⟩, .int .i64 0, .int .i64 0, .slice (some ⟨KP, 0, none⟩) 2 2] 98)).alloc (.cells #[.slice (some ⟨w.heap.size + 1 + 1 + 1 + 1 + 1, 0, none⟩) 1 1, .int .i64 0, .int .i64 (-1), .bool false] 237)).alloc (.cells #[.int .i64 2] 190)).alloc (.cells #[.slice (some ⟨w.heap.size + 1 + 1 + 1 + 1 + 1, 0, none⟩) 1 1, .int .i64 0, .int .i64 (-1), .bool false] 237)).alloc (.cells #[.slice (some ⟨w.heap.size + 1 + 1 + 1 + 1 + 1, 0, none⟩) 1 1, .int .i64 0, .int .i64 (-1), .bool false] 237)) := ⟨_, rfl⟩
 have b1 : Below w.heap.size w W1 := by rw [hW1]; repeat (first | exact Below.refl _ _ | refine Below.alloc ?_ (by simp <;> omega) _)
 have z1 : W1.heap.size = w.heap.size + 1 + 1 + 1 + 1 + 1 + 1 + 1 + 1 := by rw [hW1]; simp
 have n1 : W1.heap[w.heap.size]? = some (.cells #[.int .i64 1, .string ⟨#[]⟩, .int .i64 0, .int .i64 0, .slice (some ⟨KP, 0, none⟩) 2 2] 98) := by rw [hW1, heap_old _ _ _ (by simp <;> omega), heap_old _ _ _ (by simp <;> omega), heap_old _ _ _ (by simp <;> omega), heap_old _ _ _ (by simp <;> omega), heap_old _ _ _ (by simp <;> omega), heap_old _ _ _ (by simp <;> omega), heap_old _ _ _ (by simp <;> omega)]; exact heap_new _ _ _ (by simp)
 have m1 : W1.heap[w.heap.size + 1 + 1 + 1 + 1 + 1 + 1 + 1]? = some (.cells #[.slice (some ⟨w.heap.size + 1 + 1 + 1 + 1 + 1, 0, none⟩) 1 1, .int .i64 0, .int .i64 (-1), .bool false] 237) := by rw [hW1]; exact heap_new _ _ _ (by simp)
 have g1 : W1.heap[w.heap.size + 1 + 1 + 1 + 1 + 1]? = some (.cells #[.int .i64 2] 190) := by rw [hW1, heap_old _ _ _ (by simp <;> omega), heap_old _ _ _ (by simp <;> omega)]; exact heap_new _ _ _ (by simp)
 have k1 : W1.heap[KP]? = some (.cells #[.int .i64 3, .string ⟨#[83]⟩, .int .i64 0, .int .i64 0, .slice (some ⟨KS, 0, none⟩) 2 2, .int .i64 3, .string ⟨#[84]⟩, .int .i64 0, .int .i64 0, .slice (some ⟨KT, 0, none⟩) 1 1] 98) := (b1.block _ hk_l).trans hk
 have s1 : W1.heap[KS]? = some (.cells #[.int .i64 8, .string ⟨#[102]⟩, .int .i64 0, .int .i64 0, .slice none 0 0, .int .i64 8, .string ⟨#[103]⟩, .int .i64 0, .int .i64 0, .slice none 0 0] 98) := (b1.block _ hs_l).trans hs
 have t1 : W1.heap[KT]? = some (.cells #[.int .i64 8, .string ⟨#[97]⟩, .int .i64 0, .int .i64 0, .slice none 0 0] 98) := (b1.block _ ht_l).trans htT
 rw [← hW1]
 clear hW1
 refine Calls.mono (fault_P c a (by omega) KP _ _ ((b1.cell (p := ⟨c, 0, none⟩) hcl).trans hc) (Nat.lt_of_lt_of_le hcl b1.size)) ?_
 rintro _ W2 ⟨rfl, hb2⟩
 have cc1 : W1.cell? ⟨c, 0, none⟩ = some (.int .i64 (a)) := (b1.cell (p := ⟨c, 0, none⟩) hcl).trans hc
 have cf1 : W1.frozen? ⟨c, 0, none⟩ = false := (b1.frozen (p := ⟨c, 0, none⟩) hcl).trans hf
 have q2 : Kp (· = c) W1 W2 := Kp.of hb2
 have z2 : W1.heap.size ≤ W2.heap.size := q2.size
 have x2 : ∀ b, b < W1.heap.size → b ≠ c → W2.heap[b]? = W1.heap[b]? := fun b hb hn => q2.block b hb hn
 have n2 : W2.heap[w.heap.size]? = some (.cells #[.int .i64 1, .string ⟨#[]⟩, .int .i64 0, .int .i64 0, .slice (some ⟨KP, 0, none⟩) 2 2] 98) := (x2 (w.heap.size) (by omega) (by omega)).trans n1
 have m2 : W2.heap[w.heap.size + 1 + 1 + 1 + 1 + 1 + 1 + 1]? = some (.cells #[.slice (some ⟨w.heap.size + 1 + 1 + 1 + 1 + 1, 0, none⟩) 1 1, .int .i64 0, .int .i64 (-1), .bool false] 237) := (x2 (w.heap.size + 1 + 1 + 1 + 1 + 1 + 1 + 1) (by omega) (by omega)).trans m1
 have g2 : W2.heap[w.heap.size + 1 + 1 + 1 + 1 + 1]? = some (.cells #[.int .i64 2] 190) := (x2 (w.heap.size + 1 + 1 + 1 + 1 + 1) (by omega) (by omega)).trans g1
 have k2 : W2.heap[KP]? = some (.cells #[.int .i64 3, .string ⟨#[83]⟩, .int .i64 0, .int .i64 0, .slice (some ⟨KS, 0, none⟩) 2 2, .int .i64 3, .string ⟨#[84]⟩, .int .i64 0, .int .i64 0, .slice (some ⟨KT, 0, none⟩) 1 1] 98) := (x2 (KP) (by omega) (by omega)).trans k1
 have s2 : W2.heap[KS]? = some (.cells #[.int .i64 8, .string ⟨#[102]⟩, .int .i64 0, .int .i64 0, .slice none 0 0, .int .i64 8, .string ⟨#[103]⟩, .int .i64 0, .int .i64 0, .slice none 0 0] 98) := (x2 (KS) (by omega) (by omega)).trans s1
 have t2 : W2.heap[KT]? = some (.cells #[.int .i64 8, .string ⟨#[97]⟩, .int .i64 0, .int .i64 0, .slice none 0 0] 98) := (x2 (KT) (by omega) (by omega)).trans t1
 clear x2 n1 m1 g1 k1 s1 t1
 have cc2 : W2.cell? ⟨c, 0, none⟩ = some (.int .i64 (a)) := (hb2.cell (p := ⟨c, 0, none⟩) (by show c < W1.heap.size; omega)).trans cc1
 have cf2 : W2.frozen? ⟨c, 0, none⟩ = false := (hb2.frozen (p := ⟨c, 0, none⟩) (by show c < W1.heap.size; omega)).trans cf1
 clear cc1 cf1
 have nc := (cells_of n2).1
 have mc := (cells_of m2).1
 go_wp2_with fail
 clear nc mc
 obtain ⟨W3, hW3⟩ : ∃ W, W = W2.setCell ⟨c, 0, none⟩ (.int .i64 (a + 1)) := ⟨_, rfl⟩
 rw [← hW3]
 have q3 : Kp (· = c) W2 W3 := by rw [hW3]; exact Kp.set _ _ _ _ rfl
 have cc3 : W3.cell? ⟨c, 0, none⟩ = some (.int .i64 (a + 1)) := by rw [hW3]; exact World.cell?_setCell_same _ _ _ cc2
 have cf3 : W3.frozen? ⟨c, 0, none⟩ = false := by rw [hW3]; simpa using cf2
 clear hW3 cc2 cf2
 have z3 : W2.heap.size ≤ W3.heap.size := q3.size
 have x3 : ∀ b, b < W2.heap.size → b ≠ c → W3.heap[b]? = W2.heap[b]? := fun b hb hn => q3.block b hb hn
 have n3 : W3.heap[w.heap.size]? = some (.cells #[.int .i64 1, .string ⟨#[]⟩, .int .i64 0, .int .i64 0, .slice (some ⟨KP, 0, none⟩) 2 2] 98) := (x3 (w.heap.size) (by omega) (by omega)).trans n2
 have m3 : W3.heap[w.heap.size + 1 + 1 + 1 + 1 + 1 + 1 + 1]? = some (.cells #[.slice (some ⟨w.heap.size + 1 + 1 + 1 + 1 + 1, 0, none⟩) 1 1, .int .i64 0, .int .i64 (-1), .bool false] 237) := (x3 (w.heap.size + 1 + 1 + 1 + 1 + 1 + 1 + 1) (by omega) (by omega)).trans m2
 have g3 : W3.heap[w.heap.size + 1 + 1 + 1 + 1 + 1]? = some (.cells #[.int .i64 2] 190) := (x3 (w.heap.size + 1 + 1 + 1 + 1 + 1) (by omega) (by omega)).trans g2
 have k3 : W3.heap[KP]? = some (.cells #[.int .i64 3, .string ⟨#[83]⟩, .int .i64 0, .int .i64 0, .slice (some ⟨KS, 0, none⟩) 2 2, .int .i64 3, .string ⟨#[84]⟩, .int .i64 0, .int .i64 0, .slice (some ⟨KT, 0, none⟩) 1 1] 98) := (x3 (KP) (by omega) (by omega)).trans k2
 have s3 : W3.heap[KS]? = some (.cells #[.int .i64 8, .string ⟨#[102]⟩, .int .i64 0, .int .i64 0, .slice none 0 0, .int .i64 8, .string ⟨#[103]⟩, .int .i64 0, .int .i64 0, .slice none 0 0] 98) := (x3 (KS) (by omega) (by omega)).trans s2
 have t3 : W3.heap[KT]? = some (.cells #[.int .i64 8, .string ⟨#[97]⟩, .int .i64 0, .int .i64 0, .slice none 0 0] 98) := (x3 (KT) (by omega) (by omega)).trans t2
 clear x3 n2 m2 g2 k2 s2 t2
 refine Calls.mono (second_P KP KS KT _ k3) ?_
 rintro _ W4 ⟨rfl, hb4⟩
 have q4 : Kp (· = c) W3 W4 := Kp.of hb4
 have z4 : W3.heap.size ≤ W4.heap.size := q4.size
 have x4 : ∀ b, b < W3.heap.size → b ≠ c → W4.heap[b]? = W3.heap[b]? := fun b hb hn => q4.block b hb hn
 have n4 : W4.heap[w.heap.size]? = some (.cells #[.int .i64 1, .string ⟨#[]⟩, .int .i64 0, .int .i64 0, .slice (some ⟨KP, 0, none⟩) 2 2] 98) := (x4 (w.heap.size) (by omega) (by omega)).trans n3
 have m4 : W4.heap[w.heap.size + 1 + 1 + 1 + 1 + 1 + 1 + 1]? = some (.cells #[.slice (some ⟨w.heap.size + 1 + 1 + 1 + 1 + 1, 0, none⟩) 1 1, .int .i64 0, .int .i64 (-1), .bool false] 237) := (x4 (w.heap.size + 1 + 1 + 1 + 1 + 1 + 1 + 1) (by omega) (by omega)).trans m3
 have g4 : W4.heap[w.heap.size + 1 + 1 + 1 + 1 + 1]? = some (.cells #[.int .i64 2] 190) := (x4 (w.heap.size + 1 + 1 + 1 + 1 + 1) (by omega) (by omega)).trans g3
 have k4 : W4.heap[KP]? = some (.cells #[.int .i64 3, .string ⟨#[83]⟩, .int .i64 0, .int .i64 0, .slice (some ⟨KS, 0, none⟩) 2 2, .int .i64 3, .string ⟨#[84]⟩, .int .i64 0, .int .i64 0, .slice (some ⟨KT, 0, none⟩) 1 1] 98) := (x4 (KP) (by omega) (by omega)).trans k3
 have s4 : W4.heap[KS]? = some (.cells #[.int .i64 8, .string ⟨#[102]⟩, .int .i64 0, .int .i64 0, .slice none 0 0, .int .i64 8, .string ⟨#[103]⟩, .int .i64 0, .int .i64 0, .slice none 0 0] 98) := (x4 (KS) (by omega) (by omega)).trans s3
 have t4 : W4.heap[KT]? = some (.cells #[.int .i64 8, .string ⟨#[97]⟩, .int .i64 0, .int .i64 0, .slice none 0 0] 98) := (x4 (KT) (by omega) (by omega)).trans t3
 clear x4 n3 m3 g3 k3 s3 t3
 have cc4 : W4.cell? ⟨c, 0, none⟩ = some (.int .i64 (a + 1)) := (hb4.cell (p := ⟨c, 0, none⟩) (by show c < W3.heap.size; omega)).trans cc3
 have cf4 : W4.frozen? ⟨c, 0, none⟩ = false := (hb4.frozen (p := ⟨c, 0, none⟩) (by show c < W3.heap.size; omega)).trans cf3
 clear cc3 cf3
 have Q4 : Kp (· = c) w W4 := (((Kp.of b1).trans q2 fun _ _ h => h).trans q3 fun _ _ h => h).trans q4 fun _ _ h => h
 have hK4 : KP < W4.heap.size := by omega
 have hs4 : w.heap.size + 1 + 1 + 1 + 1 + 1 + 1 + 1 < W4.heap.size := by omega
 have hn4 : w.heap.size < W4.heap.size := by omega
 have nc := (cells_of n4).1
 have mc := (cells_of m4).1
 have kc := (cells_of k4).1
 go_wp2_with fail
 refine wp_loop_rounds 3 ?_
 rw [rounds_succ]
 go_wp2_with fail
 clear nc mc kc
 obtain ⟨W5, hW5⟩ : ∃ W, W = W4.alloc (.cells #[.int .i64 3, .string ⟨#[83]⟩, .int .i64 0, .int .i64 0, .slice (some ⟨KS, 0, none⟩) 2 2] 98) := ⟨_, rfl⟩
 rw [← hW5]
 have hb5 : Below W4.heap.size W4 W5 := by rw [hW5]; exact below1 _ _
 have q5 : Kp (· = c) W4 W5 := Kp.of hb5
 have y5 : W5.heap.size = W4.heap.size + 1 := by rw [hW5]; simp
 have kb5 : W5.heap[W4.heap.size]? = some (.cells #[.int .i64 3, .string ⟨#[83]⟩, .int .i64 0, .int .i64 0, .slice (some ⟨KS, 0, none⟩) 2 2] 98) := by rw [hW5]; exact heap_new _ _ _ rfl
 clear hW5
 have z5 : W4.heap.size ≤ W5.heap.size := q5.size
 have x5 : ∀ b, b < W4.heap.size → b ≠ c → W5.heap[b]? = W4.heap[b]? := fun b hb hn => q5.block b hb hn
 have n5 : W5.heap[w.heap.size]? = some (.cells #[.int .i64 1, .string ⟨#[]⟩, .int .i64 0, .int .i64 0, .slice (some ⟨KP, 0, none⟩) 2 2] 98) := (x5 (w.heap.size) (by omega) (by omega)).trans n4
 have m5 : W5.heap[w.heap.size + 1 + 1 + 1 + 1 + 1 + 1 + 1]? = some (.cells #[.slice (some ⟨w.heap.size + 1 + 1 + 1 + 1 + 1, 0, none⟩) 1 1, .int .i64 0, .int .i64 (-1), .bool false] 237) := (x5 (w.heap.size + 1 + 1 + 1 + 1 + 1 + 1 + 1) (by omega) (by omega)).trans m4
 have g5 : W5.heap[w.heap.size + 1 + 1 + 1 + 1 + 1]? = some (.cells #[.int .i64 2] 190) := (x5 (w.heap.size + 1 + 1 + 1 + 1 + 1) (by omega) (by omega)).trans g4
 have k5 : W5.heap[KP]? = some (.cells #[.int .i64 3, .string ⟨#[83]⟩, .int .i64 0, .int .i64 0, .slice (some ⟨KS, 0, none⟩) 2 2, .int .i64 3, .string ⟨#[84]⟩, .int .i64 0, .int .i64 0, .slice (some ⟨KT, 0, none⟩) 1 1] 98) := (x5 (KP) (by omega) (by omega)).trans k4
 have s5 : W5.heap[KS]? = some (.cells #[.int .i64 8, .string ⟨#[102]⟩, .int .i64 0, .int .i64 0, .slice none 0 0, .int .i64 8, .string ⟨#[103]⟩, .int .i64 0, .int .i64 0, .slice none 0 0] 98) := (x5 (KS) (by omega) (by omega)).trans s4
 have t5 : W5.heap[KT]? = some (.cells #[.int .i64 8, .string ⟨#[97]⟩, .int .i64 0, .int .i64 0, .slice none 0 0] 98) := (x5 (KT) (by omega) (by omega)).trans t4
 clear x5 n4 m4 g4 k4 s4 t4
 have cc5 : W5.cell? ⟨c, 0, none⟩ = some (.int .i64 (a + 1)) := (hb5.cell (p := ⟨c, 0, none⟩) (by show c < W4.heap.size; omega)).trans cc4
 have cf5 : W5.frozen? ⟨c, 0, none⟩ = false := (hb5.frozen (p := ⟨c, 0, none⟩) (by show c < W4.heap.size; omega)).trans cf4
 clear cc4 cf4
 have gc := (cells_of g5).1
 refine Calls.mono (role_0 _ _ _ _ _ _ (by omega) (gc 0)) ?_
 rintro _ W6 ⟨rfl, hb6⟩
 clear gc
 have q6 : Kp (· = c) W5 W6 := Kp.of hb6
 have kb6 : W6.heap[W4.heap.size]? = some (.cells #[.int .i64 3, .string ⟨#[83]⟩, .int .i64 0, .int .i64 0, .slice (some ⟨KS, 0, none⟩) 2 2] 98) := (hb6.block _ (by omega)).trans kb5
 have z6 : W5.heap.size ≤ W6.heap.size := q6.size
 have x6 : ∀ b, b < W5.heap.size → b ≠ c → W6.heap[b]? = W5.heap[b]? := fun b hb hn => q6.block b hb hn
 have n6 : W6.heap[w.heap.size]? = some (.cells #[.int .i64 1, .string ⟨#[]⟩, .int .i64 0, .int .i64 0, .slice (some ⟨KP, 0, none⟩) 2 2] 98) := (x6 (w.heap.size) (by omega) (by omega)).trans n5
 have m6 : W6.heap[w.heap.size + 1 + 1 + 1 + 1 + 1 + 1 + 1]? = some (.cells #[.slice (some ⟨w.heap.size + 1 + 1 + 1 + 1 + 1, 0, none⟩) 1 1, .int .i64 0, .int .i64 (-1), .bool false] 237) := (x6 (w.heap.size + 1 + 1 + 1 + 1 + 1 + 1 + 1) (by omega) (by omega)).trans m5
 have g6 : W6.heap[w.heap.size + 1 + 1 + 1 + 1 + 1]? = some (.cells #[.int .i64 2] 190) := (x6 (w.heap.size + 1 + 1 + 1 + 1 + 1) (by omega) (by omega)).trans g5
 have k6 : W6.heap[KP]? = some (.cells #[.int .i64 3, .string ⟨#[83]⟩, .int .i64 0, .int .i64 0, .slice (some ⟨KS, 0, none⟩) 2 2, .int .i64 3, .string ⟨#[84]⟩, .int .i64 0, .int .i64 0, .slice (some ⟨KT, 0, none⟩) 1 1] 98) := (x6 (KP) (by omega) (by omega)).trans k5
 have s6 : W6.heap[KS]? = some (.cells #[.int .i64 8, .string ⟨#[102]⟩, .int .i64 0, .int .i64 0, .slice none 0 0, .int .i64 8, .string ⟨#[103]⟩, .int .i64 0, .int .i64 0, .slice none 0 0] 98) := (x6 (KS) (by omega) (by omega)).trans s5
 have t6 : W6.heap[KT]? = some (.cells #[.int .i64 8, .string ⟨#[97]⟩, .int .i64 0, .int .i64 0, .slice none 0 0] 98) := (x6 (KT) (by omega) (by omega)).trans t5
 clear x6 n5 m5 g5 k5 s5 t5
 have cc6 : W6.cell? ⟨c, 0, none⟩ = some (.int .i64 (a + 1)) := (hb6.cell (p := ⟨c, 0, none⟩) (by show c < W5.heap.size; omega)).trans cc5
 have cf6 : W6.frozen? ⟨c, 0, none⟩ = false := (hb6.frozen (p := ⟨c, 0, none⟩) (by show c < W5.heap.size; omega)).trans cf5
 clear cc5 cf5
 have Q6 : Kp (· = c) w W6 := (Q4.trans q5 fun _ _ h => h).trans q6 fun _ _ h => h
 have kbc := (cells_of kb6).1
 have nc := (cells_of n6).1
 have mc := (cells_of m6).1
 go_wp2_with fail
 clear kbc
 clear nc mc
 refine Calls.mono (check_S c (a + 1) (by omega) (by omega) KS _ (ht.kp Q6 hgc1 hgc2 hgc3 hgc4) hgc1 hgc2 hgc3 hgc4 cc6 (by omega) cf6 s6 (by omega)) ?_
 rintro _ W7 ⟨rfl, q7, cc7, cf7⟩
 clear cc6 cf6
 have z7 : W6.heap.size ≤ W7.heap.size := q7.size
 have x7 : ∀ b, b < W6.heap.size → b ≠ c → W7.heap[b]? = W6.heap[b]? := fun b hb hn => q7.block b hb hn
 have n7 : W7.heap[w.heap.size]? = some (.cells #[.int .i64 1, .string ⟨#[]⟩, .int .i64 0, .int .i64 0, .slice (some ⟨KP, 0, none⟩) 2 2] 98) := (x7 (w.heap.size) (by omega) (by omega)).trans n6
 have m7 : W7.heap[w.heap.size + 1 + 1 + 1 + 1 + 1 + 1 + 1]? = some (.cells #[.slice (some ⟨w.heap.size + 1 + 1 + 1 + 1 + 1, 0, none⟩) 1 1, .int .i64 0, .int .i64 (-1), .bool false] 237) := (x7 (w.heap.size + 1 + 1 + 1 + 1 + 1 + 1 + 1) (by omega) (by omega)).trans m6
 have g7 : W7.heap[w.heap.size + 1 + 1 + 1 + 1 + 1]? = some (.cells #[.int .i64 2] 190) := (x7 (w.heap.size + 1 + 1 + 1 + 1 + 1) (by omega) (by omega)).trans g6
 have k7 : W7.heap[KP]? = some (.cells #[.int .i64 3, .string ⟨#[83]⟩, .int .i64 0, .int .i64 0, .slice (some ⟨KS, 0, none⟩) 2 2, .int .i64 3, .string ⟨#[84]⟩, .int .i64 0, .int .i64 0, .slice (some ⟨KT, 0, none⟩) 1 1] 98) := (x7 (KP) (by omega) (by omega)).trans k6
 have s7 : W7.heap[KS]? = some (.cells #[.int .i64 8, .string ⟨#[102]⟩, .int .i64 0, .int .i64 0, .slice none 0 0, .int .i64 8, .string ⟨#[103]⟩, .int .i64 0, .int .i64 0, .slice none 0 0] 98) := (x7 (KS) (by omega) (by omega)).trans s6
 have t7 : W7.heap[KT]? = some (.cells #[.int .i64 8, .string ⟨#[97]⟩, .int .i64 0, .int .i64 0, .slice none 0 0] 98) := (x7 (KT) (by omega) (by omega)).trans t6
 clear x7 n6 m6 g6 k6 s6 t6
 have Q7 : Kp (· = c) w W7 := Q6.trans q7 fun _ _ h => h
 have hK7 : KP < W7.heap.size := by omega
 have hs7 : w.heap.size + 1 + 1 + 1 + 1 + 1 + 1 + 1 < W7.heap.size := by omega
 have hn7 : w.heap.size < W7.heap.size := by omega
 have nc := (cells_of n7).1
 have mc := (cells_of m7).1
 have kc := (cells_of k7).1
 go_wp2_with fail
 rw [rounds_succ]
 go_wp2_with fail
 clear nc mc kc
 obtain ⟨W8, hW8⟩ : ∃ W, W = W7.alloc (.cells #[.int .i64 3, .string ⟨#[84]⟩, .int .i64 0, .int .i64 0, .slice (some ⟨KT, 0, none⟩) 1 1] 98) := ⟨_, rfl⟩
 rw [← hW8]
 have hb8 : Below W7.heap.size W7 W8 := by rw [hW8]; exact below1 _ _
 have q8 : Kp (· = c) W7 W8 := Kp.of hb8
 have y8 : W8.heap.size = W7.heap.size + 1 := by rw [hW8]; simp
 have kb8 : W8.heap[W7.heap.size]? = some (.cells #[.int .i64 3, .string ⟨#[84]⟩, .int .i64 0, .int .i64 0, .slice (some ⟨KT, 0, none⟩) 1 1] 98) := by rw [hW8]; exact heap_new _ _ _ rfl
 clear hW8
 have z8 : W7.heap.size ≤ W8.heap.size := q8.size
 have x8 : ∀ b, b < W7.heap.size → b ≠ c → W8.heap[b]? = W7.heap[b]? := fun b hb hn => q8.block b hb hn
 have n8 : W8.heap[w.heap.size]? = some (.cells #[.int .i64 1, .string ⟨#[]⟩, .int .i64 0, .int .i64 0, .slice (some ⟨KP, 0, none⟩) 2 2] 98) := (x8 (w.heap.size) (by omega) (by omega)).trans n7
 have m8 : W8.heap[w.heap.size + 1 + 1 + 1 + 1 + 1 + 1 + 1]? = some (.cells #[.slice (some ⟨w.heap.size + 1 + 1 + 1 + 1 + 1, 0, none⟩) 1 1, .int .i64 0, .int .i64 (-1), .bool false] 237) := (x8 (w.heap.size + 1 + 1 + 1 + 1 + 1 + 1 + 1) (by omega) (by omega)).trans m7
 have g8 : W8.heap[w.heap.size + 1 + 1 + 1 + 1 + 1]? = some (.cells #[.int .i64 2] 190) := (x8 (w.heap.size + 1 + 1 + 1 + 1 + 1) (by omega) (by omega)).trans g7
 have k8 : W8.heap[KP]? = some (.cells #[.int .i64 3, .string ⟨#[83]⟩, .int .i64 0, .int .i64 0, .slice (some ⟨KS, 0, none⟩) 2 2, .int .i64 3, .string ⟨#[84]⟩, .int .i64 0, .int .i64 0, .slice (some ⟨KT, 0, none⟩) 1 1] 98) := (x8 (KP) (by omega) (by omega)).trans k7
 have s8 : W8.heap[KS]? = some (.cells #[.int .i64 8, .string ⟨#[102]⟩, .int .i64 0, .int .i64 0, .slice none 0 0, .int .i64 8, .string ⟨#[103]⟩, .int .i64 0, .int .i64 0, .slice none 0 0] 98) := (x8 (KS) (by omega) (by omega)).trans s7
 have t8 : W8.heap[KT]? = some (.cells #[.int .i64 8, .string ⟨#[97]⟩, .int .i64 0, .int .i64 0, .slice none 0 0] 98) := (x8 (KT) (by omega) (by omega)).trans t7
 clear x8 n7 m7 g7 k7 s7 t7
 have cc8 : W8.cell? ⟨c, 0, none⟩ = some (.int .i64 (a + 1 + 3)) := (hb8.cell (p := ⟨c, 0, none⟩) (by show c < W7.heap.size; omega)).trans cc7
 have cf8 : W8.frozen? ⟨c, 0, none⟩ = false := (hb8.frozen (p := ⟨c, 0, none⟩) (by show c < W7.heap.size; omega)).trans cf7
 clear cc7 cf7
 have gc := (cells_of g8).1
 refine Calls.mono (role_1 _ _ _ _ _ _ (by omega) (gc 0)) ?_
 rintro _ W9 ⟨rfl, hb9⟩
 clear gc
 have q9 : Kp (· = c) W8 W9 := Kp.of hb9
 have kb9 : W9.heap[W7.heap.size]? = some (.cells #[.int .i64 3, .string ⟨#[84]⟩, .int .i64 0, .int .i64 0, .slice (some ⟨KT, 0, none⟩) 1 1] 98) := (hb9.block _ (by omega)).trans kb8
 have z9 : W8.heap.size ≤ W9.heap.size := q9.size
 have x9 : ∀ b, b < W8.heap.size → b ≠ c → W9.heap[b]? = W8.heap[b]? := fun b hb hn => q9.block b hb hn
 have n9 : W9.heap[w.heap.size]? = some (.cells #[.int .i64 1, .string ⟨#[]⟩, .int .i64 0, .int .i64 0, .slice (some ⟨KP, 0, none⟩) 2 2] 98) := (x9 (w.heap.size) (by omega) (by omega)).trans n8
 have m9 : W9.heap[w.heap.size + 1 + 1 + 1 + 1 + 1 + 1 + 1]? = some (.cells #[.slice (some ⟨w.heap.size + 1 + 1 + 1 + 1 + 1, 0, none⟩) 1 1, .int .i64 0, .int .i64 (-1), .bool false] 237) := (x9 (w.heap.size + 1 + 1 + 1 + 1 + 1 + 1 + 1) (by omega) (by omega)).trans m8
 have g9 : W9.heap[w.heap.size + 1 + 1 + 1 + 1 + 1]? = some (.cells #[.int .i64 2] 190) := (x9 (w.heap.size + 1 + 1 + 1 + 1 + 1) (by omega) (by omega)).trans g8
 have k9 : W9.heap[KP]? = some (.cells #[.int .i64 3, .string ⟨#[83]⟩, .int .i64 0, .int .i64 0, .slice (some ⟨KS, 0, none⟩) 2 2, .int .i64 3, .string ⟨#[84]⟩, .int .i64 0, .int .i64 0, .slice (some ⟨KT, 0, none⟩) 1 1] 98) := (x9 (KP) (by omega) (by omega)).trans k8
 have s9 : W9.heap[KS]? = some (.cells #[.int .i64 8, .string ⟨#[102]⟩, .int .i64 0, .int .i64 0, .slice none 0 0, .int .i64 8, .string ⟨#[103]⟩, .int .i64 0, .int .i64 0, .slice none 0 0] 98) := (x9 (KS) (by omega) (by omega)).trans s8
 have t9 : W9.heap[KT]? = some (.cells #[.int .i64 8, .string ⟨#[97]⟩, .int .i64 0, .int .i64 0, .slice none 0 0] 98) := (x9 (KT) (by omega) (by omega)).trans t8
 clear x9 n8 m8 g8 k8 s8 t8
 have cc9 : W9.cell? ⟨c, 0, none⟩ = some (.int .i64 (a + 1 + 3)) := (hb9.cell (p := ⟨c, 0, none⟩) (by show c < W8.heap.size; omega)).trans cc8
 have cf9 : W9.frozen? ⟨c, 0, none⟩ = false := (hb9.frozen (p := ⟨c, 0, none⟩) (by show c < W8.heap.size; omega)).trans cf8
 clear cc8 cf8
 have Q9 : Kp (· = c) w W9 := (Q7.trans q8 fun _ _ h => h).trans q9 fun _ _ h => h
 have kbc := (cells_of kb9).1
 have nc := (cells_of n9).1
 have mc := (cells_of m9).1
 go_wp2_with fail
 clear kbc
 clear nc mc
 refine Calls.mono (check_T c (a + 1 + 3) (by omega) (by omega) KT _ (ht.kp Q9 hgc1 hgc2 hgc3 hgc4) hgc1 hgc2 hgc3 hgc4 cc9 (by omega) cf9 t9 (by omega)) ?_
 rintro _ W10 ⟨rfl, q10, cc10, cf10⟩
 clear cc9 cf9
 have z10 : W9.heap.size ≤ W10.heap.size := q10.size
 have x10 : ∀ b, b < W9.heap.size → b ≠ c → W10.heap[b]? = W9.heap[b]? := fun b hb hn => q10.block b hb hn
 have n10 : W10.heap[w.heap.size]? = some (.cells #[.int .i64 1, .string ⟨#[]⟩, .int .i64 0, .int .i64 0, .slice (some ⟨KP, 0, none⟩) 2 2] 98) := (x10 (w.heap.size) (by omega) (by omega)).trans n9
 have m10 : W10.heap[w.heap.size + 1 + 1 + 1 + 1 + 1 + 1 + 1]? = some (.cells #[.slice (some ⟨w.heap.size + 1 + 1 + 1 + 1 + 1, 0, none⟩) 1 1, .int .i64 0, .int .i64 (-1), .bool false] 237) := (x10 (w.heap.size + 1 + 1 + 1 + 1 + 1 + 1 + 1) (by omega) (by omega)).trans m9
 have g10 : W10.heap[w.heap.size + 1 + 1 + 1 + 1 + 1]? = some (.cells #[.int .i64 2] 190) := (x10 (w.heap.size + 1 + 1 + 1 + 1 + 1) (by omega) (by omega)).trans g9
 have k10 : W10.heap[KP]? = some (.cells #[.int .i64 3, .string ⟨#[83]⟩, .int .i64 0, .int .i64 0, .slice (some ⟨KS, 0, none⟩) 2 2, .int .i64 3, .string ⟨#[84]⟩, .int .i64 0, .int .i64 0, .slice (some ⟨KT, 0, none⟩) 1 1] 98) := (x10 (KP) (by omega) (by omega)).trans k9
 have s10 : W10.heap[KS]? = some (.cells #[.int .i64 8, .string ⟨#[102]⟩, .int .i64 0, .int .i64 0, .slice none 0 0, .int .i64 8, .string ⟨#[103]⟩, .int .i64 0, .int .i64 0, .slice none 0 0] 98) := (x10 (KS) (by omega) (by omega)).trans s9
 have t10 : W10.heap[KT]? = some (.cells #[.int .i64 8, .string ⟨#[97]⟩, .int .i64 0, .int .i64 0, .slice none 0 0] 98) := (x10 (KT) (by omega) (by omega)).trans t9
 clear x10 n9 m9 g9 k9 s9 t9
 have Q10 : Kp (· = c) w W10 := Q9.trans q10 fun _ _ h => h
 have hK10 : KP < W10.heap.size := by omega
 have hs10 : w.heap.size + 1 + 1 + 1 + 1 + 1 + 1 + 1 < W10.heap.size := by omega
 have hn10 : w.heap.size < W10.heap.size := by omega
 have nc := (cells_of n10).1
 have mc := (cells_of m10).1
 have kc := (cells_of k10).1
 go_wp2_with fail
 rw [rounds_succ]
 go_wp2_with fail
 clear nc mc kc
 go_ret
 exact ⟨rfl, Q10, by rw [cc10]; congr 2; omega, cf10⟩
theorem ownRole_P (KP : Nat) (w : World) :
  Calls Tryz.prog 104 #[.agg #[.int .i64 1, .string ⟨#[]⟩, .int .i64 0, .int .i64 0, .slice (some ⟨KP, 0, none⟩) 2 2]] w fun e w' => e = .returned (.int .i64 0) ∧ Below w.heap.size w w' := by
 go_enter Tryz.func104, Tryz.ntmps104
 go_wp2_with fail
 go_ret
 exact ⟨rfl, below1 w _⟩
theorem right_two {gw ow gs os : Nat} (KP KS KT : Nat) (w : World) (ht : TabsAt gw ow gs os w) (hT : TreeAt KP KS KT w) :
  Calls Tryz.prog 70 #[.agg #[.int .i64 1, .string ⟨#[]⟩, .int .i64 0, .int .i64 0, .slice (some ⟨KP, 0, none⟩) 2 2]] w fun e w' => e = .returned .nilIface ∧ Below w.heap.size w w' := by
 have h6 := ht.two
 have hgw := ht.gwLt
 have hgs := ht.gsLt
 have hP := heap_lt hT.p
 have hSl := heap_lt hT.s
 have hTl := heap_lt hT.t
 have hB2 := below2 w (.cells #[.int .i64 1, .string ⟨#[]⟩, .int .i64 0, .int .i64 0, .slice (some ⟨KP, 0, none⟩) 2 2] 98) (.cells #[.int .i64 0] 188)
 have hcc : ((w.alloc (.cells #[.int .i64 1, .string ⟨#[]⟩, .int .i64 0, .int .i64 0, .slice (some ⟨KP, 0, none⟩) 2 2] 98)).alloc (.cells #[.int .i64 0] 188)).cell? ⟨w.heap.size + 1, 0, none⟩ = some (.int .i64 0) ∧ ((w.alloc (.cells #[.int .i64 1, .string ⟨#[]⟩, .int .i64 0, .int .i64 0, .slice (some ⟨KP, 0, none⟩) 2 2] 98)).alloc (.cells #[.int .i64 0] 188)).frozen? ⟨w.heap.size + 1, 0, none⟩ = false := by simp
 have HC : Hid (∀ W, Below (w.heap.size + 2) ((w.alloc (.cells #[.int .i64 1, .string ⟨#[]⟩, .int .i64 0, .int .i64 0, .slice (some ⟨KP, 0, none⟩) 2 2] 98)).alloc (.cells #[.int .i64 0] 188)) W → Calls Tryz.prog 103 #[.pointer (some ⟨w.heap.size + 1, 0, none⟩), .agg #[.int .i64 1, .string ⟨#[]⟩, .int .i64 0, .int .i64 0, .slice (some ⟨KP, 0, none⟩) 2 2], .int .i64 0, .int .i64 1] W fun e w' => e = .returned .nilIface ∧ Below (w.heap.size + 1) ((w.alloc (.cells #[.int .i64 1, .string ⟨#[]⟩, .int .i64 0, .int .i64 0, .slice (some ⟨KP, 0, none⟩) 2 2] 98)).alloc (.cells #[.int .i64 0] 188)) w') := fun W hW => by
  have hz := hW.size
  simp only [World.size_alloc] at hz
  have hBW : Below w.heap.size w W := hB2.trans (hW.mono (by omega))
  have hTW := hT.below hBW
  exact Calls.mono (check_P (w.heap.size + 1) 0 (by omega) (by omega) KP KS KT W (ht.below (Nat.le_refl _) hBW) (by omega) (by omega) (by omega) (by omega) ((hW.cell (p := ⟨w.heap.size + 1, 0, none⟩) (by simp)).trans hcc.1) (by omega) ((hW.frozen (p := ⟨w.heap.size + 1, 0, none⟩) (by simp)).trans hcc.2)
   hTW.p (by omega) hTW.s (by omega) hTW.t (by omega)) fun e w' h => ⟨h.1, (hW.mono (by omega)).trans (h.2.1.below (by omega) fun i hi (q : i = w.heap.size + 1) => by omega)⟩
 have HK : Hid (∀ W, Below (w.heap.size + 1) ((w.alloc (.cells #[.int .i64 1, .string ⟨#[]⟩, .int .i64 0, .int .i64 0, .slice (some ⟨KP, 0, none⟩) 2 2] 98)).alloc (.cells #[.int .i64 0] 188)) W → (W.cell? ⟨w.heap.size, 0, none⟩ = some (.int .i64 1) ∧ W.cell? ⟨w.heap.size, 1, none⟩ = some (.string ⟨#[]⟩) ∧ W.cell? ⟨w.heap.size, 2, none⟩ = some (.int .i64 0) ∧ W.cell? ⟨w.heap.size, 3, none⟩ = some (.int .i64 0) ∧ W.cell? ⟨w.heap.size, 4, none⟩ = some (.slice (some ⟨KP, 0, none⟩) 2 2))) := fun W hW => by
  have e : ∀ j, W.cell? ⟨w.heap.size, j, none⟩ = (#[.int .i64 1, .string ⟨#[]⟩, .int .i64 0, .int .i64 0, .slice (some ⟨KP, 0, none⟩) 2 2] : Array Value)[j]? := fun j => (hW.cell (p := ⟨w.heap.size, j, none⟩) (Nat.lt_succ_self _)).trans (by rw [World.cell?_alloc_lt _ _ _ (by simp <;> omega), World.cell?_alloc_new])
  exact ⟨e 0, e 1, e 2, e 3, e 4⟩
 clear hcc
 go_enter Tryz.func70, Tryz.ntmps70
 go_wp2_with fail
 go_region_held3 (fun W => W.cell? ⟨w.heap.size, 0, none⟩ = some (.int .i64 1) ∧ W.cell? ⟨w.heap.size, 1, none⟩ = some (.string ⟨#[]⟩) ∧ W.cell? ⟨w.heap.size, 2, none⟩ = some (.int .i64 0) ∧ W.cell? ⟨w.heap.size, 3, none⟩ = some (.int .i64 0) ∧ W.cell? ⟨w.heap.size, 4, none⟩ = some (.slice (some ⟨KP, 0, none⟩) 2 2))
  (first | exact HK.out _ hbF | exact HK.out _ (hbA.mono (by omega)) | (simp; done))
  (first
   | (go_at_call 104; refine (ownRole_P KP _).mono ?_; rintro e w1 ⟨rfl, hb0⟩; have hbA : Below (w.heap.size + 2) ((w.alloc (.cells #[.int .i64 1, .string ⟨#[]⟩, .int .i64 0, .int .i64 0, .slice (some ⟨KP, 0, none⟩) 2 2] 98)).alloc (.cells #[.int .i64 0] 188)) w1 := ((Below.refl _ _).drew).trans (hb0.mono (by simp)))
   | (go_at_call 103; refine (HC.out _ hbA).mono ?_; rintro e w2 ⟨rfl, hbF⟩))
 go_wp2_with fail
 go_ret
 exact ⟨rfl, hB2.trans (hbF.mono (by omega))⟩
end Go.Proofs.YtdbijkgnddcneaaGreatDoor.Lx
