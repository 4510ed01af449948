/-
  The walk of NumberConvert.
-/
import Derived.Test.YtoplmbboaobahaaDoorPa
import Derived.Test.YtoplmbboaobahaaDoorPc
import Derived.Test.YtoplmbboaobahaaDoorZ
import Derived.Test.YtoplmbboaobahaaDoorPd
namespace Go.Proofs.YtoplmbboaobahaaDoor
open Go.RowKit

attribute [local go_sem] refold2 cell3_0 cell3_1 b28_0 b28_01 b28_012 b28_013 b28_014 b35_01 b35_0 b35 mkI69 ta69

theorem add_zero_off (g j : Nat) : (⟨g, 0, none⟩ : Addr).add j = ⟨g, j, none⟩ := by unfold Addr.add; split <;> simp_all
theorem path_of_row {W : World} {B g m cap : Nat} {zs : List Int} {tl : List Value} (h : W.ownsRow B 3 1 (.slice (some ⟨g, 0, none⟩) (m + 2) cap) (m + 2) (nums zs ++ tl)) (hl : zs.length = m) : PathAt W W.heap.size (some ⟨g, 0, none⟩) m zs := by
  refine ⟨hl, fun _ => ⟨_, rfl, fun j u hj => ?_, fun j => ?_⟩⟩
  · have hjl : j < m := by have := (List.getElem?_eq_some_iff.1 hj).1; rw [nums_len] at this; omega
    rw [add_zero_off, h.cellAt j (by omega), List.getElem?_append_left (by rw [nums_len]; omega)]; exact hj
  · rw [add_zero_off]; exact (h.lt g rfl).2
theorem row_in {W : World} {B n cap : Nat} {p : Option Addr} {xs : List Value} (h : W.ownsRow B 3 1 (.slice p n cap) n xs) : ∀ g, (Value.slice p n cap).ownBlock = some g → B ≤ g ∧ g < W.heap.size := fun g hg => h.lt g hg

set_option maxRecDepth 100000 in
set_option maxHeartbeats 8000000 in
theorem convertLaw_good (kd : Int) (u : ByteArray) (k : Int) (t : ByteArray) (a f : Int) (s : ByteArray) (r0 r1 r2 r3 : Int) (pp : Option Addr) (m c : Nat) (zs : List Int) (ip : Option Addr) (il ic : Nat) (w : World) (hP : PathAt w w.heap.size pp m zs) (hm : m ≤ 1048576)
    (k' : Int) (t' : ByteArray) (n' f' : Int) (s' : ByteArray) (q0 q1 q2 q3 : Int) (m' : Nat) (zs' : List Int) (hl' : zs'.length = m') (hm' : m' ≤ 1048576)
    (HU : Hid (∀ W g, Below w.heap.size w W → PathAt W W.heap.size (some ⟨g, 0, none⟩) m zs → Calls Tryd.prog 18 #[.int .i64 kd, .string u, .agg #[.int .i64 k, .string t, .int .i64 a, .int .u64 f, .string s, .int .i64 r0, .int .i64 r1, .int .i64 r2, .int .i64 r3, .slice (some ⟨g, 0, none⟩) m (m + 2), .slice ip il ic]] W fun r w' => ∃ p'' c'', r = .returned (.tuple #[.agg #[.int .i64 k', .string t', .int .i64 n', .int .u64 f', .string s', .int .i64 q0, .int .i64 q1, .int .i64 q2, .int .i64 q3, .slice p'' m' c'', .slice none 0 0], .nilIface]) ∧ w'.ownsRow W.heap.size 3 1 (.slice p'' m' c'') m' (nums zs') ∧ (m' = 0 → Value.slice p'' m' c'' = .slice none 0 0) ∧ Below W.heap.size W w'))
    (HR : Hid (∀ W, Below w.heap.size w W → Calls Tryd.prog 19 #[.int .i64 kd, .string u, .agg #[.int .i64 k, .string t, .int .i64 a, .int .u64 f, .string s, .int .i64 r0, .int .i64 r1, .int .i64 r2, .int .i64 r3, .slice pp m c, .slice ip il ic]] W fun r w' => ∃ p'' c'', r = .returned (.tuple #[.agg #[.int .i64 k', .string t', .int .i64 n', .int .u64 f', .string s', .int .i64 q0, .int .i64 q1, .int .i64 q2, .int .i64 q3, .slice p'' m' c'', .slice none 0 0], .agg #[.string ⟨#[]⟩, .string ⟨#[]⟩]]) ∧ w'.ownsRow W.heap.size 3 1 (.slice p'' m' c'') m' (nums zs') ∧ Below W.heap.size W w')) :
    Calls Tryd.prog 5 #[.int .i64 kd, .string u, D k t a f s r0 r1 r2 r3 (.slice pp m c) (.slice ip il ic)] w fun r w' => r = .returned (.bool true) ∧ Below w.heap.size w w' := by
  have HP : Hid _ := hP
  clear hP
  simp only [D]
  go_enter Tryd.func5, Tryd.ntmps5
  go_wp2_with fail
  refine (known_any _).mono ?_
  rintro r w1 ⟨rfl, b1⟩
  have e1 := one_kept _ _ _ b1
  have y1 : w.heap.size < w1.heap.size := by have := b1.size; simp at this; omega
  have Q1 := bnext (Below.refl w.heap.size w) (Nat.le_refl _) b1
  go_wp2_with fail
  refine (lent_any k t a f s r0 r1 r2 r3 ip il ic pp m c zs w1 ((HP.out.kept Q1).mono Q1.size) hm).mono ?_
  simp only [D]
  rintro r w2 ⟨g, rfl, hrow2, b2⟩
  have e2 : ∀ j, w2.cell? ⟨w.heap.size, j, none⟩ = (#[.int .i64 k, .string t, .int .i64 a, .int .u64 f, .string s, .int .i64 r0, .int .i64 r1, .int .i64 r2, .int .i64 r3, .slice pp m c, .slice ip il ic] : Array Value)[j]? := fun j => (b2.cell (p := ⟨w.heap.size, j, none⟩) y1).trans (e1 j)
  have Q2 := Q1.trans (b2.mono Q1.size)
  have y2 : w.heap.size < w2.heap.size := by have := b2.size; omega
  have h12 : w1.heap.size ≤ w2.heap.size := b2.size
  obtain ⟨hg1, hg2⟩ := hrow2.lt g rfl
  have HRow2 : Hid (w2.ownsRow w1.heap.size 3 1 (.slice (some ⟨g, 0, none⟩) (m + 2) (m + 2)) (m + 2) (nums zs ++ [.int .i64 (-71), .int .i64 (-72)])) := hrow2
  clear hrow2 e1 Q1 b1
  go_wp2_with fail
  refine (HU.out _ g (Q2.alloc Q2.size _) (path_of_row (HRow2.out.alloc _) HP.out.len)).mono ?_
  rintro r w3 ⟨p3, c3, rfl, hx3, hn3, b3⟩
  have e3 : ∀ j, w3.cell? ⟨w.heap.size, j, none⟩ = (#[.int .i64 k, .string t, .int .i64 a, .int .u64 f, .string s, .int .i64 r0, .int .i64 r1, .int .i64 r2, .int .i64 r3, .slice pp m c, .slice ip il ic] : Array Value)[j]? := fun j => by rw [b3.cell (p := ⟨w.heap.size, j, none⟩) (by simp; omega), World.cell?_alloc_lt _ _ _ y2]; exact e2 j
  have o3 := one_kept _ _ _ b3
  have Q3 := bnext Q2 Q2.size b3
  have z3 : w2.heap.size < w3.heap.size := by have := b3.size; simp at this; omega
  have HRow3 : Hid (w3.ownsRow w1.heap.size 3 1 (.slice (some ⟨g, 0, none⟩) (m + 2) (m + 2)) (m + 2) (nums zs ++ [.int .i64 (-71), .int .i64 (-72)])) := row_under (HRow2.out.alloc _) (fun j hj => (row_in (HRow2.out.alloc _) j hj).2) b3
  have HX3 : Hid (w3.ownsRow (w2.heap.size + 1) 3 1 (.slice p3 m' c3) m' (nums zs')) := row_mono hx3 (by simp)
  clear hx3 HRow2 e2 b3
  go_wp2_with fail
  refine (HU.out _ g (Q3.alloc Q3.size _) (path_of_row (HRow3.out.alloc _) HP.out.len)).mono ?_
  rintro r w4 ⟨p4, c4, rfl, hx4, hn4, b4⟩
  have e4 : ∀ j, w4.cell? ⟨w.heap.size, j, none⟩ = (#[.int .i64 k, .string t, .int .i64 a, .int .u64 f, .string s, .int .i64 r0, .int .i64 r1, .int .i64 r2, .int .i64 r3, .slice pp m c, .slice ip il ic] : Array Value)[j]? := fun j => by rw [b4.cell (p := ⟨w.heap.size, j, none⟩) (by simp; omega), World.cell?_alloc_lt _ _ _ (by simp; omega)]; exact e3 j
  have x4 := one_kept _ _ _ b4
  have Q4 := bnext Q3 Q3.size b4
  have y4 : w.heap.size < w4.heap.size := by have := b4.size; simp at this; omega
  have z4 : w3.heap.size < w4.heap.size := by have := b4.size; simp at this; omega
  have HRow4 : Hid (w4.ownsRow w1.heap.size 3 1 (.slice (some ⟨g, 0, none⟩) (m + 2) (m + 2)) (m + 2) (nums zs ++ [.int .i64 (-71), .int .i64 (-72)])) := row_under (HRow3.out.alloc _) (fun j hj => (row_in (HRow3.out.alloc _) j hj).2) b4
  have HX4 : Hid (w4.ownsRow (w2.heap.size + 1) 3 1 (.slice p3 m' c3) m' (nums zs')) := row_under (HX3.out.alloc _) (fun j hj => (row_in (HX3.out.alloc _) j hj).2) b4
  have HY4 : Hid (w4.ownsRow (w3.heap.size + 1) 3 1 (.slice p4 m' c4) m' (nums zs')) := row_mono hx4 (by simp)
  have HXL : Hid (∀ j, (Value.slice p3 m' c3).ownBlock = some j → w2.heap.size + 1 ≤ j ∧ j < w3.heap.size) := row_in HX3.out
  clear hx4 HRow3 e3 o3 b4 HX3
  go_wp2_with fail
  refine (HR.out _ (Q4.alloc Q4.size _)).mono ?_
  rintro r w5 ⟨p5, c5, rfl, hx5, b5⟩
  have x5 : ∀ j, w5.cell? ⟨w3.heap.size, j, none⟩ = (#[.int .i64 k', .string t', .int .i64 n', .int .u64 f', .string s', .int .i64 q0, .int .i64 q1, .int .i64 q2, .int .i64 q3, .slice p3 m' c3, .slice none 0 0] : Array Value)[j]? := fun j => by rw [b5.cell (p := ⟨w3.heap.size, j, none⟩) (by simp; omega), World.cell?_alloc_lt _ _ _ z4]; exact x4 j
  have v5 := one_kept _ _ _ b5
  have e5 : ∀ j, w5.cell? ⟨w.heap.size, j, none⟩ = (#[.int .i64 k, .string t, .int .i64 a, .int .u64 f, .string s, .int .i64 r0, .int .i64 r1, .int .i64 r2, .int .i64 r3, .slice pp m c, .slice ip il ic] : Array Value)[j]? := fun j => by rw [b5.cell (p := ⟨w.heap.size, j, none⟩) (by simp; omega), World.cell?_alloc_lt _ _ _ (by simp; omega)]; exact e4 j
  have Q5 := bnext Q4 Q4.size b5
  have y5 : w.heap.size < w5.heap.size := by have := b5.size; simp at this; omega
  have t5 : w3.heap.size < w5.heap.size := by have := b5.size; simp at this; omega
  have z5 : w4.heap.size < w5.heap.size := by have := b5.size; simp at this; omega
  have HRow5 : Hid (w5.ownsRow w1.heap.size 3 1 (.slice (some ⟨g, 0, none⟩) (m + 2) (m + 2)) (m + 2) (nums zs ++ [.int .i64 (-71), .int .i64 (-72)])) := row_under (HRow4.out.alloc _) (fun j hj => (row_in (HRow4.out.alloc _) j hj).2) b5
  have HX5 : Hid (w5.ownsRow (w2.heap.size + 1) 3 1 (.slice p3 m' c3) m' (nums zs')) := row_under (HX4.out.alloc _) (fun j hj => (row_in (HX4.out.alloc _) j hj).2) b5
  have HY5 : Hid (w5.ownsRow (w3.heap.size + 1) 3 1 (.slice p4 m' c4) m' (nums zs')) := row_under (HY4.out.alloc _) (fun j hj => (row_in (HY4.out.alloc _) j hj).2) b5
  have HYL : Hid (∀ j, (Value.slice p4 m' c4).ownBlock = some j → w3.heap.size + 1 ≤ j ∧ j < w4.heap.size) := row_in HY4.out
  have HZ5 : Hid (w5.ownsRow (w4.heap.size + 1) 3 1 (.slice p5 m' c5) m' (nums zs')) := row_mono hx5 (by simp)
  have HZL : Hid (∀ j, (Value.slice p5 m' c5).ownBlock = some j → w4.heap.size + 1 ≤ j ∧ j < w5.heap.size) := row_in HZ5.out
  clear hx5 HRow4 HX4 HY4 e4 x4 b5
  go_wp2_with fail
  obtain ⟨V, hV⟩ : ∃ V, V = (w5.alloc (.cells #[.int .i64 k', .string t', .int .i64 n', .int .u64 f', .string s', .int .i64 q0, .int .i64 q1, .int .i64 q2, .int .i64 q3, .slice p5 m' c5, .slice none 0 0] 28)).alloc (.cells #[.string ⟨#[]⟩, .string ⟨#[]⟩] 35) := ⟨_, rfl⟩
  have zV : V.heap.size = w5.heap.size + 1 + 1 := by rw [hV]; simp
  have QV : Below w.heap.size w V := by rw [hV]; exact (Q5.alloc Q5.size _).alloc (by simp; omega) _
  have xV : ∀ j, V.cell? ⟨w3.heap.size, j, none⟩ = (#[.int .i64 k', .string t', .int .i64 n', .int .u64 f', .string s', .int .i64 q0, .int .i64 q1, .int .i64 q2, .int .i64 q3, .slice p3 m' c3, .slice none 0 0] : Array Value)[j]? := fun j => by rw [hV, World.cell?_alloc_lt _ _ _ (by simp; omega), World.cell?_alloc_lt _ _ _ t5]; exact x5 j
  have vV : ∀ j, V.cell? ⟨w4.heap.size, j, none⟩ = (#[.int .i64 k', .string t', .int .i64 n', .int .u64 f', .string s', .int .i64 q0, .int .i64 q1, .int .i64 q2, .int .i64 q3, .slice p4 m' c4, .slice none 0 0] : Array Value)[j]? := fun j => by rw [hV, World.cell?_alloc_lt _ _ _ (by simp; omega), World.cell?_alloc_lt _ _ _ z5]; exact v5 j
  have uV : (∀ j, V.cell? ⟨w5.heap.size, j, none⟩ = (#[.int .i64 k', .string t', .int .i64 n', .int .u64 f', .string s', .int .i64 q0, .int .i64 q1, .int .i64 q2, .int .i64 q3, .slice p5 m' c5, .slice none 0 0] : Array Value)[j]?) ∧ (∀ j, V.cell? ⟨w5.heap.size + 1, j, none⟩ = (#[.string ⟨#[]⟩, .string ⟨#[]⟩] : Array Value)[j]?) := by rw [hV]; exact two_kept _ _ _ _ (Below.refl _ _)
  have HRV : Hid (V.ownsRow w1.heap.size 3 1 (.slice (some ⟨g, 0, none⟩) (m + 2) (m + 2)) (m + 2) (nums zs ++ [.int .i64 (-71), .int .i64 (-72)]) ∧ V.ownsRow (w2.heap.size + 1) 3 1 (.slice p3 m' c3) m' (nums zs') ∧ V.ownsRow (w3.heap.size + 1) 3 1 (.slice p4 m' c4) m' (nums zs') ∧ V.ownsRow (w4.heap.size + 1) 3 1 (.slice p5 m' c5) m' (nums zs')) := by
    rw [hV]; exact ⟨(HRow5.out.alloc _).alloc _, (HX5.out.alloc _).alloc _, (HY5.out.alloc _).alloc _, (HZ5.out.alloc _).alloc _⟩
  rw [← hV]
  clear hV HRow5 HX5 HY5 HZ5 x5 v5 e5 Q5
  refine (back_any (B := w1.heap.size) k t a f s r0 r1 r2 r3 (.slice ip il ic) pp m c g (m + 2) zs V ((HP.out.kept QV).mono (by omega)) (by omega) hm HRV.out.1).mono ?_
  rintro r w6 ⟨rfl, g6⟩
  have K6 : Hid (∀ W, Below w6.heap.size w6 W → ((∀ j, W.cell? ⟨w3.heap.size, j, none⟩ = (#[.int .i64 k', .string t', .int .i64 n', .int .u64 f', .string s', .int .i64 q0, .int .i64 q1, .int .i64 q2, .int .i64 q3, .slice p3 m' c3, .slice none 0 0] : Array Value)[j]?) ∧ (∀ j, W.cell? ⟨w4.heap.size, j, none⟩ = (#[.int .i64 k', .string t', .int .i64 n', .int .u64 f', .string s', .int .i64 q0, .int .i64 q1, .int .i64 q2, .int .i64 q3, .slice p4 m' c4, .slice none 0 0] : Array Value)[j]?) ∧ (∀ j, W.cell? ⟨w5.heap.size, j, none⟩ = (#[.int .i64 k', .string t', .int .i64 n', .int .u64 f', .string s', .int .i64 q0, .int .i64 q1, .int .i64 q2, .int .i64 q3, .slice p5 m' c5, .slice none 0 0] : Array Value)[j]?) ∧ (∀ j, W.cell? ⟨w5.heap.size + 1, j, none⟩ = (#[.string ⟨#[]⟩, .string ⟨#[]⟩] : Array Value)[j]?)) ∧ w3.heap.size < W.heap.size ∧ w4.heap.size < W.heap.size ∧ w5.heap.size < W.heap.size ∧ w5.heap.size + 1 < W.heap.size) := fun W hW => by
    have hs := g6.size
    have hs2 := hW.size
    have hk : ∀ b j, b < V.heap.size → b ≠ g → W.cell? ⟨b, j, none⟩ = V.cell? ⟨b, j, none⟩ := fun b j hb hne => (hW.cell (p := ⟨b, j, none⟩) (by show b < _; omega)).trans (World.cell?_of_block (g6.block b hb (fun e => hne (Option.some.inj e))))
    exact ⟨⟨fun j => (hk _ j (by omega) (by omega)).trans (xV j), fun j => (hk _ j (by omega) (by omega)).trans (vV j), fun j => (hk _ j (by omega) (by omega)).trans (uV.1 j), fun j => (hk _ j (by omega) (by omega)).trans (uV.2 j)⟩, by omega, by omega, by omega, by omega⟩
  have R6 : Hid (w6.ownsRow (w2.heap.size + 1) 3 1 (.slice p3 m' c3) m' (nums zs') ∧ w6.ownsRow (w3.heap.size + 1) 3 1 (.slice p4 m' c4) m' (nums zs') ∧ w6.ownsRow (w4.heap.size + 1) 3 1 (.slice p5 m' c5) m' (nums zs')) := by
    refine ⟨HRV.out.2.1.kept g6 ?_, HRV.out.2.2.1.kept g6 ?_, HRV.out.2.2.2.kept g6 ?_⟩
    · cases hq : (Value.slice p3 m' c3).ownBlock with
      | none => exact .inl rfl
      | some g' => exact .inr fun h => by have := Option.some.inj h; have := HXL.out g' hq; omega
    · cases hq : (Value.slice p4 m' c4).ownBlock with
      | none => exact .inl rfl
      | some g' => exact .inr fun h => by have := Option.some.inj h; have := HYL.out g' hq; omega
    · cases hq : (Value.slice p5 m' c5).ownBlock with
      | none => exact .inl rfl
      | some g' => exact .inr fun h => by have := Option.some.inj h; have := HZL.out g' hq; omega
  have Q6 : Below w.heap.size w w6 := Below.grown QV g6 (by omega) (fun j hj => by have := Option.some.inj hj; omega)
  have s6 := g6.size
  clear xV vV uV HRV g6
  obtain ⟨⟨a6, d6, f6, h6⟩, i6, j6, l6, m6⟩ := K6.out w6 (Below.refl _ _)
  go_wp2_with fail
  refine (same_rows k' t' n' f' s' q0 q1 q2 q3 _ _ m' zs' w6 hl' hm' R6.out.1 R6.out.2.2).mono ?_
  rintro r w7 ⟨rfl, b7⟩
  clear a6 d6 f6 h6 i6 j6 l6 m6
  obtain ⟨⟨a7, d7, f7, h7⟩, i7, j7, l7, m7⟩ := K6.out w7 b7
  have R7 : Hid (w7.ownsRow (w2.heap.size + 1) 3 1 (.slice p3 m' c3) m' (nums zs') ∧ w7.ownsRow (w3.heap.size + 1) 3 1 (.slice p4 m' c4) m' (nums zs') ∧ w7.ownsRow (w4.heap.size + 1) 3 1 (.slice p5 m' c5) m' (nums zs')) :=
    ⟨row_under R6.out.1 (fun j hj => (row_in R6.out.1 j hj).2) b7, row_under R6.out.2.1 (fun j hj => (row_in R6.out.2.1 j hj).2) b7, row_under R6.out.2.2 (fun j hj => (row_in R6.out.2.2 j hj).2) b7⟩
  go_wp2_with fail
  refine (same_rows k' t' n' f' s' q0 q1 q2 q3 _ _ m' zs' w7 hl' hm' R7.out.2.1 R7.out.2.2).mono ?_
  rintro r w8 ⟨rfl, b8⟩
  have c8 := b7.trans (b8.mono b7.size)
  clear a7 d7 f7 h7 i7 j7 l7 m7 R7
  obtain ⟨⟨a8, d8, f8, h8⟩, i8, j8, l8, m8⟩ := K6.out w8 c8
  go_wp2_with fail
  refine (told_nil _).mono ?_
  rintro r w9 ⟨rfl, b9⟩
  have c9 := c8.trans (b9.mono c8.size)
  clear a8 d8 f8 h8 i8 j8 l8 m8
  obtain ⟨⟨a9, d9, f9, h9⟩, i9, j9, l9, m9⟩ := K6.out w9 c9
  go_wp2_with fail
  refine (told_nil _).mono ?_
  rintro r w10 ⟨rfl, b10⟩
  have c10 := c9.trans (b10.mono c9.size)
  clear a9 d9 f9 h9 i9 j9 l9 m9
  obtain ⟨⟨a10, d10, f10, h10⟩, i10, j10, l10, m10⟩ := K6.out w10 c10
  go_wp2_with fail
  refine (fresh_nil _).mono ?_
  rintro r w11 ⟨rfl, rfl⟩
  have X10 : w11.ownsRow (w2.heap.size + 1) 3 1 (.slice p3 m' c3) m' (nums zs') := row_under R6.out.1 (fun j hj => (row_in R6.out.1 j hj).2) c10
  have Y10 : w11.ownsRow (w3.heap.size + 1) 3 1 (.slice p4 m' c4) m' (nums zs') := row_under R6.out.2.1 (fun j hj => (row_in R6.out.2.1 j hj).2) c10
  have HO : Hid (Calls Tryd.prog 21 #[.slice p3 m' c3, .slice p4 m' c4] w11 fun e w' => e = .returned (.bool true) ∧ Below w.heap.size w11 w') := by
    by_cases h0 : 0 < m'
    · subst hl'
      exact (owns_some (B1 := w2.heap.size + 1) (B2 := w3.heap.size + 1) (.slice p3 zs'.length c3) (.slice p4 zs'.length c4) zs' w11 X10 Y10 (fun j hj => by have := HXL.out j hj; omega) (by omega) (by omega) (by omega) h0).mono fun e w' h => ⟨h.1, h.2.mono (by omega)⟩
    · have h00 : m' = 0 := by omega
      rw [hn3 h00, hn4 h00]
      exact (owns_nil w11).mono fun e w' h => ⟨h.1, h.2.mono (by omega)⟩
  clear X10 Y10
  go_wp2_with fail
  refine HO.out.mono ?_
  rintro r w12 ⟨rfl, b12⟩
  go_wp2_with fail
  go_ret
  exact ⟨rfl, (Q6.trans (c10.mono (by omega))).trans b12⟩
end Go.Proofs.YtoplmbboaobahaaDoor
