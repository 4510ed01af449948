/-
  The walk of NumberConvert, where there is no such conversion.
-/
import Derived.Test.YtoplmbboaobahaaDoorPe
namespace Go.Proofs.YtoplmbboaobahaaDoor
open Go.RowKit

attribute [local go_sem] refold2 cell3_0 cell3_1 b28_0 b28_01 b28_012 b28_013 b28_014 b35_01 b35_0 b35 mkI69 ta69

set_option maxRecDepth 100000 in
set_option maxHeartbeats 8000000 in
theorem convertLaw_bad (kd : Int) (u : ByteArray) (k : Int) (t : ByteArray) (a f : Int) (s : ByteArray) (r0 r1 r2 r3 : Int) (pp : Option Addr) (m c : Nat) (zs : List Int) (ip : Option Addr) (il ic : Nat) (w : World) (hP : PathAt w w.heap.size pp m zs) (hm : m ≤ 1048576) (x y : ByteArray) (hy : y.size ≠ 0)
    (HU : Hid (∀ W g, Calls Tryd.prog 18 #[.int .i64 kd, .string u, .agg #[.int .i64 k, .string t, .int .i64 a, .int .u64 f, .string s, .int .i64 r0, .int .i64 r1, .int .i64 r2, .int .i64 r3, .slice (some ⟨g, 0, none⟩) m (m + 2), .slice ip il ic]] W fun r w' => ∃ n, r = .returned (.tuple #[.agg #[.int .i64 0, .string ⟨#[]⟩, .int .i64 0, .int .u64 0, .string ⟨#[]⟩, .int .i64 0, .int .i64 0, .int .i64 0, .int .i64 0, .slice none 0 0, .slice none 0 0], .iface 69 (.pointer (some ⟨n, 0, none⟩))]) ∧ W.heap.size ≤ n ∧ w'.heap[n]? = some (.cells #[.string y, .string x] 35 (0, 0)) ∧ Below W.heap.size W w'))
    (HR : Hid (∀ W, Calls Tryd.prog 19 #[.int .i64 kd, .string u, .agg #[.int .i64 k, .string t, .int .i64 a, .int .u64 f, .string s, .int .i64 r0, .int .i64 r1, .int .i64 r2, .int .i64 r3, .slice pp m c, .slice ip il ic]] W fun r w' => r = .returned (.tuple #[.agg #[.int .i64 0, .string ⟨#[]⟩, .int .i64 0, .int .u64 0, .string ⟨#[]⟩, .int .i64 0, .int .i64 0, .int .i64 0, .int .i64 0, .slice none 0 0, .slice none 0 0], .agg #[.string y, .string x]]) ∧ Below W.heap.size W w')) :
    Calls Tryd.prog 5 #[.int .i64 kd, .string u, D k t a f s r0 r1 r2 r3 (.slice pp m c) (.slice ip il ic)] w fun r w' => r = .returned (.bool true) ∧ Below w.heap.size w w' := by
  have HS : Hid (∀ W, Calls Tryd.prog 12 #[.agg #[.int .i64 0, .string ⟨#[]⟩, .int .i64 0, .int .u64 0, .string ⟨#[]⟩, .int .i64 0, .int .i64 0, .int .i64 0, .int .i64 0, .slice none 0 0, .slice none 0 0], .agg #[.int .i64 0, .string ⟨#[]⟩, .int .i64 0, .int .u64 0, .string ⟨#[]⟩, .int .i64 0, .int .i64 0, .int .i64 0, .int .i64 0, .slice none 0 0, .slice none 0 0]] W fun r w' => r = .returned (.bool true) ∧ Below W.heap.size W w') := fun W => same_refl 0 ⟨#[]⟩ 0 0 ⟨#[]⟩ W
  have HP : Hid _ := hP
  clear hP
  simp only [D]
  go_enter Tryd.func5, Tryd.ntmps5
  go_wp2_with fail
  refine (known_any _).mono ?_
  rintro r w1 ⟨rfl, b1⟩
  have e1 := one_kept _ _ _ b1
  have y1 : w.heap.size < w1.heap.size := by have := b1.size; simp at this; omega
  have Q1 := bnext (Below.refl w.heap.size w) (Nat.le_refl _) b1
  go_wp2_with fail
  refine (lent_any k t a f s r0 r1 r2 r3 ip il ic pp m c zs w1 ((HP.out.kept Q1).mono Q1.size) hm).mono ?_
  simp only [D]
  rintro r w2 ⟨g, rfl, hrow2, b2⟩
  have e2 : ∀ j, w2.cell? ⟨w.heap.size, j, none⟩ = (#[.int .i64 k, .string t, .int .i64 a, .int .u64 f, .string s, .int .i64 r0, .int .i64 r1, .int .i64 r2, .int .i64 r3, .slice pp m c, .slice ip il ic] : Array Value)[j]? := fun j => (b2.cell (p := ⟨w.heap.size, j, none⟩) y1).trans (e1 j)
  have Q2 := Q1.trans (b2.mono Q1.size)
  have y2 : w.heap.size < w2.heap.size := by have := b2.size; omega
  have h12 : w1.heap.size ≤ w2.heap.size := b2.size
  obtain ⟨hg1, hg2⟩ := hrow2.lt g rfl
  have HRow2 : Hid (w2.ownsRow w1.heap.size 3 1 (.slice (some ⟨g, 0, none⟩) (m + 2) (m + 2)) (m + 2) (nums zs ++ [.int .i64 (-71), .int .i64 (-72)])) := hrow2
  clear hrow2 e1 Q1 b1
  go_wp2_with fail
  refine (HU.out _ g).mono ?_
  rintro r w3 ⟨n3, rfl, hn3, hr3, b3⟩
  have e3 : ∀ j, w3.cell? ⟨w.heap.size, j, none⟩ = (#[.int .i64 k, .string t, .int .i64 a, .int .u64 f, .string s, .int .i64 r0, .int .i64 r1, .int .i64 r2, .int .i64 r3, .slice pp m c, .slice ip il ic] : Array Value)[j]? := fun j => by rw [b3.cell (p := ⟨w.heap.size, j, none⟩) (by simp; omega), World.cell?_alloc_lt _ _ _ y2]; exact e2 j
  have o3 := one_kept _ _ _ b3
  have Q3 := bnext Q2 Q2.size b3
  have z3 : w2.heap.size < w3.heap.size := by have := b3.size; simp at this; omega
  have k3 : n3 < w3.heap.size := row_lt hr3
  have l3 : w2.heap.size + 1 ≤ n3 := by simpa using hn3
  have HRow3 : Hid (w3.ownsRow w1.heap.size 3 1 (.slice (some ⟨g, 0, none⟩) (m + 2) (m + 2)) (m + 2) (nums zs ++ [.int .i64 (-71), .int .i64 (-72)])) := row_under (HRow2.out.alloc _) (fun j hj => (row_in (HRow2.out.alloc _) j hj).2) b3
  have HX3 : Hid (w3.heap[n3]? = some (.cells #[.string y, .string x] 35 (0, 0))) := hr3
  clear hr3 hn3 HRow2 e2 b3
  go_wp2_with fail
  refine (HU.out _ g).mono ?_
  rintro r w4 ⟨n4, rfl, hn4, hr4, b4⟩
  have e4 : ∀ j, w4.cell? ⟨w.heap.size, j, none⟩ = (#[.int .i64 k, .string t, .int .i64 a, .int .u64 f, .string s, .int .i64 r0, .int .i64 r1, .int .i64 r2, .int .i64 r3, .slice pp m c, .slice ip il ic] : Array Value)[j]? := fun j => by rw [b4.cell (p := ⟨w.heap.size, j, none⟩) (by simp; omega), World.cell?_alloc_lt _ _ _ (by simp; omega)]; exact e3 j
  have x4 := one_kept _ _ _ b4
  have Q4 := bnext Q3 Q3.size b4
  have y4 : w.heap.size < w4.heap.size := by have := b4.size; simp at this; omega
  have z4 : w3.heap.size < w4.heap.size := by have := b4.size; simp at this; omega
  have k4 : n4 < w4.heap.size := row_lt hr4
  have l4 : w3.heap.size + 1 ≤ n4 := by simpa using hn4
  have HRow4 : Hid (w4.ownsRow w1.heap.size 3 1 (.slice (some ⟨g, 0, none⟩) (m + 2) (m + 2)) (m + 2) (nums zs ++ [.int .i64 (-71), .int .i64 (-72)])) := row_under (HRow3.out.alloc _) (fun j hj => (row_in (HRow3.out.alloc _) j hj).2) b4
  have HX4 : Hid (w4.heap[n3]? = some (.cells #[.string y, .string x] 35 (0, 0))) := (b4.block n3 (by simp; omega)).trans ((Below.heap_alloc _ _ _ k3).trans HX3.out)
  have HY4 : Hid (w4.heap[n4]? = some (.cells #[.string y, .string x] 35 (0, 0))) := hr4
  clear hr4 hn4 HRow3 e3 o3 b4 HX3
  go_wp2_with fail
  refine (HR.out _).mono ?_
  rintro r w5 ⟨rfl, b5⟩
  have x5 : ∀ j, w5.cell? ⟨w3.heap.size, j, none⟩ = (#[.int .i64 0, .string ⟨#[]⟩, .int .i64 0, .int .u64 0, .string ⟨#[]⟩, .int .i64 0, .int .i64 0, .int .i64 0, .int .i64 0, .slice none 0 0, .slice none 0 0] : Array Value)[j]? := fun j => by rw [b5.cell (p := ⟨w3.heap.size, j, none⟩) (by simp; omega), World.cell?_alloc_lt _ _ _ z4]; exact x4 j
  have v5 := one_kept _ _ _ b5
  have e5 : ∀ j, w5.cell? ⟨w.heap.size, j, none⟩ = (#[.int .i64 k, .string t, .int .i64 a, .int .u64 f, .string s, .int .i64 r0, .int .i64 r1, .int .i64 r2, .int .i64 r3, .slice pp m c, .slice ip il ic] : Array Value)[j]? := fun j => by rw [b5.cell (p := ⟨w.heap.size, j, none⟩) (by simp; omega), World.cell?_alloc_lt _ _ _ (by simp; omega)]; exact e4 j
  have Q5 := bnext Q4 Q4.size b5
  have y5 : w.heap.size < w5.heap.size := by have := b5.size; simp at this; omega
  have t5 : w3.heap.size < w5.heap.size := by have := b5.size; simp at this; omega
  have z5 : w4.heap.size < w5.heap.size := by have := b5.size; simp at this; omega
  have HRow5 : Hid (w5.ownsRow w1.heap.size 3 1 (.slice (some ⟨g, 0, none⟩) (m + 2) (m + 2)) (m + 2) (nums zs ++ [.int .i64 (-71), .int .i64 (-72)])) := row_under (HRow4.out.alloc _) (fun j hj => (row_in (HRow4.out.alloc _) j hj).2) b5
  have HX5 : Hid (w5.heap[n3]? = some (.cells #[.string y, .string x] 35 (0, 0))) := (b5.block n3 (by simp; omega)).trans ((Below.heap_alloc _ _ _ (by omega)).trans HX4.out)
  have HY5 : Hid (w5.heap[n4]? = some (.cells #[.string y, .string x] 35 (0, 0))) := (b5.block n4 (by simp; omega)).trans ((Below.heap_alloc _ _ _ (by omega)).trans HY4.out)
  clear HRow4 HX4 HY4 e4 x4 b5
  go_wp2_with fail
  obtain ⟨V, hV⟩ : ∃ V, V = (w5.alloc (.cells #[.int .i64 0, .string ⟨#[]⟩, .int .i64 0, .int .u64 0, .string ⟨#[]⟩, .int .i64 0, .int .i64 0, .int .i64 0, .int .i64 0, .slice none 0 0, .slice none 0 0] 28)).alloc (.cells #[.string y, .string x] 35) := ⟨_, rfl⟩
  have zV : V.heap.size = w5.heap.size + 1 + 1 := by rw [hV]; simp
  have QV : Below w.heap.size w V := by rw [hV]; exact (Q5.alloc Q5.size _).alloc (by simp; omega) _
  have xV : ∀ j, V.cell? ⟨w3.heap.size, j, none⟩ = (#[.int .i64 0, .string ⟨#[]⟩, .int .i64 0, .int .u64 0, .string ⟨#[]⟩, .int .i64 0, .int .i64 0, .int .i64 0, .int .i64 0, .slice none 0 0, .slice none 0 0] : Array Value)[j]? := fun j => by rw [hV, World.cell?_alloc_lt _ _ _ (by simp; omega), World.cell?_alloc_lt _ _ _ t5]; exact x5 j
  have vV : ∀ j, V.cell? ⟨w4.heap.size, j, none⟩ = (#[.int .i64 0, .string ⟨#[]⟩, .int .i64 0, .int .u64 0, .string ⟨#[]⟩, .int .i64 0, .int .i64 0, .int .i64 0, .int .i64 0, .slice none 0 0, .slice none 0 0] : Array Value)[j]? := fun j => by rw [hV, World.cell?_alloc_lt _ _ _ (by simp; omega), World.cell?_alloc_lt _ _ _ z5]; exact v5 j
  have uV : (∀ j, V.cell? ⟨w5.heap.size, j, none⟩ = (#[.int .i64 0, .string ⟨#[]⟩, .int .i64 0, .int .u64 0, .string ⟨#[]⟩, .int .i64 0, .int .i64 0, .int .i64 0, .int .i64 0, .slice none 0 0, .slice none 0 0] : Array Value)[j]?) ∧ (∀ j, V.cell? ⟨w5.heap.size + 1, j, none⟩ = (#[.string y, .string x] : Array Value)[j]?) := by rw [hV]; exact two_kept _ _ _ _ (Below.refl _ _)
  have HRV : Hid (V.ownsRow w1.heap.size 3 1 (.slice (some ⟨g, 0, none⟩) (m + 2) (m + 2)) (m + 2) (nums zs ++ [.int .i64 (-71), .int .i64 (-72)]) ∧ V.heap[n3]? = some (.cells #[.string y, .string x] 35 (0, 0)) ∧ V.heap[n4]? = some (.cells #[.string y, .string x] 35 (0, 0))) := by
    rw [hV]; exact ⟨(HRow5.out.alloc _).alloc _, (Below.heap_alloc _ _ _ (by simp; omega)).trans ((Below.heap_alloc _ _ _ (by omega)).trans HX5.out), (Below.heap_alloc _ _ _ (by simp; omega)).trans ((Below.heap_alloc _ _ _ (by omega)).trans HY5.out)⟩
  rw [← hV]
  clear hV HRow5 HX5 HY5 x5 v5 e5 Q5
  refine (back_any (B := w1.heap.size) k t a f s r0 r1 r2 r3 (.slice ip il ic) pp m c g (m + 2) zs V ((HP.out.kept QV).mono (by omega)) (by omega) hm HRV.out.1).mono ?_
  rintro r w6 ⟨rfl, g6⟩
  have K6 : Hid (∀ W, Below w6.heap.size w6 W → ((∀ j, W.cell? ⟨w3.heap.size, j, none⟩ = (#[.int .i64 0, .string ⟨#[]⟩, .int .i64 0, .int .u64 0, .string ⟨#[]⟩, .int .i64 0, .int .i64 0, .int .i64 0, .int .i64 0, .slice none 0 0, .slice none 0 0] : Array Value)[j]?) ∧ (∀ j, W.cell? ⟨w4.heap.size, j, none⟩ = (#[.int .i64 0, .string ⟨#[]⟩, .int .i64 0, .int .u64 0, .string ⟨#[]⟩, .int .i64 0, .int .i64 0, .int .i64 0, .int .i64 0, .slice none 0 0, .slice none 0 0] : Array Value)[j]?) ∧ (∀ j, W.cell? ⟨w5.heap.size, j, none⟩ = (#[.int .i64 0, .string ⟨#[]⟩, .int .i64 0, .int .u64 0, .string ⟨#[]⟩, .int .i64 0, .int .i64 0, .int .i64 0, .int .i64 0, .slice none 0 0, .slice none 0 0] : Array Value)[j]?) ∧ (∀ j, W.cell? ⟨w5.heap.size + 1, j, none⟩ = (#[.string y, .string x] : Array Value)[j]?)) ∧ w3.heap.size < W.heap.size ∧ w4.heap.size < W.heap.size ∧ w5.heap.size < W.heap.size ∧ w5.heap.size + 1 < W.heap.size) := fun W hW => by
    have hs := g6.size
    have hs2 := hW.size
    have hk : ∀ b j, b < V.heap.size → b ≠ g → W.cell? ⟨b, j, none⟩ = V.cell? ⟨b, j, none⟩ := fun b j hb hne => (hW.cell (p := ⟨b, j, none⟩) (by show b < _; omega)).trans (World.cell?_of_block (g6.block b hb (fun e => hne (Option.some.inj e))))
    exact ⟨⟨fun j => (hk _ j (by omega) (by omega)).trans (xV j), fun j => (hk _ j (by omega) (by omega)).trans (vV j), fun j => (hk _ j (by omega) (by omega)).trans (uV.1 j), fun j => (hk _ j (by omega) (by omega)).trans (uV.2 j)⟩, by omega, by omega, by omega, by omega⟩
  have R6 : Hid (∀ W, Below w6.heap.size w6 W → W.heap[n3]? = some (.cells #[.string y, .string x] 35 (0, 0)) ∧ W.heap[n4]? = some (.cells #[.string y, .string x] 35 (0, 0))) := fun W hW => by
    have hs := g6.size
    exact ⟨(hW.block n3 (by omega)).trans ((g6.block n3 (by omega) (fun e => by have := Option.some.inj e; omega)).trans HRV.out.2.1), (hW.block n4 (by omega)).trans ((g6.block n4 (by omega) (fun e => by have := Option.some.inj e; omega)).trans HRV.out.2.2)⟩
  have Q6 : Below w.heap.size w w6 := Below.grown QV g6 (by omega) (fun j hj => by have := Option.some.inj hj; omega)
  have s6 := g6.size
  have hne : n3 ≠ n4 := by omega
  clear xV vV uV HRV g6
  obtain ⟨⟨a6, d6, f6, h6⟩, i6, j6, l6, m6⟩ := K6.out w6 (Below.refl _ _)
  go_wp2_with fail
  refine (HS.out _).mono ?_
  rintro r w7 ⟨rfl, b7⟩
  clear a6 d6 f6 h6 i6 j6 l6 m6
  obtain ⟨⟨a7, d7, f7, h7⟩, i7, j7, l7, m7⟩ := K6.out w7 b7
  go_wp2_with fail
  refine (HS.out _).mono ?_
  rintro r w8 ⟨rfl, b8⟩
  have c8 := b7.trans (b8.mono b7.size)
  clear a7 d7 f7 h7 i7 j7 l7 m7
  obtain ⟨⟨a8, d8, f8, h8⟩, i8, j8, l8, m8⟩ := K6.out w8 c8
  go_wp2_with fail
  refine (told_hit n3 _ _ _ (R6.out _ c8).1 hy).mono ?_
  rintro r w9 ⟨rfl, b9⟩
  have c9 := c8.trans (b9.mono c8.size)
  clear a8 d8 f8 h8 i8 j8 l8 m8
  obtain ⟨⟨a9, d9, f9, h9⟩, i9, j9, l9, m9⟩ := K6.out w9 c9
  go_wp2_with fail
  refine (told_hit n4 _ _ _ (R6.out _ c9).2 hy).mono ?_
  rintro r w10 ⟨rfl, b10⟩
  have c10 := c9.trans (b10.mono c9.size)
  clear a9 d9 f9 h9 i9 j9 l9 m9
  obtain ⟨⟨a10, d10, f10, h10⟩, i10, j10, l10, m10⟩ := K6.out w10 c10
  go_wp2_with fail
  refine (fresh_two n3 n4 _ _ _ _ _ hne (R6.out _ c10).1 (R6.out _ c10).2).mono ?_
  rintro r w11 ⟨rfl, rfl⟩
  go_wp2_with fail
  refine (owns_nil _).mono ?_
  rintro r w12 ⟨rfl, b12⟩
  go_wp2_with fail
  go_ret
  exact ⟨rfl, (Q6.trans (c10.mono (by omega))).trans (b12.mono (by have := c10.size; omega))⟩
end Go.Proofs.YtoplmbboaobahaaDoor
