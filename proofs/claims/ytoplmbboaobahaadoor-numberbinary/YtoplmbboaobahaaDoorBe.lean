/-
  Binary, where there is no such operation.
-/
import Derived.Test.YtoplmbboaobahaaDoorBd
namespace Go.Proofs.YtoplmbboaobahaaDoor
open Go.RowKit
attribute [local go_sem] refold2 cell3_0 cell3_1 b28_0 b28_01 b28_012 b28_013 b28_014 b35_01 b35_0 b35 mkI69

/-- A text that is no operation of two. -/
structure NoOp (u : ByteArray) : Prop where
  nadd : (u.toList == [43]) = false
  nsub : (u.toList == [45]) = false
  nmul : (u.toList == [42]) = false
  nquo : (u.toList == [47]) = false
  nrem : (u.toList == [37]) = false
  nand : (u.toList == [38]) = false
  nor : (u.toList == [124]) = false
  nxor : (u.toList == [94]) = false
  nshl : (u.toList == [60, 60]) = false
  nshr : (u.toList == [62, 62]) = false
  nlt : (u.toList == [60]) = false
  nle : (u.toList == [60, 61]) = false
  ngt : (u.toList == [62]) = false
  nge : (u.toList == [62, 61]) = false

set_option maxRecDepth 100000 in
set_option maxHeartbeats 8000000 in
theorem binary_badK (u : ByteArray) (k : Int) (t : ByteArray) (a f : Int) (s : ByteArray) (r0 r1 r2 r3 : Int) (p i : Value) (k2 : Int) (t2 : ByteArray) (b f2 : Int) (s2 : ByteArray) (q0 q1 q2 q3 : Int) (p2 i2 : Value) (w : World) (ht : t.size ≤ 140737488351232) (ht2 : t2.size ≤ 140737488351232) (hu : u.size ≤ 140737488351232) (h : k ≠ k2) :
    Calls Tryd.prog 15 #[.string u, D k t a f s r0 r1 r2 r3 p i, D k2 t2 b f2 s2 q0 q1 q2 q3 p2 i2] w fun r w' => ∃ n, r = .returned (.tuple #[.agg #[.int .i64 0, .string ⟨#[]⟩, .int .i64 0, .int .u64 0, .string ⟨#[]⟩, .int .i64 0, .int .i64 0, .int .i64 0, .int .i64 0, .slice none 0 0, .slice none 0 0], .iface 69 (.pointer (some ⟨n, 0, none⟩))]) ∧ w.heap.size ≤ n ∧ w'.heap[n]? = some (.cells #[.string ⟨#[111, 112, 101, 114, 97, 110, 100]⟩, .string (opd2 u k t k2 t2)] 35 (0, 0)) ∧ Below w.heap.size w w' := by
  have HU : Hid (∀ W, Calls Tryd.prog 41 #[.string u, D k t a f s r0 r1 r2 r3 p i, D k2 t2 b f2 s2 q0 q1 q2 q3 p2 i2] W fun r w' => ∃ n, r = .returned (.iface 69 (.pointer (some ⟨n, 0, none⟩))) ∧ W.heap.size ≤ n ∧ w'.heap[n]? = some (.cells #[.string ⟨#[111, 112, 101, 114, 97, 110, 100]⟩, .string (opd2 u k t k2 t2)] 35 (0, 0)) ∧ Below W.heap.size W w') := fun W => unlike_any _ k t a f s r0 r1 r2 r3 p i _ _ b f2 s2 q0 q1 q2 q3 p2 i2 W ht ht2 hu
  generalize opd2 u k t k2 t2 = x at HU ⊢
  clear ht
  simp only [D] at HU ⊢
  · skip
    go_enter Tryd.func15, Tryd.ntmps15
    go_wp2_with fail
    refine (HU.out _).mono ?_
    rintro e w2 ⟨n, rfl, hn, hrow, hb⟩
    simp at hn
    have HR : Hid _ := hrow
    clear hrow
    obtain ⟨⟨c0, c1, c2, c3, c4, c5, c6, c7, c8, c9, c10⟩, hf2⟩ := box_kept ((hb.block (w.heap.size + 1 + 1) (by simp)).trans (heap3_2 _ _ _ _))
    go_wp2_with fail
    refine bodyPost_ret (v := .tuple #[.agg #[.int .i64 0, .string ⟨#[]⟩, .int .i64 0, .int .u64 0, .string ⟨#[]⟩, .int .i64 0, .int .i64 0, .int .i64 0, .int .i64 0, .slice none 0 0, .slice none 0 0], .iface 69 (.pointer (some ⟨n, 0, none⟩))]) (by simp [results, Tryd.results15, go_sem, c0, c1, c2, c3, c4, c5, c6, c7, c8, c9, c10]) rfl ⟨n, rfl, by omega, ?_, ?_⟩
    · rw [set11_other _ _ _ _ _ _ _ _ _ _ _ _ _ _ (by omega)]; exact HR.out
    · exact bset ((below3 w _ _ _).trans (hb.mono (by simp; omega))) (by omega) _ _ _ _ _ _ _ _ _ _ _

set_option maxRecDepth 100000 in
set_option maxHeartbeats 8000000 in
theorem binary_badT (u : ByteArray) (k : Int) (t : ByteArray) (a f : Int) (s : ByteArray) (r0 r1 r2 r3 : Int) (p i : Value) (t2 : ByteArray) (b f2 : Int) (s2 : ByteArray) (q0 q1 q2 q3 : Int) (p2 i2 : Value) (w : World) (ht : t.size ≤ 140737488351232) (ht2 : t2.size ≤ 140737488351232) (hu : u.size ≤ 140737488351232) (h : (t.toList == t2.toList) = false) :
    Calls Tryd.prog 15 #[.string u, D k t a f s r0 r1 r2 r3 p i, D k t2 b f2 s2 q0 q1 q2 q3 p2 i2] w fun r w' => ∃ n, r = .returned (.tuple #[.agg #[.int .i64 0, .string ⟨#[]⟩, .int .i64 0, .int .u64 0, .string ⟨#[]⟩, .int .i64 0, .int .i64 0, .int .i64 0, .int .i64 0, .slice none 0 0, .slice none 0 0], .iface 69 (.pointer (some ⟨n, 0, none⟩))]) ∧ w.heap.size ≤ n ∧ w'.heap[n]? = some (.cells #[.string ⟨#[111, 112, 101, 114, 97, 110, 100]⟩, .string (opd2 u k t k t2)] 35 (0, 0)) ∧ Below w.heap.size w w' := by
  have HU : Hid (∀ W, Calls Tryd.prog 41 #[.string u, D k t a f s r0 r1 r2 r3 p i, D k t2 b f2 s2 q0 q1 q2 q3 p2 i2] W fun r w' => ∃ n, r = .returned (.iface 69 (.pointer (some ⟨n, 0, none⟩))) ∧ W.heap.size ≤ n ∧ w'.heap[n]? = some (.cells #[.string ⟨#[111, 112, 101, 114, 97, 110, 100]⟩, .string (opd2 u k t k t2)] 35 (0, 0)) ∧ Below W.heap.size W w') := fun W => unlike_any _ k t a f s r0 r1 r2 r3 p i _ _ b f2 s2 q0 q1 q2 q3 p2 i2 W ht ht2 hu
  generalize opd2 u k t k t2 = x at HU ⊢
  clear ht
  simp only [D] at HU ⊢
  · skip
    go_enter Tryd.func15, Tryd.ntmps15
    go_wp2_with fail
    refine (HU.out _).mono ?_
    rintro e w2 ⟨n, rfl, hn, hrow, hb⟩
    simp at hn
    have HR : Hid _ := hrow
    clear hrow
    obtain ⟨⟨c0, c1, c2, c3, c4, c5, c6, c7, c8, c9, c10⟩, hf2⟩ := box_kept ((hb.block (w.heap.size + 1 + 1) (by simp)).trans (heap3_2 _ _ _ _))
    go_wp2_with fail
    refine bodyPost_ret (v := .tuple #[.agg #[.int .i64 0, .string ⟨#[]⟩, .int .i64 0, .int .u64 0, .string ⟨#[]⟩, .int .i64 0, .int .i64 0, .int .i64 0, .int .i64 0, .slice none 0 0, .slice none 0 0], .iface 69 (.pointer (some ⟨n, 0, none⟩))]) (by simp [results, Tryd.results15, go_sem, c0, c1, c2, c3, c4, c5, c6, c7, c8, c9, c10]) rfl ⟨n, rfl, by omega, ?_, ?_⟩
    · rw [set11_other _ _ _ _ _ _ _ _ _ _ _ _ _ _ (by omega)]; exact HR.out
    · exact bset ((below3 w _ _ _).trans (hb.mono (by simp; omega))) (by omega) _ _ _ _ _ _ _ _ _ _ _

set_option maxRecDepth 100000 in
set_option maxHeartbeats 8000000 in
theorem binary_badN (u : ByteArray) (k : Int) (t : ByteArray) (a f : Int) (s : ByteArray) (r0 r1 r2 r3 : Int) (p i : Value) (b f2 : Int) (s2 : ByteArray) (q0 q1 q2 q3 : Int) (p2 i2 : Value) (w : World) (ht : t.size ≤ 140737488351232) (hu : u.size ≤ 140737488351232) (h : NoOp u) :
    Calls Tryd.prog 15 #[.string u, D k t a f s r0 r1 r2 r3 p i, D k t b f2 s2 q0 q1 q2 q3 p2 i2] w fun r w' => ∃ n, r = .returned (.tuple #[.agg #[.int .i64 0, .string ⟨#[]⟩, .int .i64 0, .int .u64 0, .string ⟨#[]⟩, .int .i64 0, .int .i64 0, .int .i64 0, .int .i64 0, .slice none 0 0, .slice none 0 0], .iface 69 (.pointer (some ⟨n, 0, none⟩))]) ∧ w.heap.size ≤ n ∧ w'.heap[n]? = some (.cells #[.string ⟨#[111, 112, 101, 114, 97, 110, 100]⟩, .string (opd2 u k t k t)] 35 (0, 0)) ∧ Below w.heap.size w w' := by
  have HU : Hid (∀ W, Calls Tryd.prog 41 #[.string u, D k t a f s r0 r1 r2 r3 p i, D k t b f2 s2 q0 q1 q2 q3 p2 i2] W fun r w' => ∃ n, r = .returned (.iface 69 (.pointer (some ⟨n, 0, none⟩))) ∧ W.heap.size ≤ n ∧ w'.heap[n]? = some (.cells #[.string ⟨#[111, 112, 101, 114, 97, 110, 100]⟩, .string (opd2 u k t k t)] 35 (0, 0)) ∧ Below W.heap.size W w') := fun W => unlike_any _ k t a f s r0 r1 r2 r3 p i _ _ b f2 s2 q0 q1 q2 q3 p2 i2 W ht ht hu
  generalize opd2 u k t k t = x at HU ⊢
  clear ht
  simp only [D] at HU ⊢
  obtain ⟨h0, h1, h2, h3, h4, h5, h6, h7, h8, h9, h10, h11, h12, h13⟩ := h
  · skip
    go_enter Tryd.func15, Tryd.ntmps15
    go_wp2_with fail
    refine (HU.out _).mono ?_
    rintro e w2 ⟨n, rfl, hn, hrow, hb⟩
    simp at hn
    have HR : Hid _ := hrow
    clear hrow
    obtain ⟨⟨c0, c1, c2, c3, c4, c5, c6, c7, c8, c9, c10⟩, hf2⟩ := box_kept ((hb.block (w.heap.size + 1 + 1) (by simp)).trans (heap3_2 _ _ _ _))
    go_wp2_with fail
    refine bodyPost_ret (v := .tuple #[.agg #[.int .i64 0, .string ⟨#[]⟩, .int .i64 0, .int .u64 0, .string ⟨#[]⟩, .int .i64 0, .int .i64 0, .int .i64 0, .int .i64 0, .slice none 0 0, .slice none 0 0], .iface 69 (.pointer (some ⟨n, 0, none⟩))]) (by simp [results, Tryd.results15, go_sem, c0, c1, c2, c3, c4, c5, c6, c7, c8, c9, c10]) rfl ⟨n, rfl, by omega, ?_, ?_⟩
    · rw [set11_other _ _ _ _ _ _ _ _ _ _ _ _ _ _ (by omega)]; exact HR.out
    · exact bset ((below3 w _ _ _).trans (hb.mono (by simp; omega))) (by omega) _ _ _ _ _ _ _ _ _ _ _

set_option maxRecDepth 100000 in
set_option maxHeartbeats 8000000 in
theorem binary_badC (o : COp) (k : Int) (t : ByteArray) (a f : Int) (s : ByteArray) (r0 r1 r2 r3 : Int) (p i : Value) (b f2 : Int) (s2 : ByteArray) (q0 q1 q2 q3 : Int) (p2 i2 : Value) (w : World) (ht : t.size ≤ 140737488351232) (h2 : k ≠ 2) (h3 : k ≠ 3) (h4 : k ≠ 4) :
    Calls Tryd.prog 15 #[.string o.txt, D k t a f s r0 r1 r2 r3 p i, D k t b f2 s2 q0 q1 q2 q3 p2 i2] w fun r w' => ∃ n, r = .returned (.tuple #[.agg #[.int .i64 0, .string ⟨#[]⟩, .int .i64 0, .int .u64 0, .string ⟨#[]⟩, .int .i64 0, .int .i64 0, .int .i64 0, .int .i64 0, .slice none 0 0, .slice none 0 0], .iface 69 (.pointer (some ⟨n, 0, none⟩))]) ∧ w.heap.size ≤ n ∧ w'.heap[n]? = some (.cells #[.string ⟨#[111, 112, 101, 114, 97, 110, 100]⟩, .string (opd2 o.txt k t k t)] 35 (0, 0)) ∧ Below w.heap.size w w' := by
  have HU : Hid (∀ W, Calls Tryd.prog 41 #[.string o.txt, D k t a f s r0 r1 r2 r3 p i, D k t b f2 s2 q0 q1 q2 q3 p2 i2] W fun r w' => ∃ n, r = .returned (.iface 69 (.pointer (some ⟨n, 0, none⟩))) ∧ W.heap.size ≤ n ∧ w'.heap[n]? = some (.cells #[.string ⟨#[111, 112, 101, 114, 97, 110, 100]⟩, .string (opd2 o.txt k t k t)] 35 (0, 0)) ∧ Below W.heap.size W w') := fun W => unlike_any _ k t a f s r0 r1 r2 r3 p i _ _ b f2 s2 q0 q1 q2 q3 p2 i2 W ht ht (by cases o <;> decide)
  generalize opd2 o.txt k t k t = x at HU ⊢
  clear ht
  simp only [D] at HU ⊢
  have e2 : (k == 2) = false := by simpa using h2
  have e3 : (k == 3) = false := by simpa using h3
  have e4 : (k == 4) = false := by simpa using h4
  clear h2 h3 h4
  cases o <;> simp only [COp.txt] at HU ⊢
  all_goals
    go_enter Tryd.func15, Tryd.ntmps15
    go_wp2_with fail
    refine (HU.out _).mono ?_
    rintro e w2 ⟨n, rfl, hn, hrow, hb⟩
    simp at hn
    have HR : Hid _ := hrow
    clear hrow
    obtain ⟨⟨c0, c1, c2, c3, c4, c5, c6, c7, c8, c9, c10⟩, hf2⟩ := box_kept ((hb.block (w.heap.size + 1 + 1) (by simp)).trans (heap3_2 _ _ _ _))
    go_wp2_with fail
    refine bodyPost_ret (v := .tuple #[.agg #[.int .i64 0, .string ⟨#[]⟩, .int .i64 0, .int .u64 0, .string ⟨#[]⟩, .int .i64 0, .int .i64 0, .int .i64 0, .int .i64 0, .slice none 0 0, .slice none 0 0], .iface 69 (.pointer (some ⟨n, 0, none⟩))]) (by simp [results, Tryd.results15, go_sem, c0, c1, c2, c3, c4, c5, c6, c7, c8, c9, c10]) rfl ⟨n, rfl, by omega, ?_, ?_⟩
    · rw [set11_other _ _ _ _ _ _ _ _ _ _ _ _ _ _ (by omega)]; exact HR.out
    · exact bset ((below3 w _ _ _).trans (hb.mono (by simp; omega))) (by omega) _ _ _ _ _ _ _ _ _ _ _

set_option maxRecDepth 100000 in
set_option maxHeartbeats 8000000 in
theorem binary_badI (o : IOp) (k : Int) (t : ByteArray) (a f : Int) (s : ByteArray) (r0 r1 r2 r3 : Int) (p i : Value) (b f2 : Int) (s2 : ByteArray) (q0 q1 q2 q3 : Int) (p2 i2 : Value) (w : World) (ht : t.size ≤ 140737488351232) (h2 : k ≠ 2) (h3 : o = .add ∨ o = .sub ∨ o = .mul ∨ o = .quo → k ≠ 3) (h4 : o = .add → k ≠ 4) :
    Calls Tryd.prog 15 #[.string o.txt, D k t a f s r0 r1 r2 r3 p i, D k t b f2 s2 q0 q1 q2 q3 p2 i2] w fun r w' => ∃ n, r = .returned (.tuple #[.agg #[.int .i64 0, .string ⟨#[]⟩, .int .i64 0, .int .u64 0, .string ⟨#[]⟩, .int .i64 0, .int .i64 0, .int .i64 0, .int .i64 0, .slice none 0 0, .slice none 0 0], .iface 69 (.pointer (some ⟨n, 0, none⟩))]) ∧ w.heap.size ≤ n ∧ w'.heap[n]? = some (.cells #[.string ⟨#[111, 112, 101, 114, 97, 110, 100]⟩, .string (opd2 o.txt k t k t)] 35 (0, 0)) ∧ Below w.heap.size w w' := by
  have HU : Hid (∀ W, Calls Tryd.prog 41 #[.string o.txt, D k t a f s r0 r1 r2 r3 p i, D k t b f2 s2 q0 q1 q2 q3 p2 i2] W fun r w' => ∃ n, r = .returned (.iface 69 (.pointer (some ⟨n, 0, none⟩))) ∧ W.heap.size ≤ n ∧ w'.heap[n]? = some (.cells #[.string ⟨#[111, 112, 101, 114, 97, 110, 100]⟩, .string (opd2 o.txt k t k t)] 35 (0, 0)) ∧ Below W.heap.size W w') := fun W => unlike_any _ k t a f s r0 r1 r2 r3 p i _ _ b f2 s2 q0 q1 q2 q3 p2 i2 W ht ht (by cases o <;> decide)
  generalize opd2 o.txt k t k t = x at HU ⊢
  clear ht
  simp only [D] at HU ⊢
  cases o <;> simp only [IOp.txt, reduceCtorEq, or_true, or_false, or_self, false_implies, true_implies] at HU h3 h4 ⊢
  all_goals
    go_enter Tryd.func15, Tryd.ntmps15
    go_wp2_with fail
    refine (HU.out _).mono ?_
    rintro e w2 ⟨n, rfl, hn, hrow, hb⟩
    simp at hn
    have HR : Hid _ := hrow
    clear hrow
    obtain ⟨⟨c0, c1, c2, c3, c4, c5, c6, c7, c8, c9, c10⟩, hf2⟩ := box_kept ((hb.block (w.heap.size + 1 + 1) (by simp)).trans (heap3_2 _ _ _ _))
    go_wp2_with fail
    refine bodyPost_ret (v := .tuple #[.agg #[.int .i64 0, .string ⟨#[]⟩, .int .i64 0, .int .u64 0, .string ⟨#[]⟩, .int .i64 0, .int .i64 0, .int .i64 0, .int .i64 0, .slice none 0 0, .slice none 0 0], .iface 69 (.pointer (some ⟨n, 0, none⟩))]) (by simp [results, Tryd.results15, go_sem, c0, c1, c2, c3, c4, c5, c6, c7, c8, c9, c10]) rfl ⟨n, rfl, by omega, ?_, ?_⟩
    · rw [set11_other _ _ _ _ _ _ _ _ _ _ _ _ _ _ (by omega)]; exact HR.out
    · exact bset ((below3 w _ _ _).trans (hb.mono (by simp; omega))) (by omega) _ _ _ _ _ _ _ _ _ _ _
end Go.Proofs.YtoplmbboaobahaaDoor
