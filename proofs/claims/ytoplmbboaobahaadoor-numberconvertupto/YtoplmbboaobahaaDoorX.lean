/-
  The walks of Name, of Unary at floats and bools and where there is no such operation, and of the document's own Name and Unary.
-/
import Derived.Test.YtoplmbboaobahaaDoorU
import Derived.Test.YtoplmbboaobahaaDoorP
import Derived.Test.YtoplmbboaobahaaDoorJ
import Derived.Laws.Concat
namespace Go.Proofs.YtoplmbboaobahaaDoor
open Go.RowKit

attribute [local go_sem] refold2 cell3_0 cell3_1 b28_0 b28_01 b28_012 b28_013 b28_014 b35_01 b35_0 b35 mkI69 x56 x57

/-- A type's name as it is told. -/
def nm (k : Int) (t : ByteArray) : ByteArray := if k = 0 then ⟨#[110, 105, 108]⟩ else if k = 9 then ⟨#[42]⟩ ++ t else t

theorem nm_size (k : Int) (t : ByteArray) (ht : t.size ≤ 140737488351232) : (nm k t).size ≤ 140737488351232 + 1 := by
  unfold nm
  split
  · decide
  · split
    · rw [ByteArray.size_append]; show 1 + t.size ≤ _; omega
    · omega

set_option maxRecDepth 100000 in
set_option maxHeartbeats 1000000 in
theorem name_any (k : Int) (t : ByteArray) (a f : Int) (s : ByteArray) (r0 r1 r2 r3 : Int) (p i : Value) (w : World) (ht : t.size ≤ 140737488351232) :
    Calls Tryd.prog 28 #[D k t a f s r0 r1 r2 r3 p i] w fun r w' => r = .returned (.string (nm k t)) ∧ Below w.heap.size w w' := by
  simp only [D]
  by_cases h0 : k = 0
  · subst h0
    rw [show nm 0 t = ⟨#[110, 105, 108]⟩ from rfl]
    go_enter Tryd.func28, Tryd.ntmps28
    go_wp2
    go_ret
    exact ⟨rfl, below1 _ _⟩
  · by_cases h9 : k = 9
    · subst h9
      rw [show nm 9 t = ⟨#[42]⟩ ++ t from rfl]
      go_enter Tryd.func28, Tryd.ntmps28
      go_wp2
      go_ret
      exact ⟨rfl, below1 _ _⟩
    · rw [show nm k t = t by unfold nm; rw [if_neg h0, if_neg h9]]
      go_enter Tryd.func28, Tryd.ntmps28
      go_wp2_with (go_at_call 69; refine (clone_any _ _ ht).mono ?_; rintro r w' ⟨rfl, hb⟩)
      go_ret
      exact ⟨rfl, (below1 w _).trans (hb.mono (by simp))⟩

set_option maxRecDepth 100000 in
set_option maxHeartbeats 1000000 in
theorem refName_any (k : Int) (t : ByteArray) (a f : Int) (s : ByteArray) (r0 r1 r2 r3 : Int) (p i : Value) (w : World) (ht : t.size ≤ 140737488351232) :
    Calls Tryd.prog 29 #[D k t a f s r0 r1 r2 r3 p i] w fun r w' => r = .returned (.string (nm k t)) ∧ Below w.heap.size w w' := by
  simp only [D]
  by_cases h0 : k = 0
  · subst h0
    rw [show nm 0 t = ⟨#[110, 105, 108]⟩ from rfl]
    go_enter Tryd.func29, Tryd.ntmps29
    go_wp2
    go_ret
    exact ⟨rfl, below1 _ _⟩
  · by_cases h9 : k = 9
    · subst h9
      rw [show nm 9 t = ⟨#[42]⟩ ++ t from rfl]
      go_enter Tryd.func29, Tryd.ntmps29
      go_wp2
      go_ret
      exact ⟨rfl, below1 _ _⟩
    · rw [show nm k t = t by unfold nm; rw [if_neg h0, if_neg h9]]
      go_enter Tryd.func29, Tryd.ntmps29
      go_wp2
      go_ret
      exact ⟨rfl, below1 _ _⟩

/-- The bits with another sign. -/
def flip (f : Int) : Int := bits BinOp.xor .u64 f 9223372036854775808

theorem flip_bounds (f : Int) : 0 ≤ flip f ∧ flip f ≤ 18446744073709551615 := by
  unfold flip bits
  simp [IntKind.wrap, IntKind.bits, IntKind.signed]
  omega

set_option maxRecDepth 100000 in
set_option maxHeartbeats 1000000 in
theorem unary_float (t : ByteArray) (a f : Int) (s : ByteArray) (r0 r1 r2 r3 : Int) (p i : Value) (w : World) (ht : t.size ≤ 140737488351232) :
    Calls Tryd.prog 10 #[.string ⟨#[45]⟩, D 3 t a f s r0 r1 r2 r3 p i] w fun r w' => r = .returned (.tuple #[.agg #[.int .i64 3, .string t, .int .i64 0, .int .u64 (canon (flip f)), .string ⟨#[]⟩, .int .i64 0, .int .i64 0, .int .i64 0, .int .i64 0, .slice none 0 0, .slice none 0 0], .nilIface]) ∧ Below w.heap.size w w' := by
  have HF : Hid (∀ W, Calls Tryd.prog 34 #[.string t, .int .u64 (flip f)] W fun r w' => r = .returned (dat 3 t 0 (canon (flip f)) ⟨#[]⟩) ∧ Below W.heap.size W w') := fun W => floatOf_any t _ W ht (flip_bounds f).1 (flip_bounds f).2
  generalize canon (flip f) = v at HF ⊢
  unfold flip at HF
  simp only [dat, D] at HF ⊢
  go_enter Tryd.func10, Tryd.ntmps10
  go_wp2_with (go_at_call 34; refine (HF.out _).mono ?_; rintro r w' ⟨rfl, hb⟩; obtain ⟨⟨c0, c1, c2, c3, c4, c5, c6, c7, c8, c9, c10⟩, hf2⟩ := box_kept ((hb.block (w.heap.size + 1) (by simp)).trans (heap2_1 _ _ _)))
  refine bodyPost_ret (v := .tuple #[.agg #[.int .i64 3, .string t, .int .i64 0, .int .u64 v, .string ⟨#[]⟩, .int .i64 0, .int .i64 0, .int .i64 0, .int .i64 0, .slice none 0 0, .slice none 0 0], .nilIface]) (by simp [results, Tryd.results10, go_sem, c0, c1, c2, c3, c4, c5, c6, c7, c8, c9, c10]) rfl ⟨rfl, ?_⟩
  exact bset ((below2 w _ _).trans (hb.mono (by simp; omega))) (by omega) _ _ _ _ _ _ _ _ _ _ _

set_option maxRecDepth 100000 in
set_option maxHeartbeats 1000000 in
theorem unary_bool (t : ByteArray) (a f : Int) (s : ByteArray) (r0 r1 r2 r3 : Int) (p i : Value) (w : World) (ht : t.size ≤ 140737488351232) :
    Calls Tryd.prog 10 #[.string ⟨#[33]⟩, D 1 t a f s r0 r1 r2 r3 p i] w fun r w' => r = .returned (.tuple #[.agg #[.int .i64 1, .string t, .int .i64 (b01 (a == 0)), .int .u64 0, .string ⟨#[]⟩, .int .i64 0, .int .i64 0, .int .i64 0, .int .i64 0, .slice none 0 0, .slice none 0 0], .nilIface]) ∧ Below w.heap.size w w' := by
  have HF : Hid (∀ W, Calls Tryd.prog 37 #[.string t, .bool (a == 0)] W fun r w' => r = .returned (dat 1 t (b01 (a == 0)) 0 ⟨#[]⟩) ∧ Below W.heap.size W w') := fun W => boolOf_any t _ W ht
  generalize b01 (a == 0) = v at HF ⊢
  simp only [dat, D] at HF ⊢
  go_enter Tryd.func10, Tryd.ntmps10
  go_wp2_with (go_at_call 37; refine (HF.out _).mono ?_; rintro r w' ⟨rfl, hb⟩; obtain ⟨⟨c0, c1, c2, c3, c4, c5, c6, c7, c8, c9, c10⟩, hf2⟩ := box_kept ((hb.block (w.heap.size + 1) (by simp)).trans (heap2_1 _ _ _)))
  refine bodyPost_ret (v := .tuple #[.agg #[.int .i64 1, .string t, .int .i64 v, .int .u64 0, .string ⟨#[]⟩, .int .i64 0, .int .i64 0, .int .i64 0, .int .i64 0, .slice none 0 0, .slice none 0 0], .nilIface]) (by simp [results, Tryd.results10, go_sem, c0, c1, c2, c3, c4, c5, c6, c7, c8, c9, c10]) rfl ⟨rfl, ?_⟩
  exact bset ((below2 w _ _).trans (hb.mono (by simp; omega))) (by omega) _ _ _ _ _ _ _ _ _ _ _

/-- There is no such operation. -/
def noUn (u : ByteArray) (k : Int) : Prop := (u.toList = [45] → k ≠ 2 ∧ k ≠ 3) ∧ (u.toList = [94] → k ≠ 2) ∧ (u.toList = [33] → k ≠ 1)

/-- What is told then. -/
def opd (u : ByteArray) (k : Int) (t : ByteArray) : ByteArray := u ++ ⟨#[32]⟩ ++ nm k t

set_option maxRecDepth 100000 in
set_option maxHeartbeats 4000000 in
theorem unary_bad (u : ByteArray) (k : Int) (t : ByteArray) (a f : Int) (s : ByteArray) (r0 r1 r2 r3 : Int) (p i : Value) (w : World) (ht : t.size ≤ 140737488351232) (hu : u.size ≤ 140737488351232) (h : noUn u k) :
    Calls Tryd.prog 10 #[.string u, D k t a f s r0 r1 r2 r3 p i] w fun r w' => ∃ n, r = .returned (.tuple #[.agg #[.int .i64 0, .string ⟨#[]⟩, .int .i64 0, .int .u64 0, .string ⟨#[]⟩, .int .i64 0, .int .i64 0, .int .i64 0, .int .i64 0, .slice none 0 0, .slice none 0 0], .iface 69 (.pointer (some ⟨n, 0, none⟩))]) ∧ w.heap.size ≤ n ∧ w'.heap[n]? = some (.cells #[.string ⟨#[111, 112, 101, 114, 97, 110, 100]⟩, .string (opd u k t)] 35 (0, 0)) ∧ Below w.heap.size w w' := by
  have HN : Hid (∀ W, Calls Tryd.prog 28 #[D k t a f s r0 r1 r2 r3 p i] W fun r w' => r = .returned (.string (nm k t)) ∧ Below W.heap.size W w') := fun W => name_any k t a f s r0 r1 r2 r3 p i W ht
  have hns := nm_size k t ht
  unfold opd
  generalize nm k t = v at HN hns ⊢
  have hus : (u ++ ⟨#[32]⟩ : ByteArray).size = u.size + 1 := by rw [ByteArray.size_append]; rfl
  obtain ⟨h1, h2, h3⟩ := h
  simp only [D] at HN ⊢
  by_cases e45 : u.toList = [45]
  · obtain ⟨k2, k3⟩ := h1 e45
    clear h1 h2 h3
    go_enter Tryd.func10, Tryd.ntmps10
    go_wp2_with fail
    refine (HN.out _).mono ?_
    rintro r w1 ⟨rfl, b1⟩
    go_wp2_with fail
    refine (fault_any _ _ _).mono ?_
    rintro r w2 ⟨rfl, hw2⟩
    have b2 : Below w1.heap.size w1 w2 := by rw [hw2]; exact below1 _ _
    have hnew : w2.heap[w1.heap.size]? = some (.cells #[.string ⟨#[111, 112, 101, 114, 97, 110, 100]⟩, .string (u ++ ⟨#[32]⟩ ++ v)] 35 (0, 0)) := by rw [hw2]; exact heap_alloc_new _ _
    have z1 : w.heap.size + 1 + 1 ≤ w1.heap.size := by have := b1.size; simp at this; omega
    clear hw2
    have hb := b1.trans (b2.mono b1.size)
    have HR : Hid _ := hnew
    clear hnew
    obtain ⟨⟨c0, c1, c2, c3, c4, c5, c6, c7, c8, c9, c10⟩, hf2⟩ := box_kept ((hb.block (w.heap.size + 1) (by simp)).trans (heap2_1 _ _ _))
    go_wp2_with fail
    refine bodyPost_ret (v := .tuple #[.agg #[.int .i64 0, .string ⟨#[]⟩, .int .i64 0, .int .u64 0, .string ⟨#[]⟩, .int .i64 0, .int .i64 0, .int .i64 0, .int .i64 0, .slice none 0 0, .slice none 0 0], .iface 69 (.pointer (some ⟨w1.heap.size, 0, none⟩))]) (by simp [results, Tryd.results10, go_sem, c0, c1, c2, c3, c4, c5, c6, c7, c8, c9, c10]) rfl ⟨_, rfl, by omega, ?_, ?_⟩
    · rw [set11_other _ _ _ _ _ _ _ _ _ _ _ _ _ _ (by omega)]; exact HR.out
    · exact bset ((below2 w _ _).trans (hb.mono (by simp; omega))) (by omega) _ _ _ _ _ _ _ _ _ _ _
  · by_cases e94 : u.toList = [94]
    · have k2 := h2 e94
      clear h1 h2 h3
      go_enter Tryd.func10, Tryd.ntmps10
      go_wp2_with fail
      refine (HN.out _).mono ?_
      rintro r w1 ⟨rfl, b1⟩
      go_wp2_with fail
      refine (fault_any _ _ _).mono ?_
      rintro r w2 ⟨rfl, hw2⟩
      have b2 : Below w1.heap.size w1 w2 := by rw [hw2]; exact below1 _ _
      have hnew : w2.heap[w1.heap.size]? = some (.cells #[.string ⟨#[111, 112, 101, 114, 97, 110, 100]⟩, .string (u ++ ⟨#[32]⟩ ++ v)] 35 (0, 0)) := by rw [hw2]; exact heap_alloc_new _ _
      have z1 : w.heap.size + 1 + 1 ≤ w1.heap.size := by have := b1.size; simp at this; omega
      clear hw2
      have hb := b1.trans (b2.mono b1.size)
      have HR : Hid _ := hnew
      clear hnew
      obtain ⟨⟨c0, c1, c2, c3, c4, c5, c6, c7, c8, c9, c10⟩, hf2⟩ := box_kept ((hb.block (w.heap.size + 1) (by simp)).trans (heap2_1 _ _ _))
      go_wp2_with fail
      refine bodyPost_ret (v := .tuple #[.agg #[.int .i64 0, .string ⟨#[]⟩, .int .i64 0, .int .u64 0, .string ⟨#[]⟩, .int .i64 0, .int .i64 0, .int .i64 0, .int .i64 0, .slice none 0 0, .slice none 0 0], .iface 69 (.pointer (some ⟨w1.heap.size, 0, none⟩))]) (by simp [results, Tryd.results10, go_sem, c0, c1, c2, c3, c4, c5, c6, c7, c8, c9, c10]) rfl ⟨_, rfl, by omega, ?_, ?_⟩
      · rw [set11_other _ _ _ _ _ _ _ _ _ _ _ _ _ _ (by omega)]; exact HR.out
      · exact bset ((below2 w _ _).trans (hb.mono (by simp; omega))) (by omega) _ _ _ _ _ _ _ _ _ _ _
    · by_cases e33 : u.toList = [33]
      · have k1 := h3 e33
        clear h1 h2 h3
        go_enter Tryd.func10, Tryd.ntmps10
        go_wp2_with fail
        refine (HN.out _).mono ?_
        rintro r w1 ⟨rfl, b1⟩
        go_wp2_with fail
        refine (fault_any _ _ _).mono ?_
        rintro r w2 ⟨rfl, hw2⟩
        have b2 : Below w1.heap.size w1 w2 := by rw [hw2]; exact below1 _ _
        have hnew : w2.heap[w1.heap.size]? = some (.cells #[.string ⟨#[111, 112, 101, 114, 97, 110, 100]⟩, .string (u ++ ⟨#[32]⟩ ++ v)] 35 (0, 0)) := by rw [hw2]; exact heap_alloc_new _ _
        have z1 : w.heap.size + 1 + 1 ≤ w1.heap.size := by have := b1.size; simp at this; omega
        clear hw2
        have hb := b1.trans (b2.mono b1.size)
        have HR : Hid _ := hnew
        clear hnew
        obtain ⟨⟨c0, c1, c2, c3, c4, c5, c6, c7, c8, c9, c10⟩, hf2⟩ := box_kept ((hb.block (w.heap.size + 1) (by simp)).trans (heap2_1 _ _ _))
        go_wp2_with fail
        refine bodyPost_ret (v := .tuple #[.agg #[.int .i64 0, .string ⟨#[]⟩, .int .i64 0, .int .u64 0, .string ⟨#[]⟩, .int .i64 0, .int .i64 0, .int .i64 0, .int .i64 0, .slice none 0 0, .slice none 0 0], .iface 69 (.pointer (some ⟨w1.heap.size, 0, none⟩))]) (by simp [results, Tryd.results10, go_sem, c0, c1, c2, c3, c4, c5, c6, c7, c8, c9, c10]) rfl ⟨_, rfl, by omega, ?_, ?_⟩
        · rw [set11_other _ _ _ _ _ _ _ _ _ _ _ _ _ _ (by omega)]; exact HR.out
        · exact bset ((below2 w _ _).trans (hb.mono (by simp; omega))) (by omega) _ _ _ _ _ _ _ _ _ _ _
      · clear h1 h2 h3
        have e45b : (u.toList == [45]) = false := by simpa using e45
        have e94b : (u.toList == [94]) = false := by simpa using e94
        have e33b : (u.toList == [33]) = false := by simpa using e33
        go_enter Tryd.func10, Tryd.ntmps10
        go_wp2_with fail
        refine (HN.out _).mono ?_
        rintro r w1 ⟨rfl, b1⟩
        go_wp2_with fail
        refine (fault_any _ _ _).mono ?_
        rintro r w2 ⟨rfl, hw2⟩
        have b2 : Below w1.heap.size w1 w2 := by rw [hw2]; exact below1 _ _
        have hnew : w2.heap[w1.heap.size]? = some (.cells #[.string ⟨#[111, 112, 101, 114, 97, 110, 100]⟩, .string (u ++ ⟨#[32]⟩ ++ v)] 35 (0, 0)) := by rw [hw2]; exact heap_alloc_new _ _
        have z1 : w.heap.size + 1 + 1 ≤ w1.heap.size := by have := b1.size; simp at this; omega
        clear hw2
        have hb := b1.trans (b2.mono b1.size)
        have HR : Hid _ := hnew
        clear hnew
        obtain ⟨⟨c0, c1, c2, c3, c4, c5, c6, c7, c8, c9, c10⟩, hf2⟩ := box_kept ((hb.block (w.heap.size + 1) (by simp)).trans (heap2_1 _ _ _))
        go_wp2_with fail
        refine bodyPost_ret (v := .tuple #[.agg #[.int .i64 0, .string ⟨#[]⟩, .int .i64 0, .int .u64 0, .string ⟨#[]⟩, .int .i64 0, .int .i64 0, .int .i64 0, .int .i64 0, .slice none 0 0, .slice none 0 0], .iface 69 (.pointer (some ⟨w1.heap.size, 0, none⟩))]) (by simp [results, Tryd.results10, go_sem, c0, c1, c2, c3, c4, c5, c6, c7, c8, c9, c10]) rfl ⟨_, rfl, by omega, ?_, ?_⟩
        · rw [set11_other _ _ _ _ _ _ _ _ _ _ _ _ _ _ (by omega)]; exact HR.out
        · exact bset ((below2 w _ _).trans (hb.mono (by simp; omega))) (by omega) _ _ _ _ _ _ _ _ _ _ _
end Go.Proofs.YtoplmbboaobahaaDoor
