/-
  Convert, where nothing but a number, a text or a name is carried over.
-/
import Derived.Test.YtoplmbboaobahaaDoorWi
import Derived.Test.YtoplmbboaobahaaDoorS
namespace Go.Proofs.YtoplmbboaobahaaDoor
open Go.RowKit
attribute [local go_sem] refold2 cell3_0 cell3_1 b28_0 b28_01 b28_012 b28_013 b28_014 b35_01 b35_0 b35 mkI69 x56 x57

set_option maxRecDepth 100000 in
set_option maxHeartbeats 2000000 in
theorem convert_fi_any (u t : ByteArray) (a f : Int) (s : ByteArray) (r0 r1 r2 r3 : Int) (p i : Value) (w : World) (hu : u.size ≤ 140737488351232) (h0 : 0 ≤ f) (h1 : f ≤ 18446744073709551615) :
    Calls Tryd.prog 18 #[.int .i64 2, .string u, D 3 t a f s r0 r1 r2 r3 p i] w fun r w' => r = .returned (.tuple #[dat 2 u (wv f.toNat) 0 ⟨#[]⟩, .nilIface]) ∧ Below w.heap.size w w' := by
  have HR : Hid (∀ W, Calls Tryd.prog 35 #[.string u, .int .i64 (wv f.toNat)] W fun r w' => r = .returned (dat 2 u (wv f.toNat) 0 ⟨#[]⟩) ∧ Below W.heap.size W w') := fun W => intOf_any u _ W hu
  have HW : Hid (∀ W, Calls Tryd.prog 55 #[.float .f64 f.toNat] W fun r w' => r = .returned (.int .i64 (wv f.toNat)) ∧ w' = W) := fun W => whole_float f.toNat W (by omega)
  generalize wv f.toNat = n at HR HW ⊢
  clear hu h0 h1
  simp only [dat, D] at HR ⊢
  go_enter Tryd.func18, Tryd.ntmps18
  go_wp2_with (first
    | (go_at_call 55; refine (HW.out _).mono ?_; rintro r w' ⟨rfl, rfl⟩)
    | (go_at_call 35; refine (HR.out _).mono ?_; rintro r w' ⟨rfl, hb⟩; obtain ⟨⟨c0, c1, c2, c3, c4, c5, c6, c7, c8, c9, c10⟩, hf2⟩ := box_kept ((hb.block (w.heap.size + 1) (by simp)).trans (heap2_1 _ _ _))))
  refine bodyPost_ret (v := .tuple #[.agg #[.int .i64 2, .string u, .int .i64 n, .int .u64 0, .string ⟨#[]⟩, .int .i64 0, .int .i64 0, .int .i64 0, .int .i64 0, .slice none 0 0, .slice none 0 0], .nilIface]) (by simp [results, Tryd.results18, go_sem, c0, c1, c2, c3, c4, c5, c6, c7, c8, c9, c10]) rfl ⟨rfl, ?_⟩
  exact bset ((below2 w _ _).trans (hb.mono (by simp; omega))) (by omega) _ _ _ _ _ _ _ _ _ _ _

set_option maxRecDepth 100000 in
set_option maxHeartbeats 2000000 in
theorem renamed_text (u t : ByteArray) (a f : Int) (s : ByteArray) (r0 r1 r2 r3 : Int) (p i : Value) (w : World) (hu : u.size ≤ 140737488351232) (hs : s.size ≤ 140737488351232) :
    Calls Tryd.prog 54 #[.string u, D 4 t a f s r0 r1 r2 r3 p i] w fun r w' => r = .returned (dat 4 u 0 0 s) ∧ Below w.heap.size w w' := by
  have HF : Hid (∀ W, Calls Tryd.prog 71 #[.string u, .string s] W fun r w' => r = .returned (dat 4 u 0 0 s) ∧ Below W.heap.size W w') := fun W => textOf_any u s W hu hs
  clear hu hs
  simp only [dat, D] at HF ⊢
  go_enter Tryd.func54, Tryd.ntmps54
  go_wp2_with (go_at_call 71; refine (HF.out _).mono ?_; rintro r w' ⟨rfl, hb⟩; obtain ⟨⟨c0, c1, c2, c3, c4, c5, c6, c7, c8, c9, c10⟩, hf2⟩ := box_kept ((hb.block (w.heap.size + 1) (by simp)).trans (heap2_1 _ _ _)))
  refine bodyPost_ret (v := .agg #[.int .i64 4, .string u, .int .i64 0, .int .u64 0, .string s, .int .i64 0, .int .i64 0, .int .i64 0, .int .i64 0, .slice none 0 0, .slice none 0 0]) (by simp [results, Tryd.results54, go_sem, c0, c1, c2, c3, c4, c5, c6, c7, c8, c9, c10]) rfl ⟨rfl, ?_⟩
  exact bset ((below2 w _ _).trans (hb.mono (by simp; omega))) (by omega) _ _ _ _ _ _ _ _ _ _ _

set_option maxRecDepth 100000 in
set_option maxHeartbeats 2000000 in
theorem convert_text (u t : ByteArray) (a f : Int) (s : ByteArray) (r0 r1 r2 r3 : Int) (p i : Value) (w : World) (hu : u.size ≤ 140737488351232) (hs : s.size ≤ 140737488351232) :
    Calls Tryd.prog 18 #[.int .i64 4, .string u, D 4 t a f s r0 r1 r2 r3 p i] w fun r w' => r = .returned (.tuple #[dat 4 u 0 0 s, .nilIface]) ∧ Below w.heap.size w w' := by
  have HR : Hid (∀ W, Calls Tryd.prog 54 #[.string u, D 4 t a f s r0 r1 r2 r3 p i] W fun r w' => r = .returned (dat 4 u 0 0 s) ∧ Below W.heap.size W w') := fun W => renamed_text u t a f s r0 r1 r2 r3 p i W hu hs
  clear hu hs
  simp only [dat, D] at HR ⊢
  go_enter Tryd.func18, Tryd.ntmps18
  go_wp2_with (go_at_call 54; refine (HR.out _).mono ?_; rintro r w' ⟨rfl, hb⟩; obtain ⟨⟨c0, c1, c2, c3, c4, c5, c6, c7, c8, c9, c10⟩, hf2⟩ := box_kept ((hb.block (w.heap.size + 1) (by simp)).trans (heap2_1 _ _ _)))
  refine bodyPost_ret (v := .tuple #[.agg #[.int .i64 4, .string u, .int .i64 0, .int .u64 0, .string s, .int .i64 0, .int .i64 0, .int .i64 0, .int .i64 0, .slice none 0 0, .slice none 0 0], .nilIface]) (by simp [results, Tryd.results18, go_sem, c0, c1, c2, c3, c4, c5, c6, c7, c8, c9, c10]) rfl ⟨rfl, ?_⟩
  exact bset ((below2 w _ _).trans (hb.mono (by simp; omega))) (by omega) _ _ _ _ _ _ _ _ _ _ _

/-- There is no such conversion. -/
def noCv (k k' : Int) : Prop := (k = k' → k < 1 ∨ 7 < k) ∧ ¬ (k = 2 ∧ k' = 3) ∧ ¬ (k = 3 ∧ k' = 2)

set_option maxRecDepth 100000 in
set_option maxHeartbeats 4000000 in
theorem convert_bad (k : Int) (u : ByteArray) (k' : Int) (t : ByteArray) (a f : Int) (s : ByteArray) (r0 r1 r2 r3 : Int) (p i : Value) (w : World) (hu : u.size ≤ 140737488351232) (ht : t.size ≤ 140737488351232) (h : noCv k k') :
    Calls Tryd.prog 18 #[.int .i64 k, .string u, D k' t a f s r0 r1 r2 r3 p i] w fun r w' => ∃ n, r = .returned (.tuple #[.agg #[.int .i64 0, .string ⟨#[]⟩, .int .i64 0, .int .u64 0, .string ⟨#[]⟩, .int .i64 0, .int .i64 0, .int .i64 0, .int .i64 0, .slice none 0 0, .slice none 0 0], .iface 69 (.pointer (some ⟨n, 0, none⟩))]) ∧ w.heap.size ≤ n ∧ w'.heap[n]? = some (.cells #[.string ⟨#[111, 112, 101, 114, 97, 110, 100]⟩, .string (opd u k' t)] 35 (0, 0)) ∧ Below w.heap.size w w' := by
  have HN : Hid (∀ W, Calls Tryd.prog 28 #[D k' t a f s r0 r1 r2 r3 p i] W fun r w' => r = .returned (.string (nm k' t)) ∧ Below W.heap.size W w') := fun W => name_any k' t a f s r0 r1 r2 r3 p i W ht
  have hns := nm_size k' t ht
  unfold opd
  generalize nm k' t = v at HN hns ⊢
  have hus : (u ++ ⟨#[32]⟩ : ByteArray).size = u.size + 1 := by rw [ByteArray.size_append]; rfl
  obtain ⟨h1, h2, h3⟩ := h
  simp only [D] at HN ⊢
  by_cases hk : k = k'
  · subst hk
    have h17 := h1 rfl
    clear h1 h2 h3
    have q2 : (k == 2) = false := by simp; omega
    have q3 : (k == 3) = false := by simp; omega
    rcases h17 with hl | hg
    · have g1 : ¬ 1 ≤ k := by omega
      go_enter Tryd.func18, Tryd.ntmps18
      go_wp2_with fail
      refine (HN.out _).mono ?_
      rintro r w1 ⟨rfl, b1⟩
      go_wp2_with fail
      refine (fault_any _ _ _).mono ?_
      rintro r w2 ⟨rfl, hw2⟩
      have b2 : Below w1.heap.size w1 w2 := by rw [hw2]; exact below1 _ _
      have hnew : w2.heap[w1.heap.size]? = some (.cells #[.string ⟨#[111, 112, 101, 114, 97, 110, 100]⟩, .string (u ++ ⟨#[32]⟩ ++ v)] 35 (0, 0)) := by rw [hw2]; exact heap_alloc_new _ _
      have z1 : w.heap.size + 1 + 1 ≤ w1.heap.size := by have := b1.size; simp at this; omega
      clear hw2
      have hb := b1.trans (b2.mono b1.size)
      have HR : Hid _ := hnew
      clear hnew
      obtain ⟨⟨c0, c1, c2, c3, c4, c5, c6, c7, c8, c9, c10⟩, hf2⟩ := box_kept ((hb.block (w.heap.size + 1) (by simp)).trans (heap2_1 _ _ _))
      go_wp2_with fail
      refine bodyPost_ret (v := .tuple #[.agg #[.int .i64 0, .string ⟨#[]⟩, .int .i64 0, .int .u64 0, .string ⟨#[]⟩, .int .i64 0, .int .i64 0, .int .i64 0, .int .i64 0, .slice none 0 0, .slice none 0 0], .iface 69 (.pointer (some ⟨w1.heap.size, 0, none⟩))]) (by simp [results, Tryd.results18, go_sem, c0, c1, c2, c3, c4, c5, c6, c7, c8, c9, c10]) rfl ⟨_, rfl, by omega, ?_, ?_⟩
      · rw [set11_other _ _ _ _ _ _ _ _ _ _ _ _ _ _ (by omega)]; exact HR.out
      · exact bset ((below2 w _ _).trans (hb.mono (by simp; omega))) (by omega) _ _ _ _ _ _ _ _ _ _ _
    · have g1 : 1 ≤ k := by omega
      have g2 : ¬ k ≤ 7 := by omega
      go_enter Tryd.func18, Tryd.ntmps18
      go_wp2_with fail
      refine (HN.out _).mono ?_
      rintro r w1 ⟨rfl, b1⟩
      go_wp2_with fail
      refine (fault_any _ _ _).mono ?_
      rintro r w2 ⟨rfl, hw2⟩
      have b2 : Below w1.heap.size w1 w2 := by rw [hw2]; exact below1 _ _
      have hnew : w2.heap[w1.heap.size]? = some (.cells #[.string ⟨#[111, 112, 101, 114, 97, 110, 100]⟩, .string (u ++ ⟨#[32]⟩ ++ v)] 35 (0, 0)) := by rw [hw2]; exact heap_alloc_new _ _
      have z1 : w.heap.size + 1 + 1 ≤ w1.heap.size := by have := b1.size; simp at this; omega
      clear hw2
      have hb := b1.trans (b2.mono b1.size)
      have HR : Hid _ := hnew
      clear hnew
      obtain ⟨⟨c0, c1, c2, c3, c4, c5, c6, c7, c8, c9, c10⟩, hf2⟩ := box_kept ((hb.block (w.heap.size + 1) (by simp)).trans (heap2_1 _ _ _))
      go_wp2_with fail
      refine bodyPost_ret (v := .tuple #[.agg #[.int .i64 0, .string ⟨#[]⟩, .int .i64 0, .int .u64 0, .string ⟨#[]⟩, .int .i64 0, .int .i64 0, .int .i64 0, .int .i64 0, .slice none 0 0, .slice none 0 0], .iface 69 (.pointer (some ⟨w1.heap.size, 0, none⟩))]) (by simp [results, Tryd.results18, go_sem, c0, c1, c2, c3, c4, c5, c6, c7, c8, c9, c10]) rfl ⟨_, rfl, by omega, ?_, ?_⟩
      · rw [set11_other _ _ _ _ _ _ _ _ _ _ _ _ _ _ (by omega)]; exact HR.out
      · exact bset ((below2 w _ _).trans (hb.mono (by simp; omega))) (by omega) _ _ _ _ _ _ _ _ _ _ _
  · have q1 : (k == k') = false := by simpa using hk
    clear h1
    by_cases k2 : k = 2
    · have k3 : (k' == 3) = false := by simpa using fun e => h2 ⟨k2, e⟩
      clear h2 h3 hk
      subst k2
      go_enter Tryd.func18, Tryd.ntmps18
      go_wp2_with fail
      refine (HN.out _).mono ?_
      rintro r w1 ⟨rfl, b1⟩
      go_wp2_with fail
      refine (fault_any _ _ _).mono ?_
      rintro r w2 ⟨rfl, hw2⟩
      have b2 : Below w1.heap.size w1 w2 := by rw [hw2]; exact below1 _ _
      have hnew : w2.heap[w1.heap.size]? = some (.cells #[.string ⟨#[111, 112, 101, 114, 97, 110, 100]⟩, .string (u ++ ⟨#[32]⟩ ++ v)] 35 (0, 0)) := by rw [hw2]; exact heap_alloc_new _ _
      have z1 : w.heap.size + 1 + 1 ≤ w1.heap.size := by have := b1.size; simp at this; omega
      clear hw2
      have hb := b1.trans (b2.mono b1.size)
      have HR : Hid _ := hnew
      clear hnew
      obtain ⟨⟨c0, c1, c2, c3, c4, c5, c6, c7, c8, c9, c10⟩, hf2⟩ := box_kept ((hb.block (w.heap.size + 1) (by simp)).trans (heap2_1 _ _ _))
      go_wp2_with fail
      refine bodyPost_ret (v := .tuple #[.agg #[.int .i64 0, .string ⟨#[]⟩, .int .i64 0, .int .u64 0, .string ⟨#[]⟩, .int .i64 0, .int .i64 0, .int .i64 0, .int .i64 0, .slice none 0 0, .slice none 0 0], .iface 69 (.pointer (some ⟨w1.heap.size, 0, none⟩))]) (by simp [results, Tryd.results18, go_sem, c0, c1, c2, c3, c4, c5, c6, c7, c8, c9, c10]) rfl ⟨_, rfl, by omega, ?_, ?_⟩
      · rw [set11_other _ _ _ _ _ _ _ _ _ _ _ _ _ _ (by omega)]; exact HR.out
      · exact bset ((below2 w _ _).trans (hb.mono (by simp; omega))) (by omega) _ _ _ _ _ _ _ _ _ _ _
    · have q2 : (k == 2) = false := by simpa using k2
      by_cases k3 : k = 3
      · have k4 : (k' == 2) = false := by simpa using fun e => h3 ⟨k3, e⟩
        clear h2 h3 hk
        subst k3
        go_enter Tryd.func18, Tryd.ntmps18
        go_wp2_with fail
        refine (HN.out _).mono ?_
        rintro r w1 ⟨rfl, b1⟩
        go_wp2_with fail
        refine (fault_any _ _ _).mono ?_
        rintro r w2 ⟨rfl, hw2⟩
        have b2 : Below w1.heap.size w1 w2 := by rw [hw2]; exact below1 _ _
        have hnew : w2.heap[w1.heap.size]? = some (.cells #[.string ⟨#[111, 112, 101, 114, 97, 110, 100]⟩, .string (u ++ ⟨#[32]⟩ ++ v)] 35 (0, 0)) := by rw [hw2]; exact heap_alloc_new _ _
        have z1 : w.heap.size + 1 + 1 ≤ w1.heap.size := by have := b1.size; simp at this; omega
        clear hw2
        have hb := b1.trans (b2.mono b1.size)
        have HR : Hid _ := hnew
        clear hnew
        obtain ⟨⟨c0, c1, c2, c3, c4, c5, c6, c7, c8, c9, c10⟩, hf2⟩ := box_kept ((hb.block (w.heap.size + 1) (by simp)).trans (heap2_1 _ _ _))
        go_wp2_with fail
        refine bodyPost_ret (v := .tuple #[.agg #[.int .i64 0, .string ⟨#[]⟩, .int .i64 0, .int .u64 0, .string ⟨#[]⟩, .int .i64 0, .int .i64 0, .int .i64 0, .int .i64 0, .slice none 0 0, .slice none 0 0], .iface 69 (.pointer (some ⟨w1.heap.size, 0, none⟩))]) (by simp [results, Tryd.results18, go_sem, c0, c1, c2, c3, c4, c5, c6, c7, c8, c9, c10]) rfl ⟨_, rfl, by omega, ?_, ?_⟩
        · rw [set11_other _ _ _ _ _ _ _ _ _ _ _ _ _ _ (by omega)]; exact HR.out
        · exact bset ((below2 w _ _).trans (hb.mono (by simp; omega))) (by omega) _ _ _ _ _ _ _ _ _ _ _
      · have q3 : (k == 3) = false := by simpa using k3
        clear h2 h3 hk
        go_enter Tryd.func18, Tryd.ntmps18
        go_wp2_with fail
        refine (HN.out _).mono ?_
        rintro r w1 ⟨rfl, b1⟩
        go_wp2_with fail
        refine (fault_any _ _ _).mono ?_
        rintro r w2 ⟨rfl, hw2⟩
        have b2 : Below w1.heap.size w1 w2 := by rw [hw2]; exact below1 _ _
        have hnew : w2.heap[w1.heap.size]? = some (.cells #[.string ⟨#[111, 112, 101, 114, 97, 110, 100]⟩, .string (u ++ ⟨#[32]⟩ ++ v)] 35 (0, 0)) := by rw [hw2]; exact heap_alloc_new _ _
        have z1 : w.heap.size + 1 + 1 ≤ w1.heap.size := by have := b1.size; simp at this; omega
        clear hw2
        have hb := b1.trans (b2.mono b1.size)
        have HR : Hid _ := hnew
        clear hnew
        obtain ⟨⟨c0, c1, c2, c3, c4, c5, c6, c7, c8, c9, c10⟩, hf2⟩ := box_kept ((hb.block (w.heap.size + 1) (by simp)).trans (heap2_1 _ _ _))
        go_wp2_with fail
        refine bodyPost_ret (v := .tuple #[.agg #[.int .i64 0, .string ⟨#[]⟩, .int .i64 0, .int .u64 0, .string ⟨#[]⟩, .int .i64 0, .int .i64 0, .int .i64 0, .int .i64 0, .slice none 0 0, .slice none 0 0], .iface 69 (.pointer (some ⟨w1.heap.size, 0, none⟩))]) (by simp [results, Tryd.results18, go_sem, c0, c1, c2, c3, c4, c5, c6, c7, c8, c9, c10]) rfl ⟨_, rfl, by omega, ?_, ?_⟩
        · rw [set11_other _ _ _ _ _ _ _ _ _ _ _ _ _ _ (by omega)]; exact HR.out
        · exact bset ((below2 w _ _).trans (hb.mono (by simp; omega))) (by omega) _ _ _ _ _ _ _ _ _ _ _
end Go.Proofs.YtoplmbboaobahaaDoor
