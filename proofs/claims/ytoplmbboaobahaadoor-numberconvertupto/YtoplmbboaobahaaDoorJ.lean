/-
  The walks of Binary's division by 0, and of known.
-/
import Derived.Test.YtoplmbboaobahaaDoorI
import Derived.Test.YtoplmbboaobahaaDoorE
namespace Go.Proofs.YtoplmbboaobahaaDoor
open Go.RowKit

attribute [local go_sem] refold2 cell3_0 cell3_1 b28_0 b28_01 b28_012 b28_013 b28_014 b35_01 b35_0 b35 mkI69

theorem set11_other (w : World) (b k : Nat) (v0 v1 v2 v3 v4 v5 v6 v7 v8 v9 v10 : Value) (h : k ≠ b) :
    (((((((((((w.setCell ⟨b, 0, none⟩ v0).setCell ⟨b, 1, none⟩ v1).setCell ⟨b, 2, none⟩ v2).setCell ⟨b, 3, none⟩ v3).setCell ⟨b, 4, none⟩ v4).setCell ⟨b, 5, none⟩ v5).setCell ⟨b, 6, none⟩ v6).setCell ⟨b, 7, none⟩ v7).setCell ⟨b, 8, none⟩ v8).setCell ⟨b, 9, none⟩ v9).setCell ⟨b, 10, none⟩ v10).heap[k]? = w.heap[k]? := by
  have h' : ∀ (w : World) (j : Nat) (v : Value), (w.setCell ⟨b, j, none⟩ v).heap[k]? = w.heap[k]? := fun w j v => Below.heap_setCell w ⟨b, j, none⟩ v k h
  simp only [h']

set_option maxRecDepth 100000 in
set_option maxHeartbeats 2000000 in
theorem ofInts_div0 (o : IOp) (ho : o = .quo ∨ o = .rem) (t : ByteArray) (a f f' : Int) (s s' : ByteArray) (r0 r1 r2 r3 : Int) (p i : Value) (q0 q1 q2 q3 : Int) (p' i' : Value) (w : World) :
    Calls Tryd.prog 44 #[.string o.txt, D 2 t a f s r0 r1 r2 r3 p i, D 2 t 0 f' s' q0 q1 q2 q3 p' i'] w fun r w' => ∃ n, r = .returned (.tuple #[dat 0 ⟨#[]⟩ 0 0 ⟨#[]⟩, .iface 69 (.pointer (some ⟨n, 0, none⟩))]) ∧ w.heap.size ≤ n ∧ w'.heap[n]? = some (.cells #[.string ⟨#[100, 105, 118, 105, 100, 101]⟩, .string ⟨#[]⟩] 35 (0, 0)) ∧ Below w.heap.size w w' := by
  simp only [D, dat]
  rcases ho with rfl | rfl <;> simp only [IOp.txt]
  all_goals
    go_enter Tryd.func44, Tryd.ntmps44
    go_wp2_with (go_at_call 38; refine (fault_any _ _ _).mono ?_; rintro r w2 ⟨rfl, hw2⟩; have hb : Below (w.heap.size + 1 + 1 + 1) (((w.alloc (.cells #[.int .i64 2, .string t, .int .i64 a, .int .u64 f, .string s, .int .i64 r0, .int .i64 r1, .int .i64 r2, .int .i64 r3, p, i] 28)).alloc (.cells #[.int .i64 2, .string t, .int .i64 0, .int .u64 f', .string s', .int .i64 q0, .int .i64 q1, .int .i64 q2, .int .i64 q3, p', i'] 28)).alloc (.cells #[.int .i64 0, .string ⟨#[]⟩, .int .i64 0, .int .u64 0, .string ⟨#[]⟩, .int .i64 0, .int .i64 0, .int .i64 0, .int .i64 0, .slice none 0 0, .slice none 0 0] 28)) w2 := (by (rw [hw2]; exact (Below.refl _ _).alloc (by simp) _)); have hnew : w2.heap[w.heap.size + 1 + 1 + 1]? = some (.cells #[.string ⟨#[100, 105, 118, 105, 100, 101]⟩, .string ⟨#[]⟩] 35 (0, 0)) := (by (rw [hw2, show w.heap.size + 1 + 1 + 1 = (((w.alloc (.cells #[.int .i64 2, .string t, .int .i64 a, .int .u64 f, .string s, .int .i64 r0, .int .i64 r1, .int .i64 r2, .int .i64 r3, p, i] 28)).alloc (.cells #[.int .i64 2, .string t, .int .i64 0, .int .u64 f', .string s', .int .i64 q0, .int .i64 q1, .int .i64 q2, .int .i64 q3, p', i'] 28)).alloc (.cells #[.int .i64 0, .string ⟨#[]⟩, .int .i64 0, .int .u64 0, .string ⟨#[]⟩, .int .i64 0, .int .i64 0, .int .i64 0, .int .i64 0, .slice none 0 0, .slice none 0 0] 28)).heap.size by simp]; exact heap_alloc_new _ _)); clear hw2; have HN : Hid _ := hnew; clear hnew; obtain ⟨⟨c0, c1, c2, c3, c4, c5, c6, c7, c8, c9, c10⟩, hf2⟩ := box_kept ((hb.block (w.heap.size + 1 + 1) (by omega)).trans (heap3_2 _ _ _ _)))
    refine bodyPost_ret (v := .tuple #[.agg #[.int .i64 0, .string ⟨#[]⟩, .int .i64 0, .int .u64 0, .string ⟨#[]⟩, .int .i64 0, .int .i64 0, .int .i64 0, .int .i64 0, .slice none 0 0, .slice none 0 0], .iface 69 (.pointer (some ⟨w.heap.size + 1 + 1 + 1, 0, none⟩))]) (by simp [results, Tryd.results44, go_sem, c0, c1, c2, c3, c4, c5, c6, c7, c8, c9, c10]) rfl ⟨_, rfl, by omega, ?_, ?_⟩
    · rw [set11_other _ _ _ _ _ _ _ _ _ _ _ _ _ _ (by omega)]; exact HN.out
    · exact bset ((below3 w _ _ _).trans (hb.mono (by omega))) (by omega) _ _ _ _ _ _ _ _ _ _ _

set_option maxRecDepth 100000 in
set_option maxHeartbeats 2000000 in
theorem binary_div0 (o : IOp) (ho : o = .quo ∨ o = .rem) (t : ByteArray) (a f f' : Int) (s s' : ByteArray) (r0 r1 r2 r3 : Int) (p i : Value) (q0 q1 q2 q3 : Int) (p' i' : Value) (w : World) :
    Calls Tryd.prog 15 #[.string o.txt, D 2 t a f s r0 r1 r2 r3 p i, D 2 t 0 f' s' q0 q1 q2 q3 p' i'] w fun r w' => ∃ n, r = .returned (.tuple #[dat 0 ⟨#[]⟩ 0 0 ⟨#[]⟩, .iface 69 (.pointer (some ⟨n, 0, none⟩))]) ∧ w.heap.size ≤ n ∧ w'.heap[n]? = some (.cells #[.string ⟨#[100, 105, 118, 105, 100, 101]⟩, .string ⟨#[]⟩] 35 (0, 0)) ∧ Below w.heap.size w w' := by
  have HO : Hid (∀ w, Calls Tryd.prog 44 #[.string o.txt, D 2 t a f s r0 r1 r2 r3 p i, D 2 t 0 f' s' q0 q1 q2 q3 p' i'] w fun r w' => ∃ n, r = .returned (.tuple #[dat 0 ⟨#[]⟩ 0 0 ⟨#[]⟩, .iface 69 (.pointer (some ⟨n, 0, none⟩))]) ∧ w.heap.size ≤ n ∧ w'.heap[n]? = some (.cells #[.string ⟨#[100, 105, 118, 105, 100, 101]⟩, .string ⟨#[]⟩] 35 (0, 0)) ∧ Below w.heap.size w w') := fun W => ofInts_div0 o ho t a f f' s s' r0 r1 r2 r3 p i q0 q1 q2 q3 p' i' W
  simp only [dat, D] at HO ⊢
  rcases ho with rfl | rfl <;> simp only [IOp.txt] at HO ⊢
  all_goals
    go_enter Tryd.func15, Tryd.ntmps15
    go_wp2_with (go_at_call 44; refine (HO.out _).mono ?_; rintro e w2 ⟨n, rfl, hn, hrow, hb⟩; simp at hn; have HR : Hid _ := hrow; clear hrow; obtain ⟨⟨c0, c1, c2, c3, c4, c5, c6, c7, c8, c9, c10⟩, hf2⟩ := box_kept ((hb.block (w.heap.size + 1 + 1) (by simp)).trans (heap3_2 _ _ _ _)))
    refine bodyPost_ret (v := .tuple #[.agg #[.int .i64 0, .string ⟨#[]⟩, .int .i64 0, .int .u64 0, .string ⟨#[]⟩, .int .i64 0, .int .i64 0, .int .i64 0, .int .i64 0, .slice none 0 0, .slice none 0 0], .iface 69 (.pointer (some ⟨n, 0, none⟩))]) (by simp [results, Tryd.results15, go_sem, c0, c1, c2, c3, c4, c5, c6, c7, c8, c9, c10]) rfl ⟨n, rfl, by omega, ?_, ?_⟩
    · rw [set11_other _ _ _ _ _ _ _ _ _ _ _ _ _ _ (by omega)]; exact HR.out
    · exact bset ((below3 w _ _ _).trans (hb.mono (by simp; omega))) (by omega) _ _ _ _ _ _ _ _ _ _ _
end Go.Proofs.YtoplmbboaobahaaDoor
