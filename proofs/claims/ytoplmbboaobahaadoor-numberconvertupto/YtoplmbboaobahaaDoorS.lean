/-
  The walks of textOf, together, and of Binary's sum of texts.
-/
import Derived.Test.YtoplmbboaobahaaDoorIt
import Derived.Test.YtoplmbboaobahaaDoorJ
namespace Go.Proofs.YtoplmbboaobahaaDoor
open Go.RowKit

attribute [local go_sem] refold2 cell3_0 cell3_1 b28_0 b28_01 b28_012 b28_013 b28_014 b35_01 b35_0 b35 mkI69

theorem below_grow (w : World) (q : Nat) (os : Array Obj) : Below w.heap.size w (Sort.grow (w.drewN q) os) :=
  ⟨rfl, rfl, rfl, by simp [Sort.grow, World.drewN], fun k hk => by
    show (w.heap ++ os)[k]? = w.heap[k]?
    rw [Array.getElem?_append_left hk]⟩

theorem itoa_b (n : Int) (h0 : -9223372036854775808 ≤ n) (h1 : n ≤ 9223372036854775807) (w : World) (htab : Lib.TabIs Tryd.prog w "internal/strconv.uint64pow10" .u64 Lib.pow10Tab) :
    Calls Tryd.prog 63 #[.int .i64 n] w fun r w' => r = .returned (.string ⟨(Lib.itoa n).toArray⟩) ∧ Below w.heap.size w w' :=
  (itoa_any n h0 h1 w htab).mono fun _ _ ⟨h, _, _, e⟩ => ⟨h, e ▸ below_grow _ _ _⟩

theorem gTab : Tryd.prog.globalNamed "internal/strconv.uint64pow10" = some 2 := by kernel_rfl

/-- The table of powers lies in memory, and is kept. -/
theorem tab_size {w : World} (h : Lib.TabIs Tryd.prog w "internal/strconv.uint64pow10" .u64 Lib.pow10Tab) : 2 < w.heap.size := by
  unfold Lib.TabIs World.var? at h
  rw [gTab, Option.bind_some] at h
  split at h
  · rename_i e; exact (Array.getElem?_eq_some_iff.1 e).1
  · cases h
theorem tab_kept {w w' : World} (h : Lib.TabIs Tryd.prog w "internal/strconv.uint64pow10" .u64 Lib.pow10Tab) (hb : Below w.heap.size w w') : Lib.TabIs Tryd.prog w' "internal/strconv.uint64pow10" .u64 Lib.pow10Tab := by
  have hs := tab_size h
  unfold Lib.TabIs World.var? at h ⊢
  rw [gTab, Option.bind_some] at h ⊢
  rw [hb.block 2 hs]
  exact h

set_option maxRecDepth 100000 in
set_option maxHeartbeats 1000000 in
theorem textOf_any (t s : ByteArray) (w : World) (ht : t.size ≤ 140737488351232) (hs : s.size ≤ 140737488351232) :
    Calls Tryd.prog 71 #[.string t, .string s] w fun r w' => r = .returned (dat 4 t 0 0 s) ∧ Below w.heap.size w w' := by
  simp only [dat, D]
  go_enter Tryd.func71, Tryd.ntmps71
  go_wp2_with fail
  refine (clone_any _ _ ht).mono ?_
  rintro r w1 ⟨rfl, b1⟩
  go_wp2_with fail
  refine (clone_any _ _ hs).mono ?_
  rintro r w2 ⟨rfl, b2⟩
  have hb := b1.trans (b2.mono b1.size)
  obtain ⟨⟨c0, c1, c2, c3, c4, c5, c6, c7, c8, c9, c10⟩, hf2⟩ := box_kept ((hb.block w.heap.size (by simp)).trans (heap_alloc_new _ _))
  go_wp2_with fail
  refine bodyPost_ret (v := .agg #[.int .i64 4, .string t, .int .i64 0, .int .u64 0, .string s, .int .i64 0, .int .i64 0, .int .i64 0, .int .i64 0, .slice none 0 0, .slice none 0 0]) (by simp [results, Tryd.results71, go_sem, c0, c1, c2, c3, c4, c5, c6, c7, c8, c9, c10]) rfl ⟨rfl, ?_⟩
  exact bset ((below1 w _).trans (hb.mono (by simp))) (Nat.le_refl _) _ _ _ _ _ _ _ _ _ _ _

set_option maxRecDepth 100000 in
set_option maxHeartbeats 2000000 in
theorem together_ok (t : ByteArray) (a b f f' : Int) (s s' : ByteArray) (r0 r1 r2 r3 : Int) (p i : Value) (q0 q1 q2 q3 : Int) (p' i' : Value) (w : World) (ht : t.size ≤ 140737488351232) (hl : s.size + s'.size ≤ 65536) :
    Calls Tryd.prog 42 #[D 4 t a f s r0 r1 r2 r3 p i, D 4 t b f' s' q0 q1 q2 q3 p' i'] w fun r w' => r = .returned (.tuple #[dat 4 t 0 0 (s ++ s'), .nilIface]) ∧ Below w.heap.size w w' := by
  have hap : (s ++ s').size ≤ 140737488351232 := by rw [ByteArray.size_append]; omega
  simp only [dat, D]
  have h1 : s.size ≤ 65536 := by omega
  have h2 : s'.size ≤ 65536 := by omega
  have h3 : ¬ ((s.size : Int) + s'.size > 65536) := by omega
  go_enter Tryd.func42, Tryd.ntmps42
  go_wp2_with (go_at_call 71; refine (textOf_any _ _ _ ht hap).mono ?_; simp only [dat, D]; rintro r w2 ⟨rfl, hb⟩; obtain ⟨⟨c0, c1, c2, c3, c4, c5, c6, c7, c8, c9, c10⟩, hf2⟩ := box_kept ((hb.block (w.heap.size + 1 + 1) (by simp)).trans (heap3_2 _ _ _ _)))
  refine bodyPost_ret (v := .tuple #[.agg #[.int .i64 4, .string t, .int .i64 0, .int .u64 0, .string (s ++ s'), .int .i64 0, .int .i64 0, .int .i64 0, .int .i64 0, .slice none 0 0, .slice none 0 0], .nilIface]) (by simp [results, Tryd.results42, go_sem, c0, c1, c2, c3, c4, c5, c6, c7, c8, c9, c10]) rfl ⟨rfl, ?_⟩
  exact bset ((below3 w _ _ _).trans (hb.mono (by simp; omega))) (by omega) _ _ _ _ _ _ _ _ _ _ _

set_option maxRecDepth 100000 in
set_option maxHeartbeats 2000000 in
theorem together_bad (t : ByteArray) (a b f f' : Int) (s s' : ByteArray) (r0 r1 r2 r3 : Int) (p i : Value) (q0 q1 q2 q3 : Int) (p' i' : Value) (w : World) (hl : 65536 < s.size + s'.size) (h1 : s.size ≤ 140737488351232) (h2 : s'.size ≤ 140737488351232) (htab : Lib.TabIs Tryd.prog w "internal/strconv.uint64pow10" .u64 Lib.pow10Tab) :
    Calls Tryd.prog 42 #[D 4 t a f s r0 r1 r2 r3 p i, D 4 t b f' s' q0 q1 q2 q3 p' i'] w fun r w' => ∃ n, r = .returned (.tuple #[.agg #[.int .i64 0, .string ⟨#[]⟩, .int .i64 0, .int .u64 0, .string ⟨#[]⟩, .int .i64 0, .int .i64 0, .int .i64 0, .int .i64 0, .slice none 0 0, .slice none 0 0], .iface 69 (.pointer (some ⟨n, 0, none⟩))]) ∧ w.heap.size ≤ n ∧ w'.heap[n]? = some (.cells #[.string ⟨#[99, 111, 117, 110, 116]⟩, .string ⟨(Lib.itoa ((s.size : Int) + s'.size)).toArray⟩] 35 (0, 0)) ∧ Below w.heap.size w w' := by
  simp only [D]
  have HI : Hid (∀ W, Below w.heap.size w W → Calls Tryd.prog 63 #[.int .i64 ((s.size : Int) + s'.size)] W fun r w' => r = .returned (.string ⟨(Lib.itoa ((s.size : Int) + s'.size)).toArray⟩) ∧ Below W.heap.size W w') := fun W hW => itoa_b _ (by omega) (by omega) W (tab_kept htab hW)
  generalize Lib.itoa ((s.size : Int) + s'.size) = d at HI ⊢
  have h3 : (s.size : Int) + s'.size > 65536 := by omega
  clear htab
  go_enter Tryd.func42, Tryd.ntmps42
  go_wp2_with fail
  refine (HI.out _ (below3 _ _ _ _)).mono ?_
  rintro r w1 ⟨rfl, b1⟩
  go_wp2_with fail
  refine (fault_any _ _ _).mono ?_
  rintro r w2 ⟨rfl, hw2⟩
  have b2 : Below w1.heap.size w1 w2 := by rw [hw2]; exact below1 _ _
  have hnew : w2.heap[w1.heap.size]? = some (.cells #[.string ⟨#[99, 111, 117, 110, 116]⟩, .string ⟨d.toArray⟩] 35 (0, 0)) := by rw [hw2]; exact heap_alloc_new _ _
  have z1 : w.heap.size + 1 + 1 + 1 ≤ w1.heap.size := by have := b1.size; simp at this; omega
  clear hw2
  have hb := b1.trans (b2.mono b1.size)
  have HN : Hid _ := hnew
  clear hnew
  obtain ⟨⟨c0, c1, c2, c3, c4, c5, c6, c7, c8, c9, c10⟩, hf2⟩ := box_kept ((hb.block (w.heap.size + 1 + 1) (by simp)).trans (heap3_2 _ _ _ _))
  go_wp2_with fail
  refine bodyPost_ret (v := .tuple #[.agg #[.int .i64 0, .string ⟨#[]⟩, .int .i64 0, .int .u64 0, .string ⟨#[]⟩, .int .i64 0, .int .i64 0, .int .i64 0, .int .i64 0, .slice none 0 0, .slice none 0 0], .iface 69 (.pointer (some ⟨w1.heap.size, 0, none⟩))]) (by simp [results, Tryd.results42, go_sem, c0, c1, c2, c3, c4, c5, c6, c7, c8, c9, c10]) rfl ⟨_, rfl, by omega, ?_, ?_⟩
  · rw [set11_other _ _ _ _ _ _ _ _ _ _ _ _ _ _ (by omega)]; exact HN.out
  · exact bset ((below3 w _ _ _).trans (hb.mono (by simp; omega))) (by omega) _ _ _ _ _ _ _ _ _ _ _

set_option maxRecDepth 100000 in
set_option maxHeartbeats 2000000 in
theorem binary_text (t : ByteArray) (a b f f' : Int) (s s' : ByteArray) (r0 r1 r2 r3 : Int) (p i : Value) (q0 q1 q2 q3 : Int) (p' i' : Value) (w : World) (ht : t.size ≤ 140737488351232) (hl : s.size + s'.size ≤ 65536) :
    Calls Tryd.prog 15 #[.string ⟨#[43]⟩, D 4 t a f s r0 r1 r2 r3 p i, D 4 t b f' s' q0 q1 q2 q3 p' i'] w fun r w' => r = .returned (.tuple #[.agg #[.int .i64 4, .string t, .int .i64 0, .int .u64 0, .string (s ++ s'), .int .i64 0, .int .i64 0, .int .i64 0, .int .i64 0, .slice none 0 0, .slice none 0 0], .nilIface]) ∧ Below w.heap.size w w' := by
  have HO : Hid (∀ W, Calls Tryd.prog 42 #[D 4 t a f s r0 r1 r2 r3 p i, D 4 t b f' s' q0 q1 q2 q3 p' i'] W fun r w' => r = .returned (.tuple #[dat 4 t 0 0 (s ++ s'), .nilIface]) ∧ Below W.heap.size W w') := fun W => together_ok t a b f f' s s' r0 r1 r2 r3 p i q0 q1 q2 q3 p' i' W ht hl
  clear ht hl
  simp only [dat, D] at HO ⊢
  generalize s ++ s' = v at HO ⊢
  go_enter Tryd.func15, Tryd.ntmps15
  go_wp2_with (go_at_call 42; refine (HO.out _).mono ?_; rintro e w2 ⟨rfl, hb⟩; obtain ⟨⟨c0, c1, c2, c3, c4, c5, c6, c7, c8, c9, c10⟩, hf2⟩ := box_kept ((hb.block (w.heap.size + 1 + 1) (by simp)).trans (heap3_2 _ _ _ _)))
  refine bodyPost_ret (v := .tuple #[.agg #[.int .i64 4, .string t, .int .i64 0, .int .u64 0, .string v, .int .i64 0, .int .i64 0, .int .i64 0, .int .i64 0, .slice none 0 0, .slice none 0 0], .nilIface]) (by simp [results, Tryd.results15, go_sem, c0, c1, c2, c3, c4, c5, c6, c7, c8, c9, c10]) rfl ⟨rfl, ?_⟩
  exact bset ((below3 w _ _ _).trans (hb.mono (by simp; omega))) (by omega) _ _ _ _ _ _ _ _ _ _ _

set_option maxRecDepth 100000 in
set_option maxHeartbeats 2000000 in
theorem binary_textbad (t : ByteArray) (a b f f' : Int) (s s' : ByteArray) (r0 r1 r2 r3 : Int) (p i : Value) (q0 q1 q2 q3 : Int) (p' i' : Value) (w : World) (hl : 65536 < s.size + s'.size) (h1 : s.size ≤ 140737488351232) (h2 : s'.size ≤ 140737488351232) (htab : Lib.TabIs Tryd.prog w "internal/strconv.uint64pow10" .u64 Lib.pow10Tab) :
    Calls Tryd.prog 15 #[.string ⟨#[43]⟩, D 4 t a f s r0 r1 r2 r3 p i, D 4 t b f' s' q0 q1 q2 q3 p' i'] w fun r w' => ∃ n, r = .returned (.tuple #[.agg #[.int .i64 0, .string ⟨#[]⟩, .int .i64 0, .int .u64 0, .string ⟨#[]⟩, .int .i64 0, .int .i64 0, .int .i64 0, .int .i64 0, .slice none 0 0, .slice none 0 0], .iface 69 (.pointer (some ⟨n, 0, none⟩))]) ∧ w.heap.size ≤ n ∧ w'.heap[n]? = some (.cells #[.string ⟨#[99, 111, 117, 110, 116]⟩, .string ⟨(Lib.itoa ((s.size : Int) + s'.size)).toArray⟩] 35 (0, 0)) ∧ Below w.heap.size w w' := by
  have HO : Hid (∀ W, Below w.heap.size w W → Calls Tryd.prog 42 #[D 4 t a f s r0 r1 r2 r3 p i, D 4 t b f' s' q0 q1 q2 q3 p' i'] W fun r w' => ∃ n, r = .returned (.tuple #[.agg #[.int .i64 0, .string ⟨#[]⟩, .int .i64 0, .int .u64 0, .string ⟨#[]⟩, .int .i64 0, .int .i64 0, .int .i64 0, .int .i64 0, .slice none 0 0, .slice none 0 0], .iface 69 (.pointer (some ⟨n, 0, none⟩))]) ∧ W.heap.size ≤ n ∧ w'.heap[n]? = some (.cells #[.string ⟨#[99, 111, 117, 110, 116]⟩, .string ⟨(Lib.itoa ((s.size : Int) + s'.size)).toArray⟩] 35 (0, 0)) ∧ Below W.heap.size W w') := fun W hW => together_bad t a b f f' s s' r0 r1 r2 r3 p i q0 q1 q2 q3 p' i' W hl h1 h2 (tab_kept htab hW)
  clear hl h1 h2 htab
  generalize Lib.itoa ((s.size : Int) + s'.size) = d at HO ⊢
  simp only [D] at HO ⊢
  go_enter Tryd.func15, Tryd.ntmps15
  go_wp2_with fail
  refine (HO.out _ (below3 _ _ _ _)).mono ?_
  rintro e w2 ⟨n, rfl, hn, hrow, hb⟩
  simp at hn
  have HR : Hid _ := hrow
  clear hrow
  obtain ⟨⟨c0, c1, c2, c3, c4, c5, c6, c7, c8, c9, c10⟩, hf2⟩ := box_kept ((hb.block (w.heap.size + 1 + 1) (by simp)).trans (heap3_2 _ _ _ _))
  go_wp2_with fail
  refine bodyPost_ret (v := .tuple #[.agg #[.int .i64 0, .string ⟨#[]⟩, .int .i64 0, .int .u64 0, .string ⟨#[]⟩, .int .i64 0, .int .i64 0, .int .i64 0, .int .i64 0, .slice none 0 0, .slice none 0 0], .iface 69 (.pointer (some ⟨n, 0, none⟩))]) (by simp [results, Tryd.results15, go_sem, c0, c1, c2, c3, c4, c5, c6, c7, c8, c9, c10]) rfl ⟨n, rfl, by omega, ?_, ?_⟩
  · rw [set11_other _ _ _ _ _ _ _ _ _ _ _ _ _ _ (by omega)]; exact HR.out
  · exact bset ((below3 w _ _ _).trans (hb.mono (by simp; omega))) (by omega) _ _ _ _ _ _ _ _ _ _ _

set_option maxRecDepth 100000 in
set_option maxHeartbeats 2000000 in
theorem ofInts_count (o : IOp) (ho : o = .shl ∨ o = .shr) (t : ByteArray) (a b f f' : Int) (s s' : ByteArray) (r0 r1 r2 r3 : Int) (p i : Value) (q0 q1 q2 q3 : Int) (p' i' : Value) (w : World) (hb : b < 0) (h0 : -9223372036854775808 ≤ b) (htab : Lib.TabIs Tryd.prog w "internal/strconv.uint64pow10" .u64 Lib.pow10Tab) :
    Calls Tryd.prog 44 #[.string o.txt, D 2 t a f s r0 r1 r2 r3 p i, D 2 t b f' s' q0 q1 q2 q3 p' i'] w fun r w' => ∃ n, r = .returned (.tuple #[.agg #[.int .i64 0, .string ⟨#[]⟩, .int .i64 0, .int .u64 0, .string ⟨#[]⟩, .int .i64 0, .int .i64 0, .int .i64 0, .int .i64 0, .slice none 0 0, .slice none 0 0], .iface 69 (.pointer (some ⟨n, 0, none⟩))]) ∧ w.heap.size ≤ n ∧ w'.heap[n]? = some (.cells #[.string ⟨#[99, 111, 117, 110, 116]⟩, .string ⟨(Lib.itoa b).toArray⟩] 35 (0, 0)) ∧ Below w.heap.size w w' := by
  simp only [D]
  have HI : Hid (∀ W, Below w.heap.size w W → Calls Tryd.prog 63 #[.int .i64 b] W fun r w' => r = .returned (.string ⟨(Lib.itoa b).toArray⟩) ∧ Below W.heap.size W w') := fun W hW => itoa_b _ h0 (by omega) W (tab_kept htab hW)
  generalize Lib.itoa b = d at HI ⊢
  clear htab
  rcases ho with rfl | rfl <;> simp only [IOp.txt]
  all_goals
    go_enter Tryd.func44, Tryd.ntmps44
    go_wp2_with fail
    refine (HI.out _ (below3 _ _ _ _)).mono ?_
    rintro r w1 ⟨rfl, b1⟩
    go_wp2_with fail
    refine (fault_any _ _ _).mono ?_
    rintro r w2 ⟨rfl, hw2⟩
    have b2 : Below w1.heap.size w1 w2 := by rw [hw2]; exact below1 _ _
    have hnew : w2.heap[w1.heap.size]? = some (.cells #[.string ⟨#[99, 111, 117, 110, 116]⟩, .string ⟨d.toArray⟩] 35 (0, 0)) := by rw [hw2]; exact heap_alloc_new _ _
    have z1 : w.heap.size + 1 + 1 + 1 ≤ w1.heap.size := by have := b1.size; simp at this; omega
    clear hw2
    have hbb := b1.trans (b2.mono b1.size)
    have HN : Hid _ := hnew
    clear hnew
    obtain ⟨⟨c0, c1, c2, c3, c4, c5, c6, c7, c8, c9, c10⟩, hf2⟩ := box_kept ((hbb.block (w.heap.size + 1 + 1) (by simp)).trans (heap3_2 _ _ _ _))
    go_wp2_with fail
    refine bodyPost_ret (v := .tuple #[.agg #[.int .i64 0, .string ⟨#[]⟩, .int .i64 0, .int .u64 0, .string ⟨#[]⟩, .int .i64 0, .int .i64 0, .int .i64 0, .int .i64 0, .slice none 0 0, .slice none 0 0], .iface 69 (.pointer (some ⟨w1.heap.size, 0, none⟩))]) (by simp [results, Tryd.results44, go_sem, c0, c1, c2, c3, c4, c5, c6, c7, c8, c9, c10]) rfl ⟨_, rfl, by omega, ?_, ?_⟩
    · rw [set11_other _ _ _ _ _ _ _ _ _ _ _ _ _ _ (by omega)]; exact HN.out
    · exact bset ((below3 w _ _ _).trans (hbb.mono (by simp; omega))) (by omega) _ _ _ _ _ _ _ _ _ _ _

set_option maxRecDepth 100000 in
set_option maxHeartbeats 2000000 in
theorem binary_count (o : IOp) (ho : o = .shl ∨ o = .shr) (t : ByteArray) (a b f f' : Int) (s s' : ByteArray) (r0 r1 r2 r3 : Int) (p i : Value) (q0 q1 q2 q3 : Int) (p' i' : Value) (w : World) (hb : b < 0) (h0 : -9223372036854775808 ≤ b) (htab : Lib.TabIs Tryd.prog w "internal/strconv.uint64pow10" .u64 Lib.pow10Tab) :
    Calls Tryd.prog 15 #[.string o.txt, D 2 t a f s r0 r1 r2 r3 p i, D 2 t b f' s' q0 q1 q2 q3 p' i'] w fun r w' => ∃ n, r = .returned (.tuple #[.agg #[.int .i64 0, .string ⟨#[]⟩, .int .i64 0, .int .u64 0, .string ⟨#[]⟩, .int .i64 0, .int .i64 0, .int .i64 0, .int .i64 0, .slice none 0 0, .slice none 0 0], .iface 69 (.pointer (some ⟨n, 0, none⟩))]) ∧ w.heap.size ≤ n ∧ w'.heap[n]? = some (.cells #[.string ⟨#[99, 111, 117, 110, 116]⟩, .string ⟨(Lib.itoa b).toArray⟩] 35 (0, 0)) ∧ Below w.heap.size w w' := by
  have HO : Hid (∀ W, Below w.heap.size w W → Calls Tryd.prog 44 #[.string o.txt, D 2 t a f s r0 r1 r2 r3 p i, D 2 t b f' s' q0 q1 q2 q3 p' i'] W fun r w' => ∃ n, r = .returned (.tuple #[.agg #[.int .i64 0, .string ⟨#[]⟩, .int .i64 0, .int .u64 0, .string ⟨#[]⟩, .int .i64 0, .int .i64 0, .int .i64 0, .int .i64 0, .slice none 0 0, .slice none 0 0], .iface 69 (.pointer (some ⟨n, 0, none⟩))]) ∧ W.heap.size ≤ n ∧ w'.heap[n]? = some (.cells #[.string ⟨#[99, 111, 117, 110, 116]⟩, .string ⟨(Lib.itoa b).toArray⟩] 35 (0, 0)) ∧ Below W.heap.size W w') := fun W hW => ofInts_count o ho t a b f f' s s' r0 r1 r2 r3 p i q0 q1 q2 q3 p' i' W hb h0 (tab_kept htab hW)
  generalize Lib.itoa b = d at HO ⊢
  clear hb h0 htab
  simp only [D] at HO ⊢
  rcases ho with rfl | rfl <;> simp only [IOp.txt] at HO ⊢
  all_goals
    go_enter Tryd.func15, Tryd.ntmps15
    go_wp2_with fail
    refine (HO.out _ (below3 _ _ _ _)).mono ?_
    rintro e w2 ⟨n, rfl, hn, hrow, hb⟩
    simp at hn
    have HR : Hid _ := hrow
    clear hrow
    obtain ⟨⟨c0, c1, c2, c3, c4, c5, c6, c7, c8, c9, c10⟩, hf2⟩ := box_kept ((hb.block (w.heap.size + 1 + 1) (by simp)).trans (heap3_2 _ _ _ _))
    go_wp2_with fail
    refine bodyPost_ret (v := .tuple #[.agg #[.int .i64 0, .string ⟨#[]⟩, .int .i64 0, .int .u64 0, .string ⟨#[]⟩, .int .i64 0, .int .i64 0, .int .i64 0, .int .i64 0, .slice none 0 0, .slice none 0 0], .iface 69 (.pointer (some ⟨n, 0, none⟩))]) (by simp [results, Tryd.results15, go_sem, c0, c1, c2, c3, c4, c5, c6, c7, c8, c9, c10]) rfl ⟨n, rfl, by omega, ?_, ?_⟩
    · rw [set11_other _ _ _ _ _ _ _ _ _ _ _ _ _ _ (by omega)]; exact HR.out
    · exact bset ((below3 w _ _ _).trans (hb.mono (by simp; omega))) (by omega) _ _ _ _ _ _ _ _ _ _ _
end Go.Proofs.YtoplmbboaobahaaDoor
