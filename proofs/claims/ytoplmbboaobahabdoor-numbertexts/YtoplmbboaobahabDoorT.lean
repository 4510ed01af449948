/-
  The walk of NumberTexts.
-/
import Derived.Test.YtoplmbboaobahabDoorS
import Derived.Test.YtoplmbboaobahabDoorR
namespace Go.Proofs.YtoplmbboaobahabDoor
open Go.RowKit

attribute [local go_sem] refold2 cell3_0 cell3_1 b28_0 b28_01 b28_012 b28_013 b28_014 b35_01 b35_0 b35 mkI69 ta69

theorem le_append : ∀ a b : List UInt8, (Op.bytesLess a (a ++ b) || a == a ++ b) = true
  | [], [] => by decide
  | [], y :: ys => by simp [Op.bytesLess]
  | x :: xs, b => by
    have ih := le_append xs b
    simp only [List.cons_append, Op.bytesLess, List.cons_beq_cons, beq_self_eq_true, Bool.true_and]
    rw [Bool.or_assoc, ih, Bool.or_true]

theorem toList_append (a b : ByteArray) : (a ++ b).toList = a.toList ++ b.toList := by
  rw [ByteArray.toList_eq, ByteArray.toList_eq, ByteArray.toList_eq]; simp

/-- The boxes of three data are kept. -/
theorem three_kept (w : World) (c d e : Array Value) (W : World) (h : Below (((w.alloc (.cells c 30)).alloc (.cells d 30)).alloc (.cells e 30)).heap.size (((w.alloc (.cells c 30)).alloc (.cells d 30)).alloc (.cells e 30)) W) :
    (∀ j, W.cell? ⟨w.heap.size, j, none⟩ = c[j]?) ∧ (∀ j, W.cell? ⟨w.heap.size + 1, j, none⟩ = d[j]?) ∧ (∀ j, W.cell? ⟨w.heap.size + 1 + 1, j, none⟩ = e[j]?) := by
  refine ⟨fun j => ?_, fun j => ?_, fun j => ?_⟩
  · rw [h.cell (p := ⟨w.heap.size, j, none⟩) (by simp; omega), cell3_0]
  · rw [h.cell (p := ⟨w.heap.size + 1, j, none⟩) (by simp), cell3_1]
  · rw [h.cell (p := ⟨w.heap.size + 1 + 1, j, none⟩) (by simp), show w.heap.size + 1 + 1 = ((w.alloc (.cells c 30)).alloc (.cells d 30)).heap.size by simp, World.cell?_alloc_new]

/-- The box of one datum is kept. -/
theorem one_kept (w : World) (c : Array Value) (W : World) (h : Below (w.alloc (.cells c 30)).heap.size (w.alloc (.cells c 30)) W) : ∀ j, W.cell? ⟨w.heap.size, j, none⟩ = c[j]? := fun j => by
  rw [h.cell (p := ⟨w.heap.size, j, none⟩) (by simp), World.cell?_alloc_new]

theorem bnext {B : Nat} {a w w' : World} {o : Obj} (h : Below B a w) (hB : B ≤ w.heap.size) (k : Below (w.alloc o).heap.size (w.alloc o) w') : Below B a w' :=
  (h.alloc hB o).trans (k.mono (by simp; omega))

set_option maxRecDepth 100000 in
set_option maxHeartbeats 16000000 in
theorem textsLaw_any (t a b c : ByteArray) (w : World) (ht : t.size ≤ 140737488351232) (ha : a.size ≤ 140737488351232) (hb : b.size ≤ 140737488351232) (hc : c.size ≤ 140737488351232) (htab : Lib.TabIs Tryd.prog w "internal/strconv.uint64pow10" .u64 Lib.pow10Tab) :
    Calls Tryd.prog 4 #[.string t, .string a, .string b, .string c] w fun r w' => r = .returned (.bool true) ∧ Below w.heap.size w w' := by
  by_cases h1 : 65536 < a.size + b.size
  · have H1 : Hid (∀ W, Below w.heap.size w W → Calls Tryd.prog 9 #[.string ⟨#[43]⟩, .agg #[.int .i64 4, .string t, .int .i64 0, .int .u64 0, .string a, .int .i64 0, .int .i64 0, .int .i64 0, .int .i64 0, .slice none 0 0, .slice none 0 0], .agg #[.int .i64 4, .string t, .int .i64 0, .int .u64 0, .string b, .int .i64 0, .int .i64 0, .int .i64 0, .int .i64 0, .slice none 0 0, .slice none 0 0]] W fun r w' => ∃ n d, r = .returned (.tuple #[.agg #[.int .i64 0, .string ⟨#[]⟩, .int .i64 0, .int .u64 0, .string ⟨#[]⟩, .int .i64 0, .int .i64 0, .int .i64 0, .int .i64 0, .slice none 0 0, .slice none 0 0], .iface 39 (.pointer (some ⟨n, 0, none⟩))]) ∧ W.heap.size ≤ n ∧ w'.heap[n]? = some (.cells #[.string ⟨#[99, 111, 117, 110, 116]⟩, .string d] 42 (0, 0)) ∧ Below W.heap.size W w') := fun W hW => binary_textbad t 0 0 0 0 a b 0 0 0 0 (.slice none 0 0) (.slice none 0 0) 0 0 0 0 (.slice none 0 0) (.slice none 0 0) W h1 ha hb (tab_kept htab hW)
    clear htab
    have hi : (65536 : Int) < (a.size : Int) + b.size := by omega
    go_enter Tryd.func4, Tryd.ntmps4
    go_wp2_with fail
    refine (known_any _).mono ?_
    rintro r w1 ⟨rfl, b1⟩
    go_wp2_with fail
    refine (H1.out _ (b1.trans ((below3 w1 _ _ _).mono b1.size))).mono ?_
    rintro r w2 ⟨n, d, rfl, hn, hrow, b2⟩
    have q2 : Below w.heap.size w w2 := b1.trans (((below3 w1 _ _ _).trans (b2.mono (by simp; omega))).mono b1.size)
    have hn2 : n < w2.heap.size := by
      rcases Nat.lt_or_ge n w2.heap.size with h | h
      · exact h
      · rw [Array.getElem?_eq_none h] at hrow; cases hrow
    have hcn : w2.cell? ⟨n, 0, none⟩ = some (.string ⟨#[99, 111, 117, 110, 116]⟩) := by simp [World.cell?, hrow]
    clear hrow b1 b2
    go_wp2_with fail
    go_ret
    exact ⟨rfl, q2.alloc q2.size _⟩
  · have hab : (a ++ b).size = a.size + b.size := ByteArray.size_append
    have H1 : Hid (∀ W, Calls Tryd.prog 9 #[.string ⟨#[43]⟩, .agg #[.int .i64 4, .string t, .int .i64 0, .int .u64 0, .string a, .int .i64 0, .int .i64 0, .int .i64 0, .int .i64 0, .slice none 0 0, .slice none 0 0], .agg #[.int .i64 4, .string t, .int .i64 0, .int .u64 0, .string b, .int .i64 0, .int .i64 0, .int .i64 0, .int .i64 0, .slice none 0 0, .slice none 0 0]] W fun r w' => r = .returned (.tuple #[.agg #[.int .i64 4, .string t, .int .i64 0, .int .u64 0, .string (a ++ b), .int .i64 0, .int .i64 0, .int .i64 0, .int .i64 0, .slice none 0 0, .slice none 0 0], .nilIface]) ∧ Below W.heap.size W w') := fun W => binary_text t 0 0 0 0 a b 0 0 0 0 (.slice none 0 0) (.slice none 0 0) 0 0 0 0 (.slice none 0 0) (.slice none 0 0) W ht (by omega)
    have hi : ¬ (65536 : Int) < (a.size : Int) + b.size := by omega
    by_cases h2 : 65536 < b.size + c.size
    · have H2 : Hid (∀ W, Below w.heap.size w W → Calls Tryd.prog 9 #[.string ⟨#[43]⟩, .agg #[.int .i64 4, .string t, .int .i64 0, .int .u64 0, .string b, .int .i64 0, .int .i64 0, .int .i64 0, .int .i64 0, .slice none 0 0, .slice none 0 0], .agg #[.int .i64 4, .string t, .int .i64 0, .int .u64 0, .string c, .int .i64 0, .int .i64 0, .int .i64 0, .int .i64 0, .slice none 0 0, .slice none 0 0]] W fun r w' => ∃ n d, r = .returned (.tuple #[.agg #[.int .i64 0, .string ⟨#[]⟩, .int .i64 0, .int .u64 0, .string ⟨#[]⟩, .int .i64 0, .int .i64 0, .int .i64 0, .int .i64 0, .slice none 0 0, .slice none 0 0], .iface 39 (.pointer (some ⟨n, 0, none⟩))]) ∧ W.heap.size ≤ n ∧ w'.heap[n]? = some (.cells #[.string ⟨#[99, 111, 117, 110, 116]⟩, .string d] 42 (0, 0)) ∧ Below W.heap.size W w') := fun W hW => binary_textbad t 0 0 0 0 b c 0 0 0 0 (.slice none 0 0) (.slice none 0 0) 0 0 0 0 (.slice none 0 0) (.slice none 0 0) W h2 hb hc (tab_kept htab hW)
      have hj : (65536 : Int) < (b.size : Int) + c.size := by omega
      clear htab
      go_enter Tryd.func4, Tryd.ntmps4
      go_wp2_with fail
      refine (known_any _).mono ?_
      rintro r w1 ⟨rfl, b1⟩
      go_wp2_with fail
      refine (H1.out _).mono ?_
      rintro r w2 ⟨rfl, b2⟩
      have z2 : w1.heap.size + 1 + 1 + 1 ≤ w2.heap.size := by have := b2.size; simp at this; omega
      have za : w1.heap.size < w2.heap.size := by omega
      have zb : w1.heap.size + 1 < w2.heap.size := by omega
      have zc : w1.heap.size + 1 + 1 < w2.heap.size := by omega
      obtain ⟨e1, e2, e3⟩ := three_kept _ _ _ _ _ b2
      have q2 : Below w.heap.size w w2 := b1.trans (((below3 w1 _ _ _).trans (b2.mono (by simp; omega))).mono b1.size)
      clear b1
      go_wp2_with fail
      refine (H2.out _ (q2.alloc q2.size _)).mono ?_
      rintro r w3 ⟨n, d, rfl, hn, hrow, b3⟩
      clear hrow
      have q3 := bnext q2 q2.size b3
      have z3 : w2.heap.size < w3.heap.size := by have := b3.size; simp at this; omega
      have f1 := one_kept _ _ _ b3
      clear b2 b3 e1 e2 e3 q2
      go_wp2_with fail
      go_ret
      exact ⟨rfl, q3.alloc q3.size _⟩
    · have hbc : (b ++ c).size = b.size + c.size := ByteArray.size_append
      have H2 : Hid (∀ W, Calls Tryd.prog 9 #[.string ⟨#[43]⟩, .agg #[.int .i64 4, .string t, .int .i64 0, .int .u64 0, .string b, .int .i64 0, .int .i64 0, .int .i64 0, .int .i64 0, .slice none 0 0, .slice none 0 0], .agg #[.int .i64 4, .string t, .int .i64 0, .int .u64 0, .string c, .int .i64 0, .int .i64 0, .int .i64 0, .int .i64 0, .slice none 0 0, .slice none 0 0]] W fun r w' => r = .returned (.tuple #[.agg #[.int .i64 4, .string t, .int .i64 0, .int .u64 0, .string (b ++ c), .int .i64 0, .int .i64 0, .int .i64 0, .int .i64 0, .slice none 0 0, .slice none 0 0], .nilIface]) ∧ Below W.heap.size W w') := fun W => binary_text t 0 0 0 0 b c 0 0 0 0 (.slice none 0 0) (.slice none 0 0) 0 0 0 0 (.slice none 0 0) (.slice none 0 0) W ht (by omega)
      have hj : ¬ (65536 : Int) < (b.size : Int) + c.size := by omega
      by_cases h3 : 65536 < a.size + b.size + c.size
      · have hk : (65536 : Int) < (a.size : Int) + b.size + c.size := by omega
        clear htab
        go_enter Tryd.func4, Tryd.ntmps4
        go_wp2_with fail
        refine (known_any _).mono ?_
        rintro r w1 ⟨rfl, b1⟩
        go_wp2_with fail
        refine (H1.out _).mono ?_
        rintro r w2 ⟨rfl, b2⟩
        have z2 : w1.heap.size + 1 + 1 + 1 ≤ w2.heap.size := by have := b2.size; simp at this; omega
        have za : w1.heap.size < w2.heap.size := by omega
        have zb : w1.heap.size + 1 < w2.heap.size := by omega
        have zc : w1.heap.size + 1 + 1 < w2.heap.size := by omega
        obtain ⟨e1, e2, e3⟩ := three_kept _ _ _ _ _ b2
        have q2 : Below w.heap.size w w2 := b1.trans (((below3 w1 _ _ _).trans (b2.mono (by simp; omega))).mono b1.size)
        clear b1
        go_wp2_with fail
        refine (H2.out _).mono ?_
        rintro r w3 ⟨rfl, b3⟩
        have q3 := bnext q2 q2.size b3
        have z3 : w2.heap.size < w3.heap.size := by have := b3.size; simp at this; omega
        have f1 := one_kept _ _ _ b3
        clear b2 b3 e1 e2 e3 q2
        go_wp2_with fail
        go_ret
        exact ⟨rfl, q3.alloc q3.size _⟩
      · have hk : ¬ (65536 : Int) < (a.size : Int) + b.size + c.size := by omega
        have H3 : Hid (∀ W, Calls Tryd.prog 9 #[.string ⟨#[43]⟩, .agg #[.int .i64 4, .string t, .int .i64 0, .int .u64 0, .string (a ++ b), .int .i64 0, .int .i64 0, .int .i64 0, .int .i64 0, .slice none 0 0, .slice none 0 0], .agg #[.int .i64 4, .string t, .int .i64 0, .int .u64 0, .string c, .int .i64 0, .int .i64 0, .int .i64 0, .int .i64 0, .slice none 0 0, .slice none 0 0]] W fun r w' => r = .returned (.tuple #[.agg #[.int .i64 4, .string t, .int .i64 0, .int .u64 0, .string (a ++ b ++ c), .int .i64 0, .int .i64 0, .int .i64 0, .int .i64 0, .slice none 0 0, .slice none 0 0], .nilIface]) ∧ Below W.heap.size W w') := fun W => binary_text t 0 0 0 0 (a ++ b) c 0 0 0 0 (.slice none 0 0) (.slice none 0 0) 0 0 0 0 (.slice none 0 0) (.slice none 0 0) W ht (by omega)
        have H4 : Hid (∀ W, Calls Tryd.prog 9 #[.string ⟨#[43]⟩, .agg #[.int .i64 4, .string t, .int .i64 0, .int .u64 0, .string a, .int .i64 0, .int .i64 0, .int .i64 0, .int .i64 0, .slice none 0 0, .slice none 0 0], .agg #[.int .i64 4, .string t, .int .i64 0, .int .u64 0, .string (b ++ c), .int .i64 0, .int .i64 0, .int .i64 0, .int .i64 0, .slice none 0 0, .slice none 0 0]] W fun r w' => r = .returned (.tuple #[.agg #[.int .i64 4, .string t, .int .i64 0, .int .u64 0, .string (a ++ b ++ c), .int .i64 0, .int .i64 0, .int .i64 0, .int .i64 0, .slice none 0 0, .slice none 0 0], .nilIface]) ∧ Below W.heap.size W w') := fun W => by
          have h := binary_text t 0 0 0 0 a (b ++ c) 0 0 0 0 (.slice none 0 0) (.slice none 0 0) 0 0 0 0 (.slice none 0 0) (.slice none 0 0) W ht (by omega)
          rw [← ByteArray.append_assoc] at h
          exact h
        have H5 : Hid (Says 4 t ⟨#[60, 61]⟩ 0 0 0 0 a (a ++ b) true) := fun W => by
          have h := says_eq .le 4 (.inr (.inr rfl)) t 0 0 0 0 a (a ++ b) W
          have e : cv .le 4 0 0 0 0 a (a ++ b) = true := by
            show (Op.bytesLess a.toList (a ++ b).toList || a.toList == (a ++ b).toList) = true
            rw [toList_append]; exact le_append _ _
          rw [e] at h
          exact h
        have habs : (a ++ b).size ≤ 65536 := by omega
        have h65 : a.size ≤ 65536 ∧ b.size ≤ 65536 ∧ c.size ≤ 65536 := by omega
        obtain ⟨h65a, h65b, h65c⟩ := h65
        clear htab h1 h2 h3 hbc ht
        go_enter Tryd.func4, Tryd.ntmps4
        go_wp2_with fail
        refine (known_any _).mono ?_
        rintro r w1 ⟨rfl, b1⟩
        go_wp2_with fail
        refine (H1.out _).mono ?_
        rintro r w2 ⟨rfl, b2⟩
        have z2 : w1.heap.size + 1 + 1 + 1 ≤ w2.heap.size := by have := b2.size; simp at this; omega
        have za : w1.heap.size < w2.heap.size := by omega
        have zb : w1.heap.size + 1 < w2.heap.size := by omega
        have zc : w1.heap.size + 1 + 1 < w2.heap.size := by omega
        obtain ⟨e1, e2, e3⟩ := three_kept _ _ _ _ _ b2
        have q2 : Below w.heap.size w w2 := b1.trans (((below3 w1 _ _ _).trans (b2.mono (by simp; omega))).mono b1.size)
        clear b1
        go_wp2_with fail
        refine (H2.out _).mono ?_
        rintro r w3 ⟨rfl, b3⟩
        have y3 : w2.heap.size < w3.heap.size := by have := b3.size; simp at this; omega
        have p3 := bnext b2 b2.size b3
        have q3 := bnext q2 q2.size b3
        obtain ⟨k1, k2, k3⟩ := three_kept _ _ _ _ _ p3
        have k4 := one_kept _ _ _ b3
        have x1 : w1.heap.size < w3.heap.size := by omega
        have x2 : w1.heap.size + 1 < w3.heap.size := by omega
        have x3 : w1.heap.size + 1 + 1 < w3.heap.size := by omega
        clear b2 e1 e2 e3 q2
        go_wp2_with fail
        refine (H3.out _).mono ?_
        rintro r w4 ⟨rfl, b4⟩
        have y4 : w3.heap.size < w4.heap.size := by have := b4.size; simp at this; omega
        have p4 := bnext p3 p3.size b4
        have p4b := bnext b3 b3.size b4
        have q4 := bnext q3 q3.size b4
        obtain ⟨l1, l2, l3⟩ := three_kept _ _ _ _ _ p4
        have l4 := one_kept _ _ _ p4b
        have l5 := one_kept _ _ _ b4
        have x4 : w1.heap.size < w4.heap.size := by omega
        have x5 : w2.heap.size < w4.heap.size := by omega
        clear k1 k2 k3 k4 p3 b3 q3
        go_wp2_with fail
        refine (H4.out _).mono ?_
        rintro r w5 ⟨rfl, b5⟩
        have y5 : w4.heap.size < w5.heap.size := by have := b5.size; simp at this; omega
        have p5 := bnext p4 p4.size b5
        have p5b := bnext p4b p4b.size b5
        have q5 := bnext q4 q4.size b5
        obtain ⟨m1, m2, m3⟩ := three_kept _ _ _ _ _ p5
        have m4 := one_kept _ _ _ p5b
        have m6 := one_kept _ _ _ b5
        have x6 : w1.heap.size < w5.heap.size := by omega
        have x7 : w2.heap.size < w5.heap.size := by omega
        clear l1 l2 l3 l4 l5 p4 p4b b4 q4
        go_wp2_with fail
        refine (H5.out _).mono ?_
        rintro r w6 ⟨rfl, b6⟩
        have q6 := bnext q5 q5.size b6
        have n1 := one_kept _ _ _ (bnext b5 b5.size b6)
        have n2 := one_kept _ _ _ b6
        clear m1 m2 m3 m4 m6 p5 p5b b5 q5
        go_wp2_with fail
        go_ret
        exact ⟨rfl, q6⟩
end Go.Proofs.YtoplmbboaobahabDoor
