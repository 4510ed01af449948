/-
  The law ValueEquals, at any two data.
-/
import Derived.Test.YtnhbpcmiolkllaaDoorGe2
import Derived.Test.YtnhbpcmiolkllaaDoorX
namespace Go.Proofs.YtnhbpcmiolkllaaDoor
open Go.RowKit
attribute [local go_sem] refold2 cell3_0 cell3_1 b28_0 b28_01

theorem lt_of_some {W : World} {m : Nat} {o : Obj} (h : W.heap[m]? = some o) : m < W.heap.size := (Array.getElem?_eq_some_iff.1 h).1
theorem allEq_fault (p : MD → MD → Bool × ByteArray) (hp : ∀ a b, (p a b).1 = true → (p a b).2 = ⟨#[]⟩) : ∀ xs ys : List MD, (allEq p xs ys).1 = true → (allEq p xs ys).2 = ⟨#[]⟩
  | [], _, _ => rfl
  | _ :: _, [], _ => rfl
  | x :: xs, y :: ys, h => by
    unfold allEq at h ⊢
    by_cases hq : (p x y).1 = true
    · rw [if_pos hq] at h ⊢; exact allEq_fault p hp xs ys h
    · rw [if_neg hq] at h; cases h
theorem eqv_fault : ∀ (n : Nat) (a b : MD), (MD.eqv n a b).1 = true → (MD.eqv n a b).2 = ⟨#[]⟩
  | 0, _, _, _ => rfl
  | n + 1, a, b, h => by
    unfold MD.eqv at h ⊢
    by_cases h1 : a.h.k = b.h.k ∧ a.h.t = b.h.t
    · rw [if_pos h1] at h ⊢
      by_cases h2 : a.h.k = 8
      · rw [if_pos h2] at h ⊢
        by_cases h3 : a.items.length = b.items.length
        · rw [if_pos h3] at h ⊢; exact allEq_fault _ (eqv_fault n) _ _ h
        · rw [if_neg h3]
      · rw [if_neg h2] at h ⊢
        by_cases h3 : a.h.k = 3
        · rw [if_pos h3]
        · rw [if_neg h3] at h ⊢
          by_cases h4 : a.h.k = 5 ∨ a.h.k = 6 ∨ a.h.k = 7
          · rw [if_pos h4] at h; cases h
          · rw [if_neg h4]
    · rw [if_neg h1]
set_option maxRecDepth 100000 in
set_option maxHeartbeats 8000000 in
theorem equalsLaw_wrong (n : Nat) (x y : MD) (w : World) (hN : NamesAt w) (hx : MD.In w.heap.size w n x) (hy : MD.In w.heap.size w n y) (h : MD.right n x = false ∨ MD.right n y = false) : Calls Tryd.prog 6 #[x.val, y.val] w fun r w' => r = .returned (.bool true) ∧ Below w.heap.size w w' := by
  have HRX : Hid (∀ W, Below w.heap.size w W → Calls Tryd.prog 11 #[x.val] W fun r w' => r = .returned (.bool (MD.right n x)) ∧ Below W.heap.size W w') := fun W hW => refRightAny n x W (hx.later (Nat.le_refl _) hW)
  have HRY : Hid (∀ W, Below w.heap.size w W → Calls Tryd.prog 11 #[y.val] W fun r w' => r = .returned (.bool (MD.right n y)) ∧ Below W.heap.size W w') := fun W hW => refRightAny n y W (hy.later (Nat.le_refl _) hW)
  have HEQ : Hid (∀ W, Below w.heap.size w W → Calls Tryd.prog 22 #[x.val, y.val] W fun r w' => (∃ m, r = .returned (.tuple #[.bool false, .iface 79 (.pointer (some ⟨m, 0, none⟩))]) ∧ w'.heap[m]? = some (.cells #[.int .i64 1, .int .i64 0, .string ⟨#[]⟩] 83 (0, 0))) ∧ Below W.heap.size W w') := fun W hW => by
    by_cases h1 : MD.right n x = true
    · exact (Equal_wrong2 n x y W (hN.kept hW) (hx.later (Nat.le_refl _) hW) (hy.later (Nat.le_refl _) hW) h1 (h.resolve_left (by simp [h1]))).mono fun _ _ ⟨m, e1, _, e3, e4⟩ => ⟨⟨m, e1, e3⟩, e4⟩
    · exact (Equal_wrong1 n x y W (hN.kept hW) (hx.later (Nat.le_refl _) hW) (by simpa using h1)).mono fun _ _ ⟨m, e1, _, e3, e4⟩ => ⟨⟨m, e1, e3⟩, e4⟩
  clear hx hy
  have HOR : Hid (MD.right n x = false ∨ MD.right n y = false) := h
  clear h
  generalize MD.right n x = bx at HRX HOR
  generalize MD.right n y = by' at HRY HOR
  obtain ⟨⟨k, t, a, f, s, r0, r1, r2, r3, pp, path, pc⟩, ip, ic, items⟩ := x
  obtain ⟨⟨k', t', a', f', s', r0', r1', r2', r3', pp', path', pc'⟩, ip', ic', items'⟩ := y
  simp only [MD.val, D] at HRX HRY HEQ ⊢
  obtain ⟨W2, hW2⟩ : ∃ W2, W2 = (w.alloc (.cells #[.int .i64 k, .string t, .int .i64 a, .int .u64 f, .string s, .int .i64 r0, .int .i64 r1, .int .i64 r2, .int .i64 r3, .slice pp path.length pc, .slice ip items.length ic] 28)).alloc (.cells #[.int .i64 k', .string t', .int .i64 a', .int .u64 f', .string s', .int .i64 r0', .int .i64 r1', .int .i64 r2', .int .i64 r3', .slice pp' path'.length pc', .slice ip' items'.length ic'] 28) := ⟨_, rfl⟩
  have HK : Hid (∀ W, Below W2.heap.size W2 W → Below w.heap.size w W ∧ (∀ i, W.cell? ⟨w.heap.size, i, none⟩ = (#[.int .i64 k, .string t, .int .i64 a, .int .u64 f, .string s, .int .i64 r0, .int .i64 r1, .int .i64 r2, .int .i64 r3, .slice pp path.length pc, .slice ip items.length ic] : Array Value)[i]?) ∧ ∀ i, W.cell? ⟨w.heap.size + 1, i, none⟩ = (#[.int .i64 k', .string t', .int .i64 a', .int .u64 f', .string s', .int .i64 r0', .int .i64 r1', .int .i64 r2', .int .i64 r3', .slice pp' path'.length pc', .slice ip' items'.length ic'] : Array Value)[i]?) := fun W hW => by rw [hW2] at hW; exact kept2 hW
  have hz2 : W2.heap.size = w.heap.size + 2 := by rw [hW2]; simp
  have hB2 : Below w.heap.size w W2 := by rw [hW2]; exact below2 _ _ _
  go_enter Tryd.func6, Tryd.ntmps6
  go_wp2_with fail
  rw [← hW2]
  clear hW2
  refine (known_any _ (hN.kept hB2)).mono ?_
  rintro r w3 ⟨rfl, b3⟩
  have HB3 : Hid (Below W2.heap.size W2 w3) := b3
  have hc3 := (HK.out _ HB3.out).2.1
  have hd3 := (HK.out _ HB3.out).2.2
  clear b3
  go_wp2_with fail
  refine (HRX.out _ (HK.out _ HB3.out).1).mono ?_
  rintro r w4 ⟨rfl, b4⟩
  have HB4 : Hid (Below W2.heap.size W2 w4) := HB3.out.trans (b4.mono HB3.out.size)
  have hc4 := (HK.out _ HB4.out).2.1
  have hd4 := (HK.out _ HB4.out).2.2
  clear b4 hc3 hd3
  go_wp2_with fail
  refine (HRY.out _ (HK.out _ HB4.out).1).mono ?_
  rintro r w5 ⟨rfl, b5⟩
  have HB5 : Hid (Below W2.heap.size W2 w5) := HB4.out.trans (b5.mono HB4.out.size)
  have hc5 := (HK.out _ HB5.out).2.1
  have hd5 := (HK.out _ HB5.out).2.2
  clear b5 hc4 hd4
  go_wp2_with fail
  refine (HEQ.out _ (HK.out _ HB5.out).1).mono ?_
  rintro r w6 ⟨⟨m, rfl, g6⟩, b6⟩
  have HB6 : Hid (Below W2.heap.size W2 w6) := HB5.out.trans (b6.mono HB5.out.size)
  have hc6 := (HK.out _ HB6.out).2.1
  have hd6 := (HK.out _ HB6.out).2.2
  clear b6 hc5 hd5
  go_wp2_with fail
  refine (HEQ.out _ (HK.out _ HB6.out).1).mono ?_
  rintro r w7 ⟨⟨m', rfl, g7'⟩, b7⟩
  have HB7 : Hid (Below W2.heap.size W2 w7) := HB6.out.trans (b7.mono HB6.out.size)
  have hc7 := (HK.out _ HB7.out).2.1
  have hd7 := (HK.out _ HB7.out).2.2
  have g7 := (b7.block m (lt_of_some g6)).trans g6
  clear b7 hc6 hd6
  clear g6 hc7 hd7
  cases bx
  · go_wp2_with fail
    refine (wrong_hit m _ g7).mono ?_
    rintro r w8 ⟨rfl, b8⟩
    have g8 := (b8.block m' (lt_of_some g7')).trans g7'
    have HB8 : Hid (Below W2.heap.size W2 w8) := HB7.out.trans (b8.mono HB7.out.size)
    clear b8 g7 g7'
    go_wp2_with fail
    refine (wrong_hit m' _ g8).mono ?_
    rintro r w9 ⟨rfl, b9⟩
    have HB9 : Hid (Below W2.heap.size W2 w9) := HB8.out.trans (b9.mono HB8.out.size)
    clear b9 g8
    go_wp2_with fail
    go_ret
    exact ⟨rfl, (HK.out _ HB9.out).1⟩
  · cases by'
    · go_wp2_with fail
      refine (wrong_hit m _ g7).mono ?_
      rintro r w8 ⟨rfl, b8⟩
      have g8 := (b8.block m' (lt_of_some g7')).trans g7'
      have HB8 : Hid (Below W2.heap.size W2 w8) := HB7.out.trans (b8.mono HB7.out.size)
      clear b8 g7 g7'
      go_wp2_with fail
      refine (wrong_hit m' _ g8).mono ?_
      rintro r w9 ⟨rfl, b9⟩
      have HB9 : Hid (Below W2.heap.size W2 w9) := HB8.out.trans (b9.mono HB8.out.size)
      clear b9 g8
      go_wp2_with fail
      go_ret
      exact ⟨rfl, (HK.out _ HB9.out).1⟩
    · rcases HOR.out with e | e <;> cases e
set_option maxRecDepth 100000 in
set_option maxHeartbeats 8000000 in
theorem equalsLaw_good (n : Nat) (x y : MD) (w : World) (hN : NamesAt w) (hx : MD.In w.heap.size w n x) (hy : MD.In w.heap.size w n y) (h : MD.right n x = true) (h' : MD.right n y = true) (hc : (MD.eqv n x y).2 = ⟨#[]⟩) : Calls Tryd.prog 6 #[x.val, y.val] w fun r w' => r = .returned (.bool true) ∧ Below w.heap.size w w' := by
  have HRX : Hid (∀ W, Below w.heap.size w W → Calls Tryd.prog 11 #[x.val] W fun r w' => r = .returned (.bool (MD.right n x)) ∧ Below W.heap.size W w') := fun W hW => refRightAny n x W (hx.later (Nat.le_refl _) hW)
  have HRY : Hid (∀ W, Below w.heap.size w W → Calls Tryd.prog 11 #[y.val] W fun r w' => r = .returned (.bool (MD.right n y)) ∧ Below W.heap.size W w') := fun W hW => refRightAny n y W (hy.later (Nat.le_refl _) hW)
  have HEQ : Hid (∀ W, Below w.heap.size w W → Calls Tryd.prog 22 #[x.val, y.val] W fun r w' => r = .returned (.tuple #[.bool (MD.eqv n x y).1, .nilIface]) ∧ Below W.heap.size W w') := fun W hW => Equal_good n x y W (hN.kept hW) (hx.later (Nat.le_refl _) hW) (hy.later (Nat.le_refl _) hW) h h' hc
  have HRE : Hid (∀ W, Below w.heap.size w W → Calls Tryd.prog 23 #[x.val, y.val] W fun r w' => r = .returned (.tuple #[.bool (MD.eqv n x y).1, .agg #[.string (fw (MD.eqv n x y).2), .string (MD.eqv n x y).2]]) ∧ Below W.heap.size W w') := fun W hW => refEq_any n x y W (hx.later (Nat.le_refl _) hW) (hy.later (Nat.le_refl _) hW) (right_full h) (right_full h')
  rw [h] at HRX
  rw [h'] at HRY
  have ev : fw ⟨#[]⟩ = ⟨#[]⟩ := by unfold fw; rw [if_pos (by rfl)]
  rw [hc, ev] at HRE
  clear hc ev
  generalize (MD.eqv n x y).1 = q at HEQ HRE
  clear hx hy h h'
  obtain ⟨⟨k, t, a, f, s, r0, r1, r2, r3, pp, path, pc⟩, ip, ic, items⟩ := x
  obtain ⟨⟨k', t', a', f', s', r0', r1', r2', r3', pp', path', pc'⟩, ip', ic', items'⟩ := y
  simp only [MD.val, D] at HRX HRY HEQ HRE ⊢
  obtain ⟨W2, hW2⟩ : ∃ W2, W2 = (w.alloc (.cells #[.int .i64 k, .string t, .int .i64 a, .int .u64 f, .string s, .int .i64 r0, .int .i64 r1, .int .i64 r2, .int .i64 r3, .slice pp path.length pc, .slice ip items.length ic] 28)).alloc (.cells #[.int .i64 k', .string t', .int .i64 a', .int .u64 f', .string s', .int .i64 r0', .int .i64 r1', .int .i64 r2', .int .i64 r3', .slice pp' path'.length pc', .slice ip' items'.length ic'] 28) := ⟨_, rfl⟩
  have HK : Hid (∀ W, Below W2.heap.size W2 W → Below w.heap.size w W ∧ (∀ i, W.cell? ⟨w.heap.size, i, none⟩ = (#[.int .i64 k, .string t, .int .i64 a, .int .u64 f, .string s, .int .i64 r0, .int .i64 r1, .int .i64 r2, .int .i64 r3, .slice pp path.length pc, .slice ip items.length ic] : Array Value)[i]?) ∧ ∀ i, W.cell? ⟨w.heap.size + 1, i, none⟩ = (#[.int .i64 k', .string t', .int .i64 a', .int .u64 f', .string s', .int .i64 r0', .int .i64 r1', .int .i64 r2', .int .i64 r3', .slice pp' path'.length pc', .slice ip' items'.length ic'] : Array Value)[i]?) := fun W hW => by rw [hW2] at hW; exact kept2 hW
  have hz2 : W2.heap.size = w.heap.size + 2 := by rw [hW2]; simp
  have hB2 : Below w.heap.size w W2 := by rw [hW2]; exact below2 _ _ _
  go_enter Tryd.func6, Tryd.ntmps6
  go_wp2_with fail
  rw [← hW2]
  clear hW2
  refine (known_any _ (hN.kept hB2)).mono ?_
  rintro r w3 ⟨rfl, b3⟩
  have HB3 : Hid (Below W2.heap.size W2 w3) := b3
  have hc3 := (HK.out _ HB3.out).2.1
  have hd3 := (HK.out _ HB3.out).2.2
  clear b3
  go_wp2_with fail
  refine (HRX.out _ (HK.out _ HB3.out).1).mono ?_
  rintro r w4 ⟨rfl, b4⟩
  have HB4 : Hid (Below W2.heap.size W2 w4) := HB3.out.trans (b4.mono HB3.out.size)
  have hc4 := (HK.out _ HB4.out).2.1
  have hd4 := (HK.out _ HB4.out).2.2
  clear b4 hc3 hd3
  go_wp2_with fail
  refine (HRY.out _ (HK.out _ HB4.out).1).mono ?_
  rintro r w5 ⟨rfl, b5⟩
  have HB5 : Hid (Below W2.heap.size W2 w5) := HB4.out.trans (b5.mono HB4.out.size)
  have hc5 := (HK.out _ HB5.out).2.1
  have hd5 := (HK.out _ HB5.out).2.2
  clear b5 hc4 hd4
  go_wp2_with fail
  refine (HEQ.out _ (HK.out _ HB5.out).1).mono ?_
  rintro r w6 ⟨rfl, b6⟩
  have HB6 : Hid (Below W2.heap.size W2 w6) := HB5.out.trans (b6.mono HB5.out.size)
  have hc6 := (HK.out _ HB6.out).2.1
  have hd6 := (HK.out _ HB6.out).2.2
  clear b6 hc5 hd5
  go_wp2_with fail
  refine (HEQ.out _ (HK.out _ HB6.out).1).mono ?_
  rintro r w7 ⟨rfl, b7⟩
  have HB7 : Hid (Below W2.heap.size W2 w7) := HB6.out.trans (b7.mono HB6.out.size)
  have hc7 := (HK.out _ HB7.out).2.1
  have hd7 := (HK.out _ HB7.out).2.2
  clear b7 hc6 hd6
  go_wp2_with fail
  refine (HRE.out _ (HK.out _ HB7.out).1).mono ?_
  rintro r w8 ⟨rfl, b8⟩
  have HB8 : Hid (Below W2.heap.size W2 w8) := HB7.out.trans (b8.mono HB7.out.size)
  have hc8 := (HK.out _ HB8.out).2.1
  have hd8 := (HK.out _ HB8.out).2.2
  clear b8 hc7 hd7
  clear hc8 hd8
  go_wp2_with fail
  refine (told_none _).mono ?_
  rintro r w9 ⟨rfl, b9⟩
  have HA9 : Hid (Below W2.heap.size W2 w9) := (HB8.out.alloc HB8.out.size (.cells #[.string ⟨#[]⟩, .string ⟨#[]⟩] 53)).trans (b9.mono (HB8.out.alloc HB8.out.size (.cells #[.string ⟨#[]⟩, .string ⟨#[]⟩] 53)).size)
  have gx := row_at ((b9.block w8.heap.size (by simp)).trans (heap_alloc_new w8 (.cells #[.string ⟨#[]⟩, .string ⟨#[]⟩] 53)))
  clear b9
  go_wp2_with fail
  refine (told_none _).mono ?_
  rintro r w10 ⟨rfl, b10⟩
  have HA10 : Hid (Below W2.heap.size W2 w10) := HA9.out.trans (b10.mono HA9.out.size)
  clear b10
  cases q <;> (go_wp2_with fail; go_ret; exact ⟨rfl, (HK.out _ HA10.out).1⟩)
set_option maxRecDepth 100000 in
set_option maxHeartbeats 8000000 in
theorem equalsLaw_fault (n : Nat) (x y : MD) (w : World) (hN : NamesAt w) (hx : MD.In w.heap.size w n x) (hy : MD.In w.heap.size w n y) (h : MD.right n x = true) (h' : MD.right n y = true) (hc : (MD.eqv n x y).2.size ≠ 0) : Calls Tryd.prog 6 #[x.val, y.val] w fun r w' => r = .returned (.bool true) ∧ Below w.heap.size w w' := by
  have HRX : Hid (∀ W, Below w.heap.size w W → Calls Tryd.prog 11 #[x.val] W fun r w' => r = .returned (.bool (MD.right n x)) ∧ Below W.heap.size W w') := fun W hW => refRightAny n x W (hx.later (Nat.le_refl _) hW)
  have HRY : Hid (∀ W, Below w.heap.size w W → Calls Tryd.prog 11 #[y.val] W fun r w' => r = .returned (.bool (MD.right n y)) ∧ Below W.heap.size W w') := fun W hW => refRightAny n y W (hy.later (Nat.le_refl _) hW)
  have HEQ : Hid (∀ W, Below w.heap.size w W → Calls Tryd.prog 22 #[x.val, y.val] W fun r w' => (∃ m, r = .returned (.tuple #[.bool false, .iface 103 (.pointer (some ⟨m, 0, none⟩))]) ∧ w'.heap[m]? = some (.cells #[.string ⟨#[99, 111, 109, 112, 97, 114, 101]⟩, .string (MD.eqv n x y).2] 53 (0, 0))) ∧ Below W.heap.size W w') := fun W hW => (Equal_fault n x y W (hN.kept hW) (hx.later (Nat.le_refl _) hW) (hy.later (Nat.le_refl _) hW) h h' hc).mono fun _ _ ⟨m, e1, _, e3, e4⟩ => ⟨⟨m, e1, e3⟩, e4⟩
  have HRE : Hid (∀ W, Below w.heap.size w W → Calls Tryd.prog 23 #[x.val, y.val] W fun r w' => r = .returned (.tuple #[.bool (MD.eqv n x y).1, .agg #[.string (fw (MD.eqv n x y).2), .string (MD.eqv n x y).2]]) ∧ Below W.heap.size W w') := fun W hW => refEq_any n x y W (hx.later (Nat.le_refl _) hW) (hy.later (Nat.le_refl _) hW) (right_full h) (right_full h')
  rw [h] at HRX
  rw [h'] at HRY
  have eb : (MD.eqv n x y).1 = false := by
    cases hq : (MD.eqv n x y).1 with
    | false => rfl
    | true => exact absurd (by rw [eqv_fault n x y hq]; rfl) hc
  have ev : fw (MD.eqv n x y).2 = ⟨#[99, 111, 109, 112, 97, 114, 101]⟩ := if_neg hc
  rw [eb, ev] at HRE
  clear hc ev eb
  generalize (MD.eqv n x y).2 = c at HEQ HRE
  clear hx hy h h'
  obtain ⟨⟨k, t, a, f, s, r0, r1, r2, r3, pp, path, pc⟩, ip, ic, items⟩ := x
  obtain ⟨⟨k', t', a', f', s', r0', r1', r2', r3', pp', path', pc'⟩, ip', ic', items'⟩ := y
  simp only [MD.val, D] at HRX HRY HEQ HRE ⊢
  obtain ⟨W2, hW2⟩ : ∃ W2, W2 = (w.alloc (.cells #[.int .i64 k, .string t, .int .i64 a, .int .u64 f, .string s, .int .i64 r0, .int .i64 r1, .int .i64 r2, .int .i64 r3, .slice pp path.length pc, .slice ip items.length ic] 28)).alloc (.cells #[.int .i64 k', .string t', .int .i64 a', .int .u64 f', .string s', .int .i64 r0', .int .i64 r1', .int .i64 r2', .int .i64 r3', .slice pp' path'.length pc', .slice ip' items'.length ic'] 28) := ⟨_, rfl⟩
  have HK : Hid (∀ W, Below W2.heap.size W2 W → Below w.heap.size w W ∧ (∀ i, W.cell? ⟨w.heap.size, i, none⟩ = (#[.int .i64 k, .string t, .int .i64 a, .int .u64 f, .string s, .int .i64 r0, .int .i64 r1, .int .i64 r2, .int .i64 r3, .slice pp path.length pc, .slice ip items.length ic] : Array Value)[i]?) ∧ ∀ i, W.cell? ⟨w.heap.size + 1, i, none⟩ = (#[.int .i64 k', .string t', .int .i64 a', .int .u64 f', .string s', .int .i64 r0', .int .i64 r1', .int .i64 r2', .int .i64 r3', .slice pp' path'.length pc', .slice ip' items'.length ic'] : Array Value)[i]?) := fun W hW => by rw [hW2] at hW; exact kept2 hW
  have hz2 : W2.heap.size = w.heap.size + 2 := by rw [hW2]; simp
  have hB2 : Below w.heap.size w W2 := by rw [hW2]; exact below2 _ _ _
  go_enter Tryd.func6, Tryd.ntmps6
  go_wp2_with fail
  rw [← hW2]
  clear hW2
  refine (known_any _ (hN.kept hB2)).mono ?_
  rintro r w3 ⟨rfl, b3⟩
  have HB3 : Hid (Below W2.heap.size W2 w3) := b3
  have hc3 := (HK.out _ HB3.out).2.1
  have hd3 := (HK.out _ HB3.out).2.2
  clear b3
  go_wp2_with fail
  refine (HRX.out _ (HK.out _ HB3.out).1).mono ?_
  rintro r w4 ⟨rfl, b4⟩
  have HB4 : Hid (Below W2.heap.size W2 w4) := HB3.out.trans (b4.mono HB3.out.size)
  have hc4 := (HK.out _ HB4.out).2.1
  have hd4 := (HK.out _ HB4.out).2.2
  clear b4 hc3 hd3
  go_wp2_with fail
  refine (HRY.out _ (HK.out _ HB4.out).1).mono ?_
  rintro r w5 ⟨rfl, b5⟩
  have HB5 : Hid (Below W2.heap.size W2 w5) := HB4.out.trans (b5.mono HB4.out.size)
  have hc5 := (HK.out _ HB5.out).2.1
  have hd5 := (HK.out _ HB5.out).2.2
  clear b5 hc4 hd4
  go_wp2_with fail
  refine (HEQ.out _ (HK.out _ HB5.out).1).mono ?_
  rintro r w6 ⟨⟨m, rfl, g6⟩, b6⟩
  have HB6 : Hid (Below W2.heap.size W2 w6) := HB5.out.trans (b6.mono HB5.out.size)
  have hc6 := (HK.out _ HB6.out).2.1
  have hd6 := (HK.out _ HB6.out).2.2
  clear b6 hc5 hd5
  go_wp2_with fail
  refine (HEQ.out _ (HK.out _ HB6.out).1).mono ?_
  rintro r w7 ⟨⟨m', rfl, g7'⟩, b7⟩
  have HB7 : Hid (Below W2.heap.size W2 w7) := HB6.out.trans (b7.mono HB6.out.size)
  have hc7 := (HK.out _ HB7.out).2.1
  have hd7 := (HK.out _ HB7.out).2.2
  have g7 := (b7.block m (lt_of_some g6)).trans g6
  clear b7 hc6 hd6
  go_wp2_with fail
  refine (HRE.out _ (HK.out _ HB7.out).1).mono ?_
  rintro r w8 ⟨rfl, b8⟩
  have HB8 : Hid (Below W2.heap.size W2 w8) := HB7.out.trans (b8.mono HB7.out.size)
  have hc8 := (HK.out _ HB8.out).2.1
  have hd8 := (HK.out _ HB8.out).2.2
  have g8 := (b8.block m (lt_of_some g7)).trans g7
  have g8' := (b8.block m' (lt_of_some g7')).trans g7'
  clear g6 g7 g7'
  clear b8 hc7 hd7
  clear hc8 hd8
  go_wp2_with fail
  refine (told_hit m ⟨#[99, 111, 109, 112, 97, 114, 101]⟩ c _ ((Below.heap_alloc _ _ _ (lt_of_some g8)).trans g8) (by decide)).mono ?_
  rintro r w9 ⟨rfl, b9⟩
  have HA9 : Hid (Below W2.heap.size W2 w9) := (HB8.out.alloc HB8.out.size (.cells #[.string ⟨#[99, 111, 109, 112, 97, 114, 101]⟩, .string c] 53)).trans (b9.mono (HB8.out.alloc HB8.out.size (.cells #[.string ⟨#[99, 111, 109, 112, 97, 114, 101]⟩, .string c] 53)).size)
  have gx := row_at ((b9.block w8.heap.size (by simp)).trans (heap_alloc_new w8 (.cells #[.string ⟨#[99, 111, 109, 112, 97, 114, 101]⟩, .string c] 53)))
  have g9 := (b9.block m' (by have := lt_of_some g8'; simp; omega)).trans ((Below.heap_alloc _ _ _ (lt_of_some g8')).trans g8')
  clear b9
  go_wp2_with fail
  refine (told_hit m' ⟨#[99, 111, 109, 112, 97, 114, 101]⟩ c _ g9 (by decide)).mono ?_
  rintro r w10 ⟨rfl, b10⟩
  have HA10 : Hid (Below W2.heap.size W2 w10) := HA9.out.trans (b10.mono HA9.out.size)
  clear b10
  go_wp2_with fail
  go_ret
  exact ⟨rfl, (HK.out _ HA10.out).1⟩
theorem equalsLaw_any (n : Nat) (x y : MD) (w : World) (hN : NamesAt w) (hx : MD.In w.heap.size w n x) (hy : MD.In w.heap.size w n y) : Calls Tryd.prog 6 #[x.val, y.val] w fun r w' => r = .returned (.bool true) ∧ Below w.heap.size w w' := by
  by_cases h : MD.right n x = true
  · by_cases h' : MD.right n y = true
    · by_cases hc : (MD.eqv n x y).2.size = 0
      · exact equalsLaw_good n x y w hN hx hy h h' (by apply ByteArray.ext; apply Array.eq_empty_of_size_eq_zero; exact hc)
      · exact equalsLaw_fault n x y w hN hx hy h h' hc
    · exact equalsLaw_wrong n x y w hN hx hy (.inr (by simpa using h'))
  · exact equalsLaw_wrong n x y w hN hx hy (.inl (by simpa using h))
end Go.Proofs.YtnhbpcmiolkllaaDoor
