/-
  How a text is stirred in; ranks of ints; a value's type.
-/
import Derived.Test.YtnhbpcmiolkllabDoorJJ
namespace Go.Proofs.YtnhbpcmiolkllabDoor
open Go.RowKit
attribute [local go_sem] refold2 cell3_0 cell3_1 b28_0 b28_01

/-- The bytes from j on, stirred in. -/
def stirFrom (t : ByteArray) : Nat → Nat → Int → Int
  | _, 0, h => h
  | j, n + 1, h => stirFrom t (j + 1) n (stir h (IntKind.u64.wrap ((t.data[j]?.getD 0).toNat : Int)))
def stirT (h : Int) (t : ByteArray) : Int := stirFrom t 0 t.size (stir h t.size)

set_option maxRecDepth 100000 in
set_option maxHeartbeats 2000000 in
theorem stirredText_any (h : Int) (t : ByteArray) (w : World) (ht : t.size ≤ 140737488351232) :
    Calls Tryd.prog 49 #[.int .u64 h, .string t] w fun r w' => r = .returned (.int .u64 (stirT h t)) ∧ w' = w := by
  have HS : Hid (∀ (h n : Int) (W : World), Calls Tryd.prog 50 #[.int .u64 h, .int .u64 n] W fun r w' => r = .returned (.int .u64 (stir h n)) ∧ w' = W) := stirred_any
  unfold stirT
  go_enter Tryd.func49, Tryd.ntmps49
  go_wp2_with (go_at_call 50; refine (HS.out _ _ _).mono ?_; rintro r w' ⟨rfl, rfl⟩)
  go_loop [0, 13] (fun hv i => ∃ (j : Nat) (x : Int), j ≤ t.size ∧ i = .int .i64 j ∧ hv = .int .u64 x ∧ stirFrom t 0 t.size (stir h t.size) = stirFrom t j (t.size - j) x) (fun _ i => t.size - (intOf i).toNat)
  case atStart => exact ⟨0, _, by omega, rfl, rfl, by rw [Nat.sub_zero]⟩
  case round =>
    obtain ⟨j, x, hj, rfl, rfl, hlf⟩ := hrel
    by_cases hlt : j < t.size
    · have i1 : (j : Int) < t.size := by omega
      have hstep : stirFrom t j (t.size - j) x = stirFrom t (j + 1) (t.size - (j + 1)) (stir x (IntKind.u64.wrap (t[j].toNat : Int))) := by
        have e : t.data[j]?.getD 0 = t[j] := by rw [Array.getElem?_eq_getElem (by exact hlt)]; rfl
        rw [show t.size - j = (t.size - (j + 1)) + 1 by omega, ← e]; rfl
      have hlf2 := hlf.trans hstep
      clear hlf hstep
      go_wp2_with (go_at_call 50; refine (HS.out _ _ _).mono ?_; rintro r w' ⟨rfl, rfl⟩)
      exact ⟨⟨j + 1, _, by omega, by go_num, rfl, hlf2⟩, by simp [intOf]; omega⟩
    · obtain rfl : j = t.size := by omega
      rw [Nat.sub_self] at hlf
      rw [hlf]
      go_wp2
      go_ret
      exact ⟨rfl, rfl⟩

set_option maxRecDepth 100000 in
set_option maxHeartbeats 2000000 in
theorem slicesEqual_nil (w : World) :
    Calls Tryd.prog 28 #[.slice none 0 0, .slice none 0 0] w fun r w' => r = .returned (.bool true) ∧ w' = w := by
  go_enter Tryd.func28, Tryd.ntmps28
  go_wp2
  go_rounds 1
  go_ret
  exact ⟨rfl, rfl⟩

/-- How an int stands to another one. -/
def rankI (a c : Int) : Int := if a < c then -1 else if c < a then 1 else 0
set_option maxHeartbeats 2000000 in
theorem rank_int (a c : Int) (w : World) : Calls Tryd.prog 80 #[.int .i64 a, .int .i64 c] w fun r w' => r = .returned (.tuple #[.int .i64 (rankI a c), .bool true]) ∧ w' = w := by
  unfold rankI
  by_cases h1 : a < c
  · rw [if_pos h1]
    go_enter Tryd.func80, Tryd.ntmps80
    go_wp2
    refine bodyPost_ret (v := .tuple #[.int .i64 (-1), .bool true]) (by simp [results, Tryd.results80, go_sem]) rfl ⟨rfl, rfl⟩
  · rw [if_neg h1]
    by_cases h2 : c < a
    · rw [if_pos h2]
      go_enter Tryd.func80, Tryd.ntmps80
      go_wp2
      refine bodyPost_ret (v := .tuple #[.int .i64 1, .bool true]) (by simp [results, Tryd.results80, go_sem]) rfl ⟨rfl, rfl⟩
    · rw [if_neg h2]
      obtain rfl : a = c := by omega
      go_enter Tryd.func80, Tryd.ntmps80
      go_wp2
      refine bodyPost_ret (v := .tuple #[.int .i64 0, .bool true]) (by simp [results, Tryd.results80, go_sem]) rfl ⟨rfl, rfl⟩

set_option maxRecDepth 100000 in
set_option maxHeartbeats 2000000 in
/-- A value's type is its datum's. -/
theorem type_any (b : Nat) (k : Int) (t : ByteArray) (a f : Int) (s : ByteArray) (r0 r1 r2 r3 : Int) (p i : Value) (w : World) (ht : t.size ≤ 140737488351232)
    (hr : w.heap[b]? = some (.cells #[.int .i64 k, .string t, .int .i64 a, .int .u64 f, .string s, .int .i64 r0, .int .i64 r1, .int .i64 r2, .int .i64 r3, p, i] 32 (0, 0))) :
    Calls Tryd.prog 71 #[.agg #[.pointer (some ⟨b, 0, none⟩)]] w fun r w' => r = .returned (.string (nm k t)) ∧ Below w.heap.size w w' := by
  have HN : Hid (∀ W, Calls Tryd.prog 45 #[D k t a f s r0 r1 r2 r3 p i] W fun r w' => r = .returned (.string (nm k t)) ∧ Below W.heap.size W w') := fun W => name_any k t a f s r0 r1 r2 r3 p i W ht
  have hc := fun j => row_at hr j
  have hb : b < w.heap.size := (Array.getElem?_eq_some_iff.1 hr).1
  clear hr ht
  simp only [D] at HN
  go_enter Tryd.func71, Tryd.ntmps71
  go_wp2_with (go_at_call 45; refine (HN.out _).mono ?_; rintro r w' ⟨rfl, hb⟩)
  go_ret
  exact ⟨rfl, (below1 _ _).trans (hb.mono (by simp))⟩

set_option maxRecDepth 100000 in
set_option maxHeartbeats 4000000 in
/-- Beside an int there may be one of its type. -/
theorem beside_int (b : Nat) (t : ByteArray) (a c : Int) (w : World) (hN : NamesAt w)
    (hr : w.heap[b]? = some (.cells #[.int .i64 2, .string t, .int .i64 a, .int .u64 0, .string ⟨#[]⟩, .int .i64 0, .int .i64 0, .int .i64 0, .int .i64 0, .slice none 0 0, .slice none 0 0] 32 (0, 0))) (h1 : (t.toList == [105, 110, 116] || declB t) = true) :
    Calls Tryd.prog 77 #[.agg #[.pointer (some ⟨b, 0, none⟩)], dat 2 t c 0 ⟨#[]⟩] w fun r w' => r = .returned (.bool true) ∧ Below w.heap.size w w' := by
  have hb : b < w.heap.size := (Array.getElem?_eq_some_iff.1 hr).1
  simp only [dat, D]
  obtain ⟨W2, hW2⟩ : ∃ W2, W2 = (w.alloc (.cells #[.pointer (some ⟨b, 0, none⟩)] 90)).alloc (.cells #[.int .i64 2, .string t, .int .i64 c, .int .u64 0, .string ⟨#[]⟩, .int .i64 0, .int .i64 0, .int .i64 0, .int .i64 0, .slice none 0 0, .slice none 0 0] 32) := ⟨_, rfl⟩
  have hB2 : Below w.heap.size w W2 := by rw [hW2]; exact below2 _ _ _
  have hz2 : W2.heap.size = w.heap.size + 2 := by rw [hW2]; simp
  have r0 : Hid (W2.heap[w.heap.size]? = some (.cells #[.pointer (some ⟨b, 0, none⟩)] 90 (0, 0))) := by rw [hW2, Below.heap_alloc _ _ _ (by simp)]; exact heap_alloc_new _ _
  have r1 : Hid (W2.heap[w.heap.size + 1]? = some (.cells #[.int .i64 2, .string t, .int .i64 c, .int .u64 0, .string ⟨#[]⟩, .int .i64 0, .int .i64 0, .int .i64 0, .int .i64 0, .slice none 0 0, .slice none 0 0] 32 (0, 0))) := by rw [hW2]; exact heap2_1 _ _ _
  have HK : Hid (∀ W, Below W2.heap.size W2 W → (W.cell? ⟨w.heap.size, 0, none⟩ = some (.pointer (some ⟨b, 0, none⟩)) ∧ (∀ j, W.cell? ⟨b, j, none⟩ = (#[.int .i64 2, .string t, .int .i64 a, .int .u64 0, .string ⟨#[]⟩, .int .i64 0, .int .i64 0, .int .i64 0, .int .i64 0, .slice none 0 0, .slice none 0 0] : Array Value)[j]?) ∧ (∀ j, W.cell? ⟨w.heap.size + 1, j, none⟩ = (#[.int .i64 2, .string t, .int .i64 c, .int .u64 0, .string ⟨#[]⟩, .int .i64 0, .int .i64 0, .int .i64 0, .int .i64 0, .slice none 0 0, .slice none 0 0] : Array Value)[j]?))) := fun W hW => ⟨row_at ((hW.block w.heap.size (by omega)).trans r0.out) 0, fun j => row_at ((hW.block b (by omega)).trans ((hB2.block b hb).trans hr)) j, fun j => row_at ((hW.block (w.heap.size + 1) (by omega)).trans r1.out) j⟩
  have HT : Hid (∀ (x : Int) (W : World), Calls Tryd.prog 42 #[.agg #[.int .i64 2, .string t, .int .i64 x, .int .u64 0, .string ⟨#[]⟩, .int .i64 0, .int .i64 0, .int .i64 0, .int .i64 0, .slice none 0 0, .slice none 0 0]] W fun r w' => r = .returned (.agg #[.int .i64 2, .string t]) ∧ Below W.heap.size W w') := fun x W => typeOf_any 2 t x 0 ⟨#[]⟩ 0 0 0 0 _ _ W
  have HR : Hid (∀ W, Below W2.heap.size W2 W → Calls Tryd.prog 8 #[.agg #[.int .i64 2, .string t, .int .i64 c, .int .u64 0, .string ⟨#[]⟩, .int .i64 0, .int .i64 0, .int .i64 0, .int .i64 0, .slice none 0 0, .slice none 0 0]] W fun r w' => r = .returned (.bool true) ∧ Below W.heap.size W w') := fun W hW => by rw [← h1]; exact Right_int t c W (hN.kept (hB2.trans (hW.mono hB2.size)))
  clear hN h1 hr
  go_enter Tryd.func77, Tryd.ntmps77
  go_wp2_with fail
  rw [← hW2]
  clear hW2
  refine wp_region_noPanic ?_
  refine wp_region_held (S := fun W => W.cell? ⟨w.heap.size, 0, none⟩ = some (.pointer (some ⟨b, 0, none⟩)) ∧ (∀ j, W.cell? ⟨b, j, none⟩ = (#[.int .i64 2, .string t, .int .i64 a, .int .u64 0, .string ⟨#[]⟩, .int .i64 0, .int .i64 0, .int .i64 0, .int .i64 0, .slice none 0 0, .slice none 0 0] : Array Value)[j]?) ∧ (∀ j, W.cell? ⟨w.heap.size + 1, j, none⟩ = (#[.int .i64 2, .string t, .int .i64 c, .int .u64 0, .string ⟨#[]⟩, .int .i64 0, .int .i64 0, .int .i64 0, .int .i64 0, .slice none 0 0, .slice none 0 0] : Array Value)[j]?)) (by kernel_rfl) ?_
  obtain ⟨W4, hW4⟩ : ∃ W4, W4 = W2.drew := ⟨_, rfl⟩
  have e4 : ({ W2 with drawn := W2.drawn + 1 } : World) = W4 := hW4.symm
  rw [e4]
  have hB4 : Below W2.heap.size W2 W4 := by rw [hW4]; exact (Below.refl _ _).drew
  have hS := HK.out W4 hB4
  clear e4 hW4
  refine wpAnyH_take (i := 0) (v := .pointer (some ⟨w.heap.size, 0, none⟩)) rfl (by kernel_rfl) (by kernel_rfl) (by kernel_rfl) (fun _ _ _ h => h) (Or.inl ⟨by rfl, ?r⟩) hS ?_
  case r => intro W hW; simp [go_sem, execOp, Act.eval]
  simp only [List.getElem_toArray, List.getElem_cons_zero, Act.put, List.setIfInBounds_toArray, List.set_cons_succ, List.set_cons_zero]
  refine wpAnyH_take (i := 1) (v := .pointer (some ⟨b, 0, none⟩)) rfl (by kernel_rfl) (by kernel_rfl) (by kernel_rfl) (fun _ _ _ h => h) (Or.inl ⟨by rfl, ?r⟩) hS ?_
  case r => intro W hW; simp [go_sem, execOp, Act.eval, hW.1]
  simp only [List.getElem_toArray, List.getElem_cons_zero, List.getElem_cons_succ, Act.put, List.setIfInBounds_toArray, List.set_cons_succ, List.set_cons_zero]
  refine wpAnyH_take (i := 2) (v := .pointer (some ⟨b, 0, none⟩)) rfl (by kernel_rfl) (by kernel_rfl) (by kernel_rfl) (fun _ _ _ h => h) (Or.inl ⟨by rfl, ?r⟩) hS ?_
  case r => intro W hW; simp [go_sem, execOp, Act.eval]
  simp only [List.getElem_toArray, List.getElem_cons_zero, List.getElem_cons_succ, Act.put, List.setIfInBounds_toArray, List.set_cons_succ, List.set_cons_zero]
  refine wpAnyH_take (i := 3) (v := .agg #[.int .i64 2, .string t, .int .i64 a, .int .u64 0, .string ⟨#[]⟩, .int .i64 0, .int .i64 0, .int .i64 0, .int .i64 0, .slice none 0 0, .slice none 0 0]) rfl (by kernel_rfl) (by kernel_rfl) (by kernel_rfl) (fun _ _ _ h => h) (Or.inl ⟨by rfl, ?r⟩) hS ?_
  case r => intro W hW; simp [go_sem, execOp, Act.eval, hW.2.1]
  simp only [List.getElem_toArray, List.getElem_cons_zero, List.getElem_cons_succ, Act.put, List.setIfInBounds_toArray, List.set_cons_succ, List.set_cons_zero]
  refine wpAnyH_take (i := 5) (v := .agg #[.int .i64 2, .string t, .int .i64 c, .int .u64 0, .string ⟨#[]⟩, .int .i64 0, .int .i64 0, .int .i64 0, .int .i64 0, .slice none 0 0, .slice none 0 0]) rfl (by kernel_rfl) (by kernel_rfl) (by kernel_rfl) (fun _ _ _ h => h) (Or.inl ⟨by rfl, ?r⟩) hS ?_
  case r => intro W hW; simp [go_sem, execOp, Act.eval, hW.2.2]
  simp only [List.getElem_toArray, List.getElem_cons_zero, List.getElem_cons_succ, Act.put, List.setIfInBounds_toArray, List.set_cons_succ, List.set_cons_zero]
  refine wpAnyH_all (rs := [4]) (by kernel_rfl) (by simp) (fun i2 hi2 => ?_)
  obtain rfl : i2 = 4 := by simpa using hi2
  clear hi2
  refine wpOp_step rfl (fun K hK => ite_yes rfl ?_)
  simp only [List.getElem_toArray, List.getElem_cons_zero, List.getElem_cons_succ]
  go_simp
  refine (HT.out _ _).mono ?_
  rintro e w5 ⟨rfl, b5⟩
  have hb5 : Below W2.heap.size W2 w5 := hB4.trans (b5.mono hB4.size)
  go_simp
  refine hK _ _ ⟨HK.out _ hb5, ?_⟩
  clear hK K hS
  have hS := HK.out _ hb5
  refine wpAnyH_all (rs := [6]) (by kernel_rfl) (by simp) (fun i2 hi2 => ?_)
  obtain rfl : i2 = 6 := by simpa using hi2
  clear hi2
  refine wpOp_step rfl (fun K hK => ite_yes rfl ?_)
  simp only [List.getElem_toArray, List.getElem_cons_zero, List.getElem_cons_succ]
  go_simp
  refine (HT.out _ _).mono ?_
  rintro e w6 ⟨rfl, b6⟩
  have hb6 : Below W2.heap.size W2 w6 := hb5.trans (b6.mono hb5.size)
  go_simp
  refine hK _ _ ⟨HK.out _ hb6, ?_⟩
  clear hK K hS
  have hS := HK.out _ hb6
  refine wpAnyH_take (i := 7) (v := .bool true) rfl (by kernel_rfl) (by kernel_rfl) (by kernel_rfl) (fun _ _ _ h => h) (Or.inl ⟨by rfl, ?r⟩) hS ?_
  case r => intro W hW; simp [go_sem, execOp, Act.eval]
  simp only [List.getElem_toArray, List.getElem_cons_zero, List.getElem_cons_succ, Act.put, List.setIfInBounds_toArray, List.set_cons_succ, List.set_cons_zero]
  refine wpAnyH_take (i := 8) (v := .bool true) rfl (by kernel_rfl) (by kernel_rfl) (by kernel_rfl) (fun _ _ _ h => h) (Or.inl ⟨by rfl, ?r⟩) hS ?_
  case r => intro W hW; simp [go_sem, execOp, Act.eval]
  simp only [List.getElem_toArray, List.getElem_cons_zero, List.getElem_cons_succ, Act.put, List.setIfInBounds_toArray, List.set_cons_succ, List.set_cons_zero]
  refine wpAnyH_take (i := 9) (v := .agg #[.int .i64 2, .string t, .int .i64 c, .int .u64 0, .string ⟨#[]⟩, .int .i64 0, .int .i64 0, .int .i64 0, .int .i64 0, .slice none 0 0, .slice none 0 0]) rfl (by kernel_rfl) (by kernel_rfl) (by kernel_rfl) (fun _ _ _ h => h) (Or.inl ⟨by rfl, ?r⟩) hS ?_
  case r => intro W hW; simp [go_sem, execOp, Act.eval, hW.2.2]
  simp only [List.getElem_toArray, List.getElem_cons_zero, List.getElem_cons_succ, Act.put, List.setIfInBounds_toArray, List.set_cons_succ, List.set_cons_zero]
  refine wpAnyH_all (rs := [10]) (by kernel_rfl) (by simp) (fun i2 hi2 => ?_)
  obtain rfl : i2 = 10 := by simpa using hi2
  clear hi2
  refine wpOp_step rfl (fun K hK => ite_yes rfl ?_)
  simp only [List.getElem_toArray, List.getElem_cons_zero, List.getElem_cons_succ]
  go_simp
  refine (HR.out _ hb6).mono ?_
  rintro e w7 ⟨rfl, b7⟩
  have hb7 : Below W2.heap.size W2 w7 := hb6.trans (b7.mono hb6.size)
  go_simp
  refine hK _ _ ⟨HK.out _ hb7, ?_⟩
  clear hK K hS
  have hS := HK.out _ hb7
  refine wpAnyH_take (i := 11) (v := .bool true) rfl (by kernel_rfl) (by kernel_rfl) (by kernel_rfl) (fun _ _ _ h => h) (Or.inl ⟨by rfl, ?r⟩) hS ?_
  case r => intro W hW; simp [go_sem, execOp, Act.eval]
  simp only [List.getElem_toArray, List.getElem_cons_zero, List.getElem_cons_succ, Act.put, List.setIfInBounds_toArray, List.set_cons_succ, List.set_cons_zero]
  refine wpAnyH_take (i := 12) (v := .bool true) rfl (by kernel_rfl) (by kernel_rfl) (by kernel_rfl) (fun _ _ _ h => h) (Or.inl ⟨by rfl, ?r⟩) hS ?_
  case r => intro W hW; simp [go_sem, execOp, Act.eval]
  simp only [List.getElem_toArray, List.getElem_cons_zero, List.getElem_cons_succ, Act.put, List.setIfInBounds_toArray, List.set_cons_succ, List.set_cons_zero]
  refine wpAnyH_done (by kernel_rfl) ?_ _
  refine NoPanic.normal ?_
  try simp only [Act.put]
  go_wp2_with fail
  go_ret
  exact ⟨rfl, hB2.trans (hb7.mono (by omega))⟩

set_option maxRecDepth 100000 in
set_option maxHeartbeats 2000000 in
theorem Rank_int (b : Nat) (t : ByteArray) (a c : Int) (w : World) (hN : NamesAt w)
    (hr : w.heap[b]? = some (.cells #[.int .i64 2, .string t, .int .i64 a, .int .u64 0, .string ⟨#[]⟩, .int .i64 0, .int .i64 0, .int .i64 0, .int .i64 0, .slice none 0 0, .slice none 0 0] 32 (0, 0))) (h1 : (t.toList == [105, 110, 116] || declB t) = true) :
    Calls Tryd.prog 79 #[.agg #[.pointer (some ⟨b, 0, none⟩)], dat 2 t c 0 ⟨#[]⟩] w fun r w' => r = .returned (.tuple #[.int .i64 (rankI a c), .bool true]) ∧ Below w.heap.size w w' := by
  simp only [dat, D]
  go_enter Tryd.func79, Tryd.ntmps79
  go_wp2_with fail
  refine (beside_int b t a c _ (hN.kept (below2 _ _ _)) (((below2 w _ _).block b (Array.getElem?_eq_some_iff.1 hr).1).trans hr) h1).mono ?_
  rintro r w1 ⟨rfl, b1⟩
  have hb : b < w.heap.size := (Array.getElem?_eq_some_iff.1 hr).1
  have c0 : w1.cell? ⟨w.heap.size, 0, none⟩ = some (.pointer (some ⟨b, 0, none⟩)) := row_at ((b1.block w.heap.size (by simp; omega)).trans ((Below.heap_alloc _ _ _ (by simp)).trans (heap_alloc_new w (.cells #[.pointer (some ⟨b, 0, none⟩)] 122)))) 0
  have c1 : w1.cell? ⟨b, 2, none⟩ = some (.int .i64 a) := row_at ((b1.block b (by simp; omega)).trans (((below2 w _ _).block b hb).trans hr)) 2
  have c2 : w1.cell? ⟨w.heap.size + 1, 2, none⟩ = some (.int .i64 c) := row_at ((b1.block (w.heap.size + 1) (by simp)).trans (heap2_1 w (.cells #[.pointer (some ⟨b, 0, none⟩)] 122) (.cells #[.int .i64 2, .string t, .int .i64 c, .int .u64 0, .string ⟨#[]⟩, .int .i64 0, .int .i64 0, .int .i64 0, .int .i64 0, .slice none 0 0, .slice none 0 0] 32))) 2
  have q1 : Below w.heap.size w w1 := (below2 _ _ _).trans (b1.mono (by simp; omega))
  clear b1 hr h1 hN
  go_wp2_with (go_at_call 80; refine (rank_int _ _ _).mono ?_; rintro r w' ⟨rfl, rfl⟩)
  go_quiet (exact Calls.quiet_of_same (rank_int _ _ _))
  go_wp2
  refine bodyPost_ret (v := .tuple #[.int .i64 (rankI a c), .bool true]) (by simp [results, Tryd.results79, go_sem]) rfl ⟨rfl, ?_⟩
  exact q1.trans ⟨rfl, rfl, rfl, Nat.le_refl _, fun _ _ => rfl⟩
end Go.Proofs.YtnhbpcmiolkllabDoor
