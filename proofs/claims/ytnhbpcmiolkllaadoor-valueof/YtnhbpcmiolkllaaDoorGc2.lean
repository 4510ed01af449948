/-
  The answer's equal: pointers.
-/
import Derived.Test.YtnhbpcmiolkllaaDoorGb2
namespace Go.Proofs.YtnhbpcmiolkllaaDoor
open Go.RowKit
attribute [local go_sem] refold2 cell3_0 cell3_1 b28_0 b28_01

def Same9 (r0 r0' : Int) (path path' : List Int) : Prop := r0 = r0' ∧ path = path'
def Rel9 (r0 r0' : Int) (path path' : List Int) (W : World) (sm i : Value) (wr : World) : Prop := ∃ j : Nat, j ≤ path.length ∧ i = .int .i64 j ∧ Below W.heap.size W wr ∧ ((sm = .bool false ∧ ¬ Same9 r0 r0' path path') ∨ (sm = .bool true ∧ (path = path' → Same9 r0 r0' path path') ∧ path.length = path'.length ∧ path.take j = path'.take j))
set_option maxRecDepth 100000 in
set_option maxHeartbeats 8000000 in
theorem refEq_9 (t : ByteArray) (a a' f f' r0 r0' r1 r1' r2 r2' r3 r3' : Int) (s s' : ByteArray) (pp pp' ip ip' : Option Addr) (path path' : List Int) (pc pc' il il' ic ic' : Nat) (w : World) (hP : MD.PathIn w.heap.size w ⟨9, t, a, f, s, r0, r1, r2, r3, pp, path, pc⟩) (hP' : MD.PathIn w.heap.size w ⟨9, t, a', f', s', r0', r1', r2', r3', pp', path', pc'⟩) (hp : path.length ≤ 100) :
    Calls Tryd.prog 23 #[.agg #[.int .i64 9, .string t, .int .i64 a, .int .u64 f, .string s, .int .i64 r0, .int .i64 r1, .int .i64 r2, .int .i64 r3, .slice pp path.length pc, .slice ip il ic], .agg #[.int .i64 9, .string t, .int .i64 a', .int .u64 f', .string s', .int .i64 r0', .int .i64 r1', .int .i64 r2', .int .i64 r3', .slice pp' path'.length pc', .slice ip' il' ic']] w fun r w' => r = .returned (.tuple #[.bool (decide (r0 = r0' ∧ path = path')), .agg #[.string ⟨#[]⟩, .string ⟨#[]⟩]]) ∧ Below w.heap.size w w' := by
  have HO : Hid (∀ W, Calls Tryd.prog 44 #[.agg #[.int .i64 9, .string t, .int .i64 a, .int .u64 f, .string s, .int .i64 r0, .int .i64 r1, .int .i64 r2, .int .i64 r3, .slice pp path.length pc, .slice ip il ic], .agg #[.int .i64 9, .string t, .int .i64 a', .int .u64 f', .string s', .int .i64 r0', .int .i64 r1', .int .i64 r2', .int .i64 r3', .slice pp' path'.length pc', .slice ip' il' ic']] W fun r w' => r = .returned (.bool true) ∧ Below W.heap.size W w') := fun W => (one_any 9 9 t t a a' f f' r0 r0' r1 r1' r2 r2' r3 r3' s s' pp pp' ip ip' path.length path'.length pc pc' il il' ic ic' W).mono fun _ _ h => ⟨by rw [h.1]; simp, h.2⟩
  have hb53 := b53_0
  have HXP : Hid (MD.PathIn w.heap.size w ⟨9, t, a, f, s, r0, r1, r2, r3, pp, path, pc⟩) := hP
  have HYP : Hid (MD.PathIn w.heap.size w ⟨9, t, a', f', s', r0', r1', r2', r3', pp', path', pc'⟩) := hP'
  clear hP hP'
  have HA : Hid ((Same9 r0 r0' path path' → decide (r0 = r0' ∧ path = path') = true) ∧ (¬ Same9 r0 r0' path path' → decide (r0 = r0' ∧ path = path') = false)) := ⟨fun h => decide_eq_true h, fun h => decide_eq_false h⟩
  generalize decide (r0 = r0' ∧ path = path') = ans at HA ⊢
  go_enter Tryd.func23, Tryd.ntmps23
  go_wp2_with fail
  refine (HO.out _).mono ?_
  rintro r w1 ⟨rfl, b1⟩
  obtain ⟨e1, d1, g1, z1⟩ := three_kept _ _ _ _ _ b1
  have gc := row_at g1
  have gf := fun j => fz _ _ _ _ j g1
  have q1 : Below w.heap.size w w1 := (below3 _ _ _ _).trans (b1.mono (by simp; omega))
  have HK : Hid (∀ W, Below w1.heap.size w1 W → (∀ j, W.cell? ⟨w.heap.size, j, none⟩ = (#[.int .i64 9, .string t, .int .i64 a, .int .u64 f, .string s, .int .i64 r0, .int .i64 r1, .int .i64 r2, .int .i64 r3, .slice pp path.length pc, .slice ip il ic] : Array Value)[j]?) ∧ (∀ j, W.cell? ⟨w.heap.size + 1, j, none⟩ = (#[.int .i64 9, .string t, .int .i64 a', .int .u64 f', .string s', .int .i64 r0', .int .i64 r1', .int .i64 r2', .int .i64 r3', .slice pp' path'.length pc', .slice ip' il' ic'] : Array Value)[j]?) ∧ W.heap[w.heap.size + 1 + 1]? = some (.cells #[.string ⟨#[]⟩, .string ⟨#[]⟩] 53 (0, 0))) := fun W hW =>
    ⟨fun j => by rw [← e1 j]; exact hW.cell (by show w.heap.size < _; omega), fun j => by rw [← d1 j]; exact hW.cell (by show w.heap.size + 1 < _; omega), (hW.block _ (by omega)).trans g1⟩
  clear b1 g1 gc gf
  by_cases hr : r0 = r0'
  · subst hr
    by_cases hl : (path.length : Int) = path'.length
    · go_wp2_with fail
      go_loopw [9, 10] (fun sm i wr => Rel9 r0 r0 path path' w1 sm i wr) (fun _ i _ => path.length - (intOf i).toNat)
      case atStart => exact ⟨0, Nat.zero_le _, rfl, Below.refl _ _, .inr ⟨by simp, fun h => ⟨rfl, h⟩, by omega, rfl⟩⟩
      case round =>
        obtain ⟨j, hj, rfl, hb', ⟨rfl, hq⟩ | ⟨rfl, hr0, hle, hta⟩⟩ := hrel
        · have hcA := (HK.out _ hb').1
          have hcB := (HK.out _ hb').2.1
          have gc9 := row_at (HK.out _ hb').2.2
          have gf9 := fun j => fz _ _ _ _ j (HK.out _ hb').2.2
          have q9 := q1.trans (hb'.mono q1.size)
          have HF : Hid (¬ Same9 r0 r0 path path') := hq
          clear hq hb'
          by_cases hlt : j < path.length
          · have i1 : (j : Int) < path.length := by omega
            go_wp2_with fail
            refine bodyPost_ret (v := .tuple #[.bool false, .agg #[.string ⟨#[]⟩, .string ⟨#[]⟩]]) (by simp [results, Tryd.results23, go_sem, gc9]) rfl ⟨?_, (q9.setCell (p := ⟨w.heap.size + 1 + 1, 0, none⟩) (by show w.heap.size ≤ w.heap.size + 1 + 1; omega) _).setCell (p := ⟨w.heap.size + 1 + 1, 1, none⟩) (by show w.heap.size ≤ w.heap.size + 1 + 1; omega) _⟩
            rw [HA.out.2 HF.out]
          · have i1 : ¬ (j : Int) < path.length := by omega
            go_wp2_with fail
            refine bodyPost_ret (v := .tuple #[.bool false, .agg #[.string ⟨#[]⟩, .string ⟨#[]⟩]]) (by simp [results, Tryd.results23, go_sem, gc9]) rfl ⟨?_, (q9.setCell (p := ⟨w.heap.size + 1 + 1, 0, none⟩) (by show w.heap.size ≤ w.heap.size + 1 + 1; omega) _).setCell (p := ⟨w.heap.size + 1 + 1, 1, none⟩) (by show w.heap.size ≤ w.heap.size + 1 + 1; omega) _⟩
            rw [HA.out.2 HF.out]
        · have HT : Hid ((path = path' → Same9 r0 r0 path path') ∧ path.length = path'.length ∧ path.take j = path'.take j ∧ Below w1.heap.size w1 wr) := ⟨hr0, hle, hta, hb'⟩
          have hcA := (HK.out _ hb').1
          have hcB := (HK.out _ hb').2.1
          have gc9 := row_at (HK.out _ hb').2.2
          have gf9 := fun j => fz _ _ _ _ j (HK.out _ hb').2.2
          have q9 := q1.trans (hb'.mono q1.size)
          have hz := hb'.size
          have HQ9 : Hid (Below w.heap.size w wr) := q9
          clear hr0 hle hta
          by_cases hlt : j < path.length
          · have i1 : (j : Int) < path.length := by omega
            have hlt' : j < path'.length := HT.out.2.1 ▸ hlt
            have i2 : (j : Int) < path'.length := by omega
            obtain ⟨b, o, rfl, hbw, hc⟩ : ∃ b o, pp = some ⟨b, o, none⟩ ∧ b < w.heap.size ∧ wr.cell? ⟨b, o + j, none⟩ = some (.int .i64 path[j]) := by
              rcases HXP.out.2 with e | ⟨b, o, e1, e2, e3⟩
              · have e' : path = [] := e
                rw [e'] at hlt; simp at hlt
              · exact ⟨b, o, e1, e2, (q9.cell (p := ⟨b, o + j, none⟩) e2).trans (e3 j hlt)⟩
            obtain ⟨b', o', rfl, hbw', hc'⟩ : ∃ b o, pp' = some ⟨b, o, none⟩ ∧ b < w.heap.size ∧ wr.cell? ⟨b, o + j, none⟩ = some (.int .i64 path'[j]) := by
              rcases HYP.out.2 with e | ⟨b, o, e1, e2, e3⟩
              · have e' : path' = [] := e
                rw [e'] at hlt'; simp at hlt'
              · exact ⟨b, o, e1, e2, (q9.cell (p := ⟨b, o + j, none⟩) e2).trans (e3 j hlt')⟩
            have HS : Hid (path[j] = path'[j] → path.take (j + 1) = path'.take (j + 1)) := fun h => by
              rw [List.take_succ_eq_append_getElem hlt, List.take_succ_eq_append_getElem hlt', HT.out.2.2.1, h]
            have HN : Hid (path[j] ≠ path'[j] → ¬ Same9 r0 r0 path path') := fun h e => h (by have e2 : path = path' := e.2; simp [e2])
            generalize path[j] = x at hc HS HN
            generalize path'[j] = y at hc' HS HN
            have HW : Hid (Below w1.heap.size w1 wr.drew) := hb'.drew
            have hcA9 : wr.cell? ⟨w.heap.size, 9, none⟩ = some (.slice (some ⟨b, o, none⟩) path.length pc) := hcA 9
            have hcB9 : wr.cell? ⟨w.heap.size + 1, 9, none⟩ = some (.slice (some ⟨b', o', none⟩) path'.length pc') := hcB 9
            clear q9 gc9 gf9 hb'
            by_cases hxy : x = y
            · subst hxy
              have HS2 : Hid (path.take (j + 1) = path'.take (j + 1)) := HS.out rfl
              clear HS HN
              go_wp2_with fail
              go_region
              all_goals go_wp2_with fail
              all_goals exact ⟨⟨j + 1, hlt, by go_num, HW.out, .inr ⟨by simp, HT.out.1, HT.out.2.1, HS2.out⟩⟩, by simp [intOf]; omega⟩
            · have HN2 : Hid (¬ Same9 r0 r0 path path') := HN.out hxy
              clear HS HN
              go_wp2_with fail
              go_region
              all_goals go_wp2_with fail
              all_goals exact ⟨⟨j + 1, hlt, by go_num, HW.out, .inl ⟨by simp [hxy], HN2.out⟩⟩, by simp [intOf]; omega⟩
          · have i1 : ¬ (j : Int) < path.length := by omega
            have HX : Hid (path = path') := by
              have h := HT.out.2.2.1
              rw [List.take_of_length_le (by omega), List.take_of_length_le (by have := HT.out.2.1; omega)] at h
              exact h
            clear hb'
            go_wp2_with fail
            refine bodyPost_ret (v := .tuple #[.bool true, .agg #[.string ⟨#[]⟩, .string ⟨#[]⟩]]) (by simp [results, Tryd.results23, go_sem, gc9]) rfl ⟨?_, (q9.setCell (p := ⟨w.heap.size + 1 + 1, 0, none⟩) (by show w.heap.size ≤ w.heap.size + 1 + 1; omega) _).setCell (p := ⟨w.heap.size + 1 + 1, 1, none⟩) (by show w.heap.size ≤ w.heap.size + 1 + 1; omega) _⟩
            rw [HA.out.1 (HT.out.1 HX.out)]
    · have HL : Hid (¬ Same9 r0 r0 path path') := fun h => hl (by have e2 : path = path' := h.2; rw [e2])
      go_wp2_with fail
      go_loopw [9, 10] (fun sm i wr => Rel9 r0 r0 path path' w1 sm i wr) (fun _ i _ => path.length - (intOf i).toNat)
      case atStart => exact ⟨0, Nat.zero_le _, rfl, Below.refl _ _, .inl ⟨by simp [hl], HL.out⟩⟩
      case round =>
        obtain ⟨j, hj, rfl, hb', ⟨rfl, hq⟩ | ⟨rfl, hr0, hle, hta⟩⟩ := hrel
        · have hcA := (HK.out _ hb').1
          have hcB := (HK.out _ hb').2.1
          have gc9 := row_at (HK.out _ hb').2.2
          have gf9 := fun j => fz _ _ _ _ j (HK.out _ hb').2.2
          have q9 := q1.trans (hb'.mono q1.size)
          have HF : Hid (¬ Same9 r0 r0 path path') := hq
          clear hq hb'
          by_cases hlt : j < path.length
          · have i1 : (j : Int) < path.length := by omega
            go_wp2_with fail
            refine bodyPost_ret (v := .tuple #[.bool false, .agg #[.string ⟨#[]⟩, .string ⟨#[]⟩]]) (by simp [results, Tryd.results23, go_sem, gc9]) rfl ⟨?_, (q9.setCell (p := ⟨w.heap.size + 1 + 1, 0, none⟩) (by show w.heap.size ≤ w.heap.size + 1 + 1; omega) _).setCell (p := ⟨w.heap.size + 1 + 1, 1, none⟩) (by show w.heap.size ≤ w.heap.size + 1 + 1; omega) _⟩
            rw [HA.out.2 HF.out]
          · have i1 : ¬ (j : Int) < path.length := by omega
            go_wp2_with fail
            refine bodyPost_ret (v := .tuple #[.bool false, .agg #[.string ⟨#[]⟩, .string ⟨#[]⟩]]) (by simp [results, Tryd.results23, go_sem, gc9]) rfl ⟨?_, (q9.setCell (p := ⟨w.heap.size + 1 + 1, 0, none⟩) (by show w.heap.size ≤ w.heap.size + 1 + 1; omega) _).setCell (p := ⟨w.heap.size + 1 + 1, 1, none⟩) (by show w.heap.size ≤ w.heap.size + 1 + 1; omega) _⟩
            rw [HA.out.2 HF.out]
        · have HT : Hid ((path = path' → Same9 r0 r0 path path') ∧ path.length = path'.length ∧ path.take j = path'.take j ∧ Below w1.heap.size w1 wr) := ⟨hr0, hle, hta, hb'⟩
          have hcA := (HK.out _ hb').1
          have hcB := (HK.out _ hb').2.1
          have gc9 := row_at (HK.out _ hb').2.2
          have gf9 := fun j => fz _ _ _ _ j (HK.out _ hb').2.2
          have q9 := q1.trans (hb'.mono q1.size)
          have hz := hb'.size
          have HQ9 : Hid (Below w.heap.size w wr) := q9
          clear hr0 hle hta
          by_cases hlt : j < path.length
          · have i1 : (j : Int) < path.length := by omega
            have hlt' : j < path'.length := HT.out.2.1 ▸ hlt
            have i2 : (j : Int) < path'.length := by omega
            obtain ⟨b, o, rfl, hbw, hc⟩ : ∃ b o, pp = some ⟨b, o, none⟩ ∧ b < w.heap.size ∧ wr.cell? ⟨b, o + j, none⟩ = some (.int .i64 path[j]) := by
              rcases HXP.out.2 with e | ⟨b, o, e1, e2, e3⟩
              · have e' : path = [] := e
                rw [e'] at hlt; simp at hlt
              · exact ⟨b, o, e1, e2, (q9.cell (p := ⟨b, o + j, none⟩) e2).trans (e3 j hlt)⟩
            obtain ⟨b', o', rfl, hbw', hc'⟩ : ∃ b o, pp' = some ⟨b, o, none⟩ ∧ b < w.heap.size ∧ wr.cell? ⟨b, o + j, none⟩ = some (.int .i64 path'[j]) := by
              rcases HYP.out.2 with e | ⟨b, o, e1, e2, e3⟩
              · have e' : path' = [] := e
                rw [e'] at hlt'; simp at hlt'
              · exact ⟨b, o, e1, e2, (q9.cell (p := ⟨b, o + j, none⟩) e2).trans (e3 j hlt')⟩
            have HS : Hid (path[j] = path'[j] → path.take (j + 1) = path'.take (j + 1)) := fun h => by
              rw [List.take_succ_eq_append_getElem hlt, List.take_succ_eq_append_getElem hlt', HT.out.2.2.1, h]
            have HN : Hid (path[j] ≠ path'[j] → ¬ Same9 r0 r0 path path') := fun h e => h (by have e2 : path = path' := e.2; simp [e2])
            generalize path[j] = x at hc HS HN
            generalize path'[j] = y at hc' HS HN
            have HW : Hid (Below w1.heap.size w1 wr.drew) := hb'.drew
            have hcA9 : wr.cell? ⟨w.heap.size, 9, none⟩ = some (.slice (some ⟨b, o, none⟩) path.length pc) := hcA 9
            have hcB9 : wr.cell? ⟨w.heap.size + 1, 9, none⟩ = some (.slice (some ⟨b', o', none⟩) path'.length pc') := hcB 9
            clear q9 gc9 gf9 hb'
            by_cases hxy : x = y
            · subst hxy
              have HS2 : Hid (path.take (j + 1) = path'.take (j + 1)) := HS.out rfl
              clear HS HN
              go_wp2_with fail
              go_region
              all_goals go_wp2_with fail
              all_goals exact ⟨⟨j + 1, hlt, by go_num, HW.out, .inr ⟨by simp, HT.out.1, HT.out.2.1, HS2.out⟩⟩, by simp [intOf]; omega⟩
            · have HN2 : Hid (¬ Same9 r0 r0 path path') := HN.out hxy
              clear HS HN
              go_wp2_with fail
              go_region
              all_goals go_wp2_with fail
              all_goals exact ⟨⟨j + 1, hlt, by go_num, HW.out, .inl ⟨by simp [hxy], HN2.out⟩⟩, by simp [intOf]; omega⟩
          · have i1 : ¬ (j : Int) < path.length := by omega
            have HX : Hid (path = path') := by
              have h := HT.out.2.2.1
              rw [List.take_of_length_le (by omega), List.take_of_length_le (by have := HT.out.2.1; omega)] at h
              exact h
            clear hb'
            go_wp2_with fail
            refine bodyPost_ret (v := .tuple #[.bool true, .agg #[.string ⟨#[]⟩, .string ⟨#[]⟩]]) (by simp [results, Tryd.results23, go_sem, gc9]) rfl ⟨?_, (q9.setCell (p := ⟨w.heap.size + 1 + 1, 0, none⟩) (by show w.heap.size ≤ w.heap.size + 1 + 1; omega) _).setCell (p := ⟨w.heap.size + 1 + 1, 1, none⟩) (by show w.heap.size ≤ w.heap.size + 1 + 1; omega) _⟩
            rw [HA.out.1 (HT.out.1 HX.out)]
  · have HL : Hid (¬ Same9 r0 r0' path path') := fun h => hr h.1
    go_wp2_with fail
    go_loopw [9, 10] (fun sm i wr => Rel9 r0 r0' path path' w1 sm i wr) (fun _ i _ => path.length - (intOf i).toNat)
    case atStart => exact ⟨0, Nat.zero_le _, rfl, Below.refl _ _, .inl ⟨by simp, HL.out⟩⟩
    case round =>
      obtain ⟨j, hj, rfl, hb', ⟨rfl, hq⟩ | ⟨rfl, hr0, hle, hta⟩⟩ := hrel
      · have hcA := (HK.out _ hb').1
        have hcB := (HK.out _ hb').2.1
        have gc9 := row_at (HK.out _ hb').2.2
        have gf9 := fun j => fz _ _ _ _ j (HK.out _ hb').2.2
        have q9 := q1.trans (hb'.mono q1.size)
        have HF : Hid (¬ Same9 r0 r0' path path') := hq
        clear hq hb'
        by_cases hlt : j < path.length
        · have i1 : (j : Int) < path.length := by omega
          go_wp2_with fail
          refine bodyPost_ret (v := .tuple #[.bool false, .agg #[.string ⟨#[]⟩, .string ⟨#[]⟩]]) (by simp [results, Tryd.results23, go_sem, gc9]) rfl ⟨?_, (q9.setCell (p := ⟨w.heap.size + 1 + 1, 0, none⟩) (by show w.heap.size ≤ w.heap.size + 1 + 1; omega) _).setCell (p := ⟨w.heap.size + 1 + 1, 1, none⟩) (by show w.heap.size ≤ w.heap.size + 1 + 1; omega) _⟩
          rw [HA.out.2 HF.out]
        · have i1 : ¬ (j : Int) < path.length := by omega
          go_wp2_with fail
          refine bodyPost_ret (v := .tuple #[.bool false, .agg #[.string ⟨#[]⟩, .string ⟨#[]⟩]]) (by simp [results, Tryd.results23, go_sem, gc9]) rfl ⟨?_, (q9.setCell (p := ⟨w.heap.size + 1 + 1, 0, none⟩) (by show w.heap.size ≤ w.heap.size + 1 + 1; omega) _).setCell (p := ⟨w.heap.size + 1 + 1, 1, none⟩) (by show w.heap.size ≤ w.heap.size + 1 + 1; omega) _⟩
          rw [HA.out.2 HF.out]
      · have HT : Hid ((path = path' → Same9 r0 r0' path path') ∧ path.length = path'.length ∧ path.take j = path'.take j ∧ Below w1.heap.size w1 wr) := ⟨hr0, hle, hta, hb'⟩
        have hcA := (HK.out _ hb').1
        have hcB := (HK.out _ hb').2.1
        have gc9 := row_at (HK.out _ hb').2.2
        have gf9 := fun j => fz _ _ _ _ j (HK.out _ hb').2.2
        have q9 := q1.trans (hb'.mono q1.size)
        have hz := hb'.size
        have HQ9 : Hid (Below w.heap.size w wr) := q9
        clear hr0 hle hta
        by_cases hlt : j < path.length
        · have i1 : (j : Int) < path.length := by omega
          have hlt' : j < path'.length := HT.out.2.1 ▸ hlt
          have i2 : (j : Int) < path'.length := by omega
          obtain ⟨b, o, rfl, hbw, hc⟩ : ∃ b o, pp = some ⟨b, o, none⟩ ∧ b < w.heap.size ∧ wr.cell? ⟨b, o + j, none⟩ = some (.int .i64 path[j]) := by
            rcases HXP.out.2 with e | ⟨b, o, e1, e2, e3⟩
            · have e' : path = [] := e
              rw [e'] at hlt; simp at hlt
            · exact ⟨b, o, e1, e2, (q9.cell (p := ⟨b, o + j, none⟩) e2).trans (e3 j hlt)⟩
          obtain ⟨b', o', rfl, hbw', hc'⟩ : ∃ b o, pp' = some ⟨b, o, none⟩ ∧ b < w.heap.size ∧ wr.cell? ⟨b, o + j, none⟩ = some (.int .i64 path'[j]) := by
            rcases HYP.out.2 with e | ⟨b, o, e1, e2, e3⟩
            · have e' : path' = [] := e
              rw [e'] at hlt'; simp at hlt'
            · exact ⟨b, o, e1, e2, (q9.cell (p := ⟨b, o + j, none⟩) e2).trans (e3 j hlt')⟩
          have HS : Hid (path[j] = path'[j] → path.take (j + 1) = path'.take (j + 1)) := fun h => by
            rw [List.take_succ_eq_append_getElem hlt, List.take_succ_eq_append_getElem hlt', HT.out.2.2.1, h]
          have HN : Hid (path[j] ≠ path'[j] → ¬ Same9 r0 r0' path path') := fun h e => h (by have e2 : path = path' := e.2; simp [e2])
          generalize path[j] = x at hc HS HN
          generalize path'[j] = y at hc' HS HN
          have HW : Hid (Below w1.heap.size w1 wr.drew) := hb'.drew
          have hcA9 : wr.cell? ⟨w.heap.size, 9, none⟩ = some (.slice (some ⟨b, o, none⟩) path.length pc) := hcA 9
          have hcB9 : wr.cell? ⟨w.heap.size + 1, 9, none⟩ = some (.slice (some ⟨b', o', none⟩) path'.length pc') := hcB 9
          clear q9 gc9 gf9 hb'
          by_cases hxy : x = y
          · subst hxy
            have HS2 : Hid (path.take (j + 1) = path'.take (j + 1)) := HS.out rfl
            clear HS HN
            go_wp2_with fail
            go_region
            all_goals go_wp2_with fail
            all_goals exact ⟨⟨j + 1, hlt, by go_num, HW.out, .inr ⟨by simp, HT.out.1, HT.out.2.1, HS2.out⟩⟩, by simp [intOf]; omega⟩
          · have HN2 : Hid (¬ Same9 r0 r0' path path') := HN.out hxy
            clear HS HN
            go_wp2_with fail
            go_region
            all_goals go_wp2_with fail
            all_goals exact ⟨⟨j + 1, hlt, by go_num, HW.out, .inl ⟨by simp [hxy], HN2.out⟩⟩, by simp [intOf]; omega⟩
        · have i1 : ¬ (j : Int) < path.length := by omega
          have HX : Hid (path = path') := by
            have h := HT.out.2.2.1
            rw [List.take_of_length_le (by omega), List.take_of_length_le (by have := HT.out.2.1; omega)] at h
            exact h
          clear hb'
          go_wp2_with fail
          refine bodyPost_ret (v := .tuple #[.bool true, .agg #[.string ⟨#[]⟩, .string ⟨#[]⟩]]) (by simp [results, Tryd.results23, go_sem, gc9]) rfl ⟨?_, (q9.setCell (p := ⟨w.heap.size + 1 + 1, 0, none⟩) (by show w.heap.size ≤ w.heap.size + 1 + 1; omega) _).setCell (p := ⟨w.heap.size + 1 + 1, 1, none⟩) (by show w.heap.size ≤ w.heap.size + 1 + 1; omega) _⟩
          rw [HA.out.1 (HT.out.1 HX.out)]
end Go.Proofs.YtnhbpcmiolkllaaDoor
