/-
  Two heads held against each other; slices.Equal of two paths.
-/
import Derived.Test.YtnhbpcmiolkllabDoorSbJ
import Derived.BigRegion
namespace Go.Proofs.YtnhbpcmiolkllabDoor
open Go.RowKit
attribute [local go_sem] refold2 cell3_0 cell3_1 b28_0 b28_01

set_option maxRecDepth 100000 in
set_option maxHeartbeats 4000000 in
theorem head_neq2 (k : Int) (t : ByteArray) (n f : Int) (s : ByteArray) (r0 r1 r2 r3 : Int) (m i : Nat) (k' : Int) (t' : ByteArray) (n' f' : Int) (s' : ByteArray) (r0' r1' r2' r3' : Int) (m' i' : Nat) (w : World) :
    (binOp .neq 79 (.agg #[.int .i64 k, .string t, .int .i64 n, .int .u64 f, .string s, .int .i64 r0, .int .i64 r1, .int .i64 r2, .int .i64 r3, .int .i64 m, .int .i64 i]) (.agg #[.int .i64 k', .string t', .int .i64 n', .int .u64 f', .string s', .int .i64 r0', .int .i64 r1', .int .i64 r2', .int .i64 r3', .int .i64 m', .int .i64 i'])).run Tryd.prog w = .ok (.bool (!(k == k' && t.toList == t'.toList && n == n' && f == f' && s.toList == s'.toList && r0 == r0' && r1 == r1' && r2 == r2' && r3 == r3' && (m : Int) == m' && (i : Int) == i'))) w := by
  by_cases h0 : k = k'
  · by_cases h1 : t.toList = t'.toList
    · by_cases h2 : n = n'
      · by_cases h3 : f = f'
        · by_cases h4 : s.toList = s'.toList
          · by_cases h5 : r0 = r0'
            · by_cases h6 : r1 = r1'
              · by_cases h7 : r2 = r2'
                · by_cases h8 : r3 = r3'
                  · by_cases h9 : (m : Int) = m'
                    · by_cases h10 : (i : Int) = i'
                      · simp [go_sem, h0, h1, h2, h3, h4, h5, h6, h7, h8, h9, h10]
                      · simp [go_sem, h0, h1, h2, h3, h4, h5, h6, h7, h8, h9, h10]
                    · simp [go_sem, h0, h1, h2, h3, h4, h5, h6, h7, h8, h9]
                  · simp [go_sem, h0, h1, h2, h3, h4, h5, h6, h7, h8]
                · simp [go_sem, h0, h1, h2, h3, h4, h5, h6, h7]
              · simp [go_sem, h0, h1, h2, h3, h4, h5, h6]
            · simp [go_sem, h0, h1, h2, h3, h4, h5]
          · simp [go_sem, h0, h1, h2, h3, h4]
        · simp [go_sem, h0, h1, h2, h3]
      · simp [go_sem, h0, h1, h2]
    · simp [go_sem, h0, h1]
  · simp [go_sem, h0]

theorem sameH_eq (x y : Hd) (il jl : Nat) : sameH x y il jl = (x.k == y.k && x.t.toList == y.t.toList && x.n == y.n && x.f == y.f && x.s.toList == y.s.toList && x.r0 == y.r0 && x.r1 == y.r1 && x.r2 == y.r2 && x.r3 == y.r3 && (x.path.length : Int) == y.path.length && (il : Int) == jl) := by
  rw [sameH, Bool.eq_iff_iff, decide_eq_true_eq]
  simp only [Bool.and_eq_true, beq_iff_eq, and_assoc]
  constructor
  · rintro ⟨h1, h2, h3, h4, h5, h6, h7, h8, h9, h10, h11⟩
    exact ⟨h1, by rw [h2], h3, h4, by rw [h5], h6, h7, h8, h9, by rw [h10], by rw [h11]⟩
  · rintro ⟨h1, h2, h3, h4, h5, h6, h7, h8, h9, h10, h11⟩
    exact ⟨h1, byteArray_ext h2, h3, h4, byteArray_ext h5, h6, h7, h8, h9, by exact_mod_cast h10, by exact_mod_cast h11⟩

set_option maxRecDepth 100000 in
set_option maxHeartbeats 4000000 in
theorem slicesEqual_any (pp : Option Addr) (path : List Int) (pc : Nat) (pp' : Option Addr) (path' : List Int) (pc' : Nat) (w : World) (hl : path.length ≤ maxLen)
    (hP : path = [] ∨ ∃ b o, pp = some ⟨b, o, none⟩ ∧ b < w.heap.size ∧ ∀ (i : Nat) (hi : i < path.length), w.cell? ⟨b, o + i, none⟩ = some (.int .i64 path[i]))
    (hP' : path' = [] ∨ ∃ b o, pp' = some ⟨b, o, none⟩ ∧ b < w.heap.size ∧ ∀ (i : Nat) (hi : i < path'.length), w.cell? ⟨b, o + i, none⟩ = some (.int .i64 path'[i])) :
    Calls Tryd.prog 28 #[.slice pp path.length pc, .slice pp' path'.length pc'] w fun r w' => r = .returned (.bool (decide (path = path'))) ∧ Below w.heap.size w w' := by
  unfold maxLen at hl
  by_cases hle : path.length = path'.length
  · obtain ⟨fin, hfin⟩ : ∃ fin, fin = decide (path = path') := ⟨_, rfl⟩
    rw [← hfin]
    have HF : Hid (fin = decide (path = path') ∧ path.length = path'.length) := ⟨hfin, hle⟩
    have HP : Hid (path = [] ∨ ∃ b o, pp = some ⟨b, o, none⟩ ∧ b < w.heap.size ∧ ∀ (i : Nat) (hi : i < path.length), w.cell? ⟨b, o + i, none⟩ = some (.int .i64 path[i])) := hP
    have HP' : Hid (path' = [] ∨ ∃ b o, pp' = some ⟨b, o, none⟩ ∧ b < w.heap.size ∧ ∀ (i : Nat) (hi : i < path'.length), w.cell? ⟨b, o + i, none⟩ = some (.int .i64 path'[i])) := hP'
    rw [← hle]
    clear hfin hle hP hP'
    go_enter Tryd.func28, Tryd.ntmps28
    go_wp2_with fail
    go_loopw [5, 13] (fun _ i wr => PathRel path path' w i wr) (fun _ i _ => path.length - (intOf i).toNat)
    case atStart => exact ⟨0, Nat.zero_le _, rfl, rfl, Below.refl _ _⟩
    case round =>
      obtain ⟨j, hj, rfl, hta', hb'⟩ := hrel
      have HT : Hid (path.take j = path'.take j ∧ Below w.heap.size w wr) := ⟨hta', hb'⟩
      have hz := hb'.size
      clear hta' hb'
      by_cases hlt : j < path.length
      · have i1 : (j : Int) < path.length := by omega
        have hlt' : j < path'.length := HF.out.2 ▸ hlt
        obtain ⟨b, o, rfl, hbw, hc⟩ : ∃ b o, pp = some ⟨b, o, none⟩ ∧ b < w.heap.size ∧ wr.cell? ⟨b, o + j, none⟩ = some (.int .i64 path[j]) := by
          rcases HP.out with e | ⟨b, o, e1, e2, e3⟩
          · rw [e] at hlt; simp at hlt
          · exact ⟨b, o, e1, e2, (HT.out.2.cell (p := ⟨b, o + j, none⟩) e2).trans (e3 j hlt)⟩
        obtain ⟨b', o', rfl, hbw', hc'⟩ : ∃ b o, pp' = some ⟨b, o, none⟩ ∧ b < w.heap.size ∧ wr.cell? ⟨b, o + j, none⟩ = some (.int .i64 path'[j]) := by
          rcases HP'.out with e | ⟨b, o, e1, e2, e3⟩
          · rw [e] at hlt'; simp at hlt'
          · exact ⟨b, o, e1, e2, (HT.out.2.cell (p := ⟨b, o + j, none⟩) e2).trans (e3 j hlt')⟩
        have HS : Hid (path[j] = path'[j] → path.take (j + 1) = path'.take (j + 1)) := fun h => by
          rw [List.take_succ_eq_append_getElem hlt, List.take_succ_eq_append_getElem hlt', HT.out.1, h]
        have HN : Hid (path[j] ≠ path'[j] → path ≠ path') := fun h e => h (by simp [e])
        generalize path[j] = x at hc HS HN
        generalize path'[j] = y at hc' HS HN
        have hbz : b < wr.heap.size := by omega
        have hbz' : b' < wr.heap.size := by omega
        have HW : Hid (Below w.heap.size w wr.drew) := HT.out.2.drew
        clear HP HP'
        by_cases hxy : x = y
        · subst hxy
          have HS2 : Hid (path.take (j + 1) = path'.take (j + 1)) := HS.out rfl
          clear HS HN
          go_wp2_with fail
          go_region
          all_goals go_wp2_with fail
          all_goals exact ⟨⟨j + 1, hlt, by go_num, HS2.out, HW.out⟩, by simp [intOf]; omega⟩
        · go_wp2_with fail
          go_region
          all_goals go_wp2_with fail
          all_goals (go_ret; exact ⟨by rw [HF.out.1, decide_eq_false (HN.out hxy)]; rfl, HW.out⟩)
      · have i1 : ¬ (j : Int) < path.length := by omega
        have HX : Hid (fin = true) := by
          show _ = _
          have h := HT.out.1
          rw [List.take_of_length_le (by omega), List.take_of_length_le (by have := HF.out.2; omega)] at h
          rw [HF.out.1, decide_eq_true h]
        go_wp2_with fail
        go_ret
        exact ⟨by rw [HX.out]; rfl, HT.out.2⟩
  · have e : decide (path = path') = false := decide_eq_false fun h => hle (by rw [h])
    rw [e]
    have hle' : ¬ (path.length : Int) = path'.length := by omega
    clear hP hP' e
    go_enter Tryd.func28, Tryd.ntmps28
    go_wp2_with fail
    go_ret
    exact ⟨rfl, Below.refl _ _⟩
end Go.Proofs.YtnhbpcmiolkllabDoor
