/-
  The document's leads.
-/
import Derived.Test.YtnhbpcmiolkllaaDoorRb
namespace Go.Proofs.YtnhbpcmiolkllaaDoor
open Go.RowKit
attribute [local go_sem] refold2 cell3_0 cell3_1 b28_0 b28_01

set_option maxRecDepth 100000 in
set_option maxHeartbeats 4000000 in
theorem refLeads_5 (r0 r1 r2 r3 : Int) (pp : Option Addr) (path : List Int) (pc : Nat) (w : World) (h0 : -9223372036854775808 ≤ r1) (h1 : r1 ≤ 9223372036854775807) (hl : path.length ≤ maxLen)
    (hP2 : path = [] ∨ ∃ b o, pp = some ⟨b, o, none⟩ ∧ b < w.heap.size ∧ ∀ (i : Nat) (hi : i < path.length), w.cell? ⟨b, o + i, none⟩ = some (.int .i64 path[i])) :
    Calls Tryd.prog 63 #[.int .i64 5, .agg #[.int .i64 r0, .int .i64 r1, .int .i64 r2, .int .i64 r3, .slice pp path.length pc]] w fun r w' => r = .returned (.bool (leadsB 5 r0 r1 r2 r3 path)) ∧ Below w.heap.size w w' := by
  unfold maxLen at hl
  by_cases hr : r0 = 0
  · have e : leadsB 5 r0 r1 r2 r3 path = noneB r0 r1 r2 r3 path.length := by unfold leadsB; rw [if_pos hr]
    rw [e]
    clear e
    subst hr
    have HN : Hid (∀ W, Calls Tryd.prog 73 #[.agg #[.int .i64 0, .int .i64 r1, .int .i64 r2, .int .i64 r3, .slice pp path.length pc]] W fun r w' => r = .returned (.bool (noneB 0 r1 r2 r3 path.length)) ∧ Below W.heap.size W w') := fun W => refNone_any 0 r1 r2 r3 pp path.length pc W
    generalize noneB 0 r1 r2 r3 path.length = nb at HN ⊢
    clear hP2
    go_enter Tryd.func63, Tryd.ntmps63
    go_wp2_with (go_at_call 73; refine (HN.out _).mono ?_; rintro r w2 ⟨rfl, b2⟩; have hb2 := (kept1 b2).1; clear b2)
    go_ret
    exact ⟨rfl, hb2⟩
  · have e : leadsB 5 r0 r1 r2 r3 path = (objB r0 && ((5 : Int) == 9 || (path.length : Int) == 0) && decide ((path.length : Int) ≤ 100) && path.all stepB && (if (5 : Int) = 5 then decide (0 ≤ r1) && decide (0 ≤ r2) && decide (r2 ≤ r3) && decide (r1 ≤ 1048576) && decide (r3 ≤ 1048576 - r1) else r1 == 0 && r2 == 0 && r3 == 0)) := by unfold leadsB; rw [if_neg hr]
    rw [e]
    clear e
    by_cases hlo : r0 < 0
    · have e : objB r0 = false := by unfold objB; simp; omega
      rw [e]
      clear e hP2
      go_enter Tryd.func63, Tryd.ntmps63
      go_wp2
      all_goals (go_ret; exact ⟨rfl, below1 _ _⟩)
    · by_cases hhi : 2147483647 < r0
      · have e : objB r0 = false := by unfold objB; simp; omega
        rw [e]
        clear e hP2
        go_enter Tryd.func63, Tryd.ntmps63
        go_wp2
        all_goals (go_ret; exact ⟨rfl, below1 _ _⟩)
      · have e : objB r0 = true := by unfold objB; simp; omega
        rw [e]
        clear e
        simp only [Bool.true_and]
        by_cases hp : 0 < path.length
        · have hpi : (0 : Int) < path.length := by omega
          have e : ((5 : Int) == 9 || (path.length : Int) == 0) = false := by
            have h : ((path.length : Int) == 0) = false := by rw [beq_eq_false_iff_ne]; omega
            rw [h]; rfl
          rw [e]
          clear e hP2
          go_enter Tryd.func63, Tryd.ntmps63
          go_wp2
          all_goals (go_ret; exact ⟨rfl, below1 _ _⟩)
        · obtain rfl : path = [] := List.eq_nil_of_length_eq_zero (by omega)
          clear hP2 hl hp
          go_enter Tryd.func63, Tryd.ntmps63
          go_wp2
          go_rounds 1
          all_goals (go_ret; refine ⟨?_, below1 _ _⟩; first | (simp_all; done) | (simp_all; omega))

set_option maxRecDepth 100000 in
set_option maxHeartbeats 4000000 in
theorem refLeads_6 (r0 r1 r2 r3 : Int) (pp : Option Addr) (path : List Int) (pc : Nat) (w : World) (_h0 : -9223372036854775808 ≤ r1) (_h1 : r1 ≤ 9223372036854775807) (hl : path.length ≤ maxLen)
    (hP2 : path = [] ∨ ∃ b o, pp = some ⟨b, o, none⟩ ∧ b < w.heap.size ∧ ∀ (i : Nat) (hi : i < path.length), w.cell? ⟨b, o + i, none⟩ = some (.int .i64 path[i])) :
    Calls Tryd.prog 63 #[.int .i64 6, .agg #[.int .i64 r0, .int .i64 r1, .int .i64 r2, .int .i64 r3, .slice pp path.length pc]] w fun r w' => r = .returned (.bool (leadsB 6 r0 r1 r2 r3 path)) ∧ Below w.heap.size w w' := by
  unfold maxLen at hl
  by_cases hr : r0 = 0
  · have e : leadsB 6 r0 r1 r2 r3 path = noneB r0 r1 r2 r3 path.length := by unfold leadsB; rw [if_pos hr]
    rw [e]
    clear e
    subst hr
    have HN : Hid (∀ W, Calls Tryd.prog 73 #[.agg #[.int .i64 0, .int .i64 r1, .int .i64 r2, .int .i64 r3, .slice pp path.length pc]] W fun r w' => r = .returned (.bool (noneB 0 r1 r2 r3 path.length)) ∧ Below W.heap.size W w') := fun W => refNone_any 0 r1 r2 r3 pp path.length pc W
    generalize noneB 0 r1 r2 r3 path.length = nb at HN ⊢
    clear hP2
    go_enter Tryd.func63, Tryd.ntmps63
    go_wp2_with (go_at_call 73; refine (HN.out _).mono ?_; rintro r w2 ⟨rfl, b2⟩; have hb2 := (kept1 b2).1; clear b2)
    go_ret
    exact ⟨rfl, hb2⟩
  · have e : leadsB 6 r0 r1 r2 r3 path = (objB r0 && ((6 : Int) == 9 || (path.length : Int) == 0) && decide ((path.length : Int) ≤ 100) && path.all stepB && (if (6 : Int) = 5 then decide (0 ≤ r1) && decide (0 ≤ r2) && decide (r2 ≤ r3) && decide (r1 ≤ 1048576) && decide (r3 ≤ 1048576 - r1) else r1 == 0 && r2 == 0 && r3 == 0)) := by unfold leadsB; rw [if_neg hr]
    rw [e]
    clear e
    by_cases hlo : r0 < 0
    · have e : objB r0 = false := by unfold objB; simp; omega
      rw [e]
      clear e hP2
      go_enter Tryd.func63, Tryd.ntmps63
      go_wp2
      all_goals (go_ret; exact ⟨rfl, below1 _ _⟩)
    · by_cases hhi : 2147483647 < r0
      · have e : objB r0 = false := by unfold objB; simp; omega
        rw [e]
        clear e hP2
        go_enter Tryd.func63, Tryd.ntmps63
        go_wp2
        all_goals (go_ret; exact ⟨rfl, below1 _ _⟩)
      · have e : objB r0 = true := by unfold objB; simp; omega
        rw [e]
        clear e
        simp only [Bool.true_and]
        by_cases hp : 0 < path.length
        · have hpi : (0 : Int) < path.length := by omega
          have e : ((6 : Int) == 9 || (path.length : Int) == 0) = false := by
            have h : ((path.length : Int) == 0) = false := by rw [beq_eq_false_iff_ne]; omega
            rw [h]; rfl
          rw [e]
          clear e hP2
          go_enter Tryd.func63, Tryd.ntmps63
          go_wp2
          all_goals (go_ret; exact ⟨rfl, below1 _ _⟩)
        · obtain rfl : path = [] := List.eq_nil_of_length_eq_zero (by omega)
          clear hP2 hl hp
          go_enter Tryd.func63, Tryd.ntmps63
          go_wp2
          go_rounds 1
          all_goals (go_ret; refine ⟨?_, below1 _ _⟩; simp_all)

set_option maxRecDepth 100000 in
set_option maxHeartbeats 4000000 in
theorem refLeads_7 (r0 r1 r2 r3 : Int) (pp : Option Addr) (path : List Int) (pc : Nat) (w : World) (_h0 : -9223372036854775808 ≤ r1) (_h1 : r1 ≤ 9223372036854775807) (hl : path.length ≤ maxLen)
    (hP2 : path = [] ∨ ∃ b o, pp = some ⟨b, o, none⟩ ∧ b < w.heap.size ∧ ∀ (i : Nat) (hi : i < path.length), w.cell? ⟨b, o + i, none⟩ = some (.int .i64 path[i])) :
    Calls Tryd.prog 63 #[.int .i64 7, .agg #[.int .i64 r0, .int .i64 r1, .int .i64 r2, .int .i64 r3, .slice pp path.length pc]] w fun r w' => r = .returned (.bool (leadsB 7 r0 r1 r2 r3 path)) ∧ Below w.heap.size w w' := by
  unfold maxLen at hl
  by_cases hr : r0 = 0
  · have e : leadsB 7 r0 r1 r2 r3 path = noneB r0 r1 r2 r3 path.length := by unfold leadsB; rw [if_pos hr]
    rw [e]
    clear e
    subst hr
    have HN : Hid (∀ W, Calls Tryd.prog 73 #[.agg #[.int .i64 0, .int .i64 r1, .int .i64 r2, .int .i64 r3, .slice pp path.length pc]] W fun r w' => r = .returned (.bool (noneB 0 r1 r2 r3 path.length)) ∧ Below W.heap.size W w') := fun W => refNone_any 0 r1 r2 r3 pp path.length pc W
    generalize noneB 0 r1 r2 r3 path.length = nb at HN ⊢
    clear hP2
    go_enter Tryd.func63, Tryd.ntmps63
    go_wp2_with (go_at_call 73; refine (HN.out _).mono ?_; rintro r w2 ⟨rfl, b2⟩; have hb2 := (kept1 b2).1; clear b2)
    go_ret
    exact ⟨rfl, hb2⟩
  · have e : leadsB 7 r0 r1 r2 r3 path = (objB r0 && ((7 : Int) == 9 || (path.length : Int) == 0) && decide ((path.length : Int) ≤ 100) && path.all stepB && (if (7 : Int) = 5 then decide (0 ≤ r1) && decide (0 ≤ r2) && decide (r2 ≤ r3) && decide (r1 ≤ 1048576) && decide (r3 ≤ 1048576 - r1) else r1 == 0 && r2 == 0 && r3 == 0)) := by unfold leadsB; rw [if_neg hr]
    rw [e]
    clear e
    by_cases hlo : r0 < 0
    · have e : objB r0 = false := by unfold objB; simp; omega
      rw [e]
      clear e hP2
      go_enter Tryd.func63, Tryd.ntmps63
      go_wp2
      all_goals (go_ret; exact ⟨rfl, below1 _ _⟩)
    · by_cases hhi : 2147483647 < r0
      · have e : objB r0 = false := by unfold objB; simp; omega
        rw [e]
        clear e hP2
        go_enter Tryd.func63, Tryd.ntmps63
        go_wp2
        all_goals (go_ret; exact ⟨rfl, below1 _ _⟩)
      · have e : objB r0 = true := by unfold objB; simp; omega
        rw [e]
        clear e
        simp only [Bool.true_and]
        by_cases hp : 0 < path.length
        · have hpi : (0 : Int) < path.length := by omega
          have e : ((7 : Int) == 9 || (path.length : Int) == 0) = false := by
            have h : ((path.length : Int) == 0) = false := by rw [beq_eq_false_iff_ne]; omega
            rw [h]; rfl
          rw [e]
          clear e hP2
          go_enter Tryd.func63, Tryd.ntmps63
          go_wp2
          all_goals (go_ret; exact ⟨rfl, below1 _ _⟩)
        · obtain rfl : path = [] := List.eq_nil_of_length_eq_zero (by omega)
          clear hP2 hl hp
          go_enter Tryd.func63, Tryd.ntmps63
          go_wp2
          go_rounds 1
          all_goals (go_ret; refine ⟨?_, below1 _ _⟩; simp_all)

set_option maxRecDepth 100000 in
set_option maxHeartbeats 4000000 in
theorem refLeads_9 (r0 r1 r2 r3 : Int) (pp : Option Addr) (path : List Int) (pc : Nat) (w : World) (_h0 : -9223372036854775808 ≤ r1) (_h1 : r1 ≤ 9223372036854775807) (hl : path.length ≤ maxLen)
    (hP2 : path = [] ∨ ∃ b o, pp = some ⟨b, o, none⟩ ∧ b < w.heap.size ∧ ∀ (i : Nat) (hi : i < path.length), w.cell? ⟨b, o + i, none⟩ = some (.int .i64 path[i])) :
    Calls Tryd.prog 63 #[.int .i64 9, .agg #[.int .i64 r0, .int .i64 r1, .int .i64 r2, .int .i64 r3, .slice pp path.length pc]] w fun r w' => r = .returned (.bool (leadsB 9 r0 r1 r2 r3 path)) ∧ Below w.heap.size w w' := by
  unfold maxLen at hl
  by_cases hr : r0 = 0
  · have e : leadsB 9 r0 r1 r2 r3 path = noneB r0 r1 r2 r3 path.length := by unfold leadsB; rw [if_pos hr]
    rw [e]
    clear e
    subst hr
    have HN : Hid (∀ W, Calls Tryd.prog 73 #[.agg #[.int .i64 0, .int .i64 r1, .int .i64 r2, .int .i64 r3, .slice pp path.length pc]] W fun r w' => r = .returned (.bool (noneB 0 r1 r2 r3 path.length)) ∧ Below W.heap.size W w') := fun W => refNone_any 0 r1 r2 r3 pp path.length pc W
    generalize noneB 0 r1 r2 r3 path.length = nb at HN ⊢
    clear hP2
    go_enter Tryd.func63, Tryd.ntmps63
    go_wp2_with (go_at_call 73; refine (HN.out _).mono ?_; rintro r w2 ⟨rfl, b2⟩; have hb2 := (kept1 b2).1; clear b2)
    go_ret
    exact ⟨rfl, hb2⟩
  · have e : leadsB 9 r0 r1 r2 r3 path = (objB r0 && ((9 : Int) == 9 || (path.length : Int) == 0) && decide ((path.length : Int) ≤ 100) && path.all stepB && (if (9 : Int) = 5 then decide (0 ≤ r1) && decide (0 ≤ r2) && decide (r2 ≤ r3) && decide (r1 ≤ 1048576) && decide (r3 ≤ 1048576 - r1) else r1 == 0 && r2 == 0 && r3 == 0)) := by unfold leadsB; rw [if_neg hr]
    rw [e]
    clear e
    by_cases hlo : r0 < 0
    · have e : objB r0 = false := by unfold objB; simp; omega
      rw [e]
      clear e hP2
      go_enter Tryd.func63, Tryd.ntmps63
      go_wp2
      all_goals (go_ret; exact ⟨rfl, below1 _ _⟩)
    · by_cases hhi : 2147483647 < r0
      · have e : objB r0 = false := by unfold objB; simp; omega
        rw [e]
        clear e hP2
        go_enter Tryd.func63, Tryd.ntmps63
        go_wp2
        all_goals (go_ret; exact ⟨rfl, below1 _ _⟩)
      · have e : objB r0 = true := by unfold objB; simp; omega
        rw [e]
        clear e
        simp only [Bool.true_and]
        by_cases h100 : 100 < path.length
        · have hpi : (100 : Int) < path.length := by omega
          have e : decide ((path.length : Int) ≤ 100) = false := by simp; omega
          rw [e]
          clear e hP2
          go_enter Tryd.func63, Tryd.ntmps63
          go_wp2
          all_goals (go_ret; refine ⟨?_, below1 _ _⟩; simp)
        · have hpi : ¬ (100 : Int) < path.length := by omega
          have e : decide ((path.length : Int) ≤ 100) = true := by simp; omega
          rw [e]
          clear e
          have HY : Hid (∀ (j : Nat) (hj : j < path.length), ∃ b o, pp = some ⟨b, o, none⟩ ∧ (w.alloc (.cells #[.int .i64 r0, .int .i64 r1, .int .i64 r2, .int .i64 r3, .slice pp path.length pc] 25)).cell? ⟨b, o + j, none⟩ = some (.int .i64 path[j])) := fun j hj => by
            rcases hP2 with e | ⟨b, o, e1, e2, e3⟩
            · rw [e] at hj; simp at hj
            · exact ⟨b, o, e1, by rw [World.cell?_alloc_lt _ _ _ e2]; exact e3 j hj⟩
          clear hP2
          go_enter Tryd.func63, Tryd.ntmps63
          go_wp2
          go_loop [5] (fun i => ∃ j : Nat, j ≤ path.length ∧ i = .int .i64 j ∧ Hid ((path.take j).all stepB = true)) (fun i => path.length - (intOf i).toNat)
          case atStart => exact ⟨0, by omega, rfl, rfl⟩
          case round =>
            obtain ⟨j, hj, rfl, hal⟩ := hrel
            by_cases hlt : j < path.length
            · have i1 : (j : Int) < path.length := by omega
              obtain ⟨b, o, rfl, hcell⟩ := HY.out j hlt
              have HS : Hid ((path.take (j + 1)).all stepB = stepB path[j]) := by
                show _ = _
                rw [List.take_succ_eq_append_getElem hlt, List.all_append, hal.out]; simp
              have HA : Hid (stepB path[j] = false → path.all stepB = false) := fun hz => by
                rw [List.all_eq_false]; exact ⟨path[j], List.getElem_mem hlt, by rw [hz]; exact Bool.false_ne_true⟩
              generalize path[j] = z at hcell HS HA
              go_wp2
              all_goals first
                | (refine ⟨⟨j + 1, by omega, by go_num, ?_⟩, by simp [intOf]; omega⟩; show _ = _; rw [HS.out, stepB]; simp; omega)
                | (go_ret; refine ⟨?_, below1 _ _⟩; rw [HA.out (by unfold stepB; simp; omega)]; simp)
            · obtain rfl : j = path.length := by omega
              have HX : Hid (path.all stepB = true) := by
                show _ = _
                have := hal.out
                rwa [List.take_of_length_le (Nat.le_refl _)] at this
              have hnl : ¬ (path.length : Int) < path.length := by omega
              go_wp2
              all_goals (go_ret; refine ⟨?_, below1 _ _⟩; rw [HX.out]; simp_all)
end Go.Proofs.YtnhbpcmiolkllaaDoor
