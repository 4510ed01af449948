/-
  The document's leads.
  The document's Size.
-/
import Derived.Test.YtnhbpcmiolkllaaDoorRbJ
import Derived.Test.YtnhbpcmiolkllaaDoorEdJ
namespace Go.Proofs.YtnhbpcmiolkllaaDoor
open Go.RowKit
attribute [local go_sem] refold2 cell3_0 cell3_1 b28_0 b28_01

set_option maxRecDepth 100000 in
set_option maxHeartbeats 4000000 in
theorem refLeads_5 (r0 r1 r2 r3 : Int) (pp : Option Addr) (path : List Int) (pc : Nat) (w : World) (h0 : -9223372036854775808 ≤ r1) (h1 : r1 ≤ 9223372036854775807) (hl : path.length ≤ maxLen)
    (hP2 : path = [] ∨ ∃ b o, pp = some ⟨b, o, none⟩ ∧ b < w.heap.size ∧ ∀ (i : Nat) (hi : i < path.length), w.cell? ⟨b, o + i, none⟩ = some (.int .i64 path[i])) :
    Calls Tryd.prog 63 #[.int .i64 5, .agg #[.int .i64 r0, .int .i64 r1, .int .i64 r2, .int .i64 r3, .slice pp path.length pc]] w fun r w' => r = .returned (.bool (leadsB 5 r0 r1 r2 r3 path)) ∧ Below w.heap.size w w' := by
  unfold maxLen at hl
  by_cases hr : r0 = 0
  · have e : leadsB 5 r0 r1 r2 r3 path = noneB r0 r1 r2 r3 path.length := by unfold leadsB; rw [if_pos hr]
    rw [e]
    clear e
    subst hr
    have HN : Hid (∀ W, Calls Tryd.prog 73 #[.agg #[.int .i64 0, .int .i64 r1, .int .i64 r2, .int .i64 r3, .slice pp path.length pc]] W fun r w' => r = .returned (.bool (noneB 0 r1 r2 r3 path.length)) ∧ Below W.heap.size W w') := fun W => refNone_any 0 r1 r2 r3 pp path.length pc W
    generalize noneB 0 r1 r2 r3 path.length = nb at HN ⊢
    clear hP2
    go_enter Tryd.func63, Tryd.ntmps63
    go_wp2_with (go_at_call 73; refine (HN.out _).mono ?_; rintro r w2 ⟨rfl, b2⟩; have hb2 := (kept1 b2).1; clear b2)
    go_ret
    exact ⟨rfl, hb2⟩
  · have e : leadsB 5 r0 r1 r2 r3 path = (objB r0 && ((5 : Int) == 9 || (path.length : Int) == 0) && decide ((path.length : Int) ≤ 100) && path.all stepB && (if (5 : Int) = 5 then decide (0 ≤ r1) && decide (0 ≤ r2) && decide (r2 ≤ r3) && decide (r1 ≤ 1048576) && decide (r3 ≤ 1048576 - r1) else r1 == 0 && r2 == 0 && r3 == 0)) := by unfold leadsB; rw [if_neg hr]
    rw [e]
    clear e
    by_cases hlo : r0 < 0
    · have e : objB r0 = false := by unfold objB; simp; omega
      rw [e]
      clear e hP2
      go_enter Tryd.func63, Tryd.ntmps63
      go_wp2
      all_goals (go_ret; exact ⟨rfl, below1 _ _⟩)
    · by_cases hhi : 2147483647 < r0
      · have e : objB r0 = false := by unfold objB; simp; omega
        rw [e]
        clear e hP2
        go_enter Tryd.func63, Tryd.ntmps63
        go_wp2
        all_goals (go_ret; exact ⟨rfl, below1 _ _⟩)
      · have e : objB r0 = true := by unfold objB; simp; omega
        rw [e]
        clear e
        simp only [Bool.true_and]
        by_cases hp : 0 < path.length
        · have hpi : (0 : Int) < path.length := by omega
          have e : ((5 : Int) == 9 || (path.length : Int) == 0) = false := by
            have h : ((path.length : Int) == 0) = false := by rw [beq_eq_false_iff_ne]; omega
            rw [h]; rfl
          rw [e]
          clear e hP2
          go_enter Tryd.func63, Tryd.ntmps63
          go_wp2
          all_goals (go_ret; exact ⟨rfl, below1 _ _⟩)
        · obtain rfl : path = [] := List.eq_nil_of_length_eq_zero (by omega)
          clear hP2 hl hp
          go_enter Tryd.func63, Tryd.ntmps63
          go_wp2
          go_rounds 1
          all_goals (go_ret; refine ⟨?_, below1 _ _⟩; first | (simp_all; done) | (simp_all; omega))

set_option maxRecDepth 100000 in
set_option maxHeartbeats 4000000 in
theorem refLeads_6 (r0 r1 r2 r3 : Int) (pp : Option Addr) (path : List Int) (pc : Nat) (w : World) (_h0 : -9223372036854775808 ≤ r1) (_h1 : r1 ≤ 9223372036854775807) (hl : path.length ≤ maxLen)
    (hP2 : path = [] ∨ ∃ b o, pp = some ⟨b, o, none⟩ ∧ b < w.heap.size ∧ ∀ (i : Nat) (hi : i < path.length), w.cell? ⟨b, o + i, none⟩ = some (.int .i64 path[i])) :
    Calls Tryd.prog 63 #[.int .i64 6, .agg #[.int .i64 r0, .int .i64 r1, .int .i64 r2, .int .i64 r3, .slice pp path.length pc]] w fun r w' => r = .returned (.bool (leadsB 6 r0 r1 r2 r3 path)) ∧ Below w.heap.size w w' := by
  unfold maxLen at hl
  by_cases hr : r0 = 0
  · have e : leadsB 6 r0 r1 r2 r3 path = noneB r0 r1 r2 r3 path.length := by unfold leadsB; rw [if_pos hr]
    rw [e]
    clear e
    subst hr
    have HN : Hid (∀ W, Calls Tryd.prog 73 #[.agg #[.int .i64 0, .int .i64 r1, .int .i64 r2, .int .i64 r3, .slice pp path.length pc]] W fun r w' => r = .returned (.bool (noneB 0 r1 r2 r3 path.length)) ∧ Below W.heap.size W w') := fun W => refNone_any 0 r1 r2 r3 pp path.length pc W
    generalize noneB 0 r1 r2 r3 path.length = nb at HN ⊢
    clear hP2
    go_enter Tryd.func63, Tryd.ntmps63
    go_wp2_with (go_at_call 73; refine (HN.out _).mono ?_; rintro r w2 ⟨rfl, b2⟩; have hb2 := (kept1 b2).1; clear b2)
    go_ret
    exact ⟨rfl, hb2⟩
  · have e : leadsB 6 r0 r1 r2 r3 path = (objB r0 && ((6 : Int) == 9 || (path.length : Int) == 0) && decide ((path.length : Int) ≤ 100) && path.all stepB && (if (6 : Int) = 5 then decide (0 ≤ r1) && decide (0 ≤ r2) && decide (r2 ≤ r3) && decide (r1 ≤ 1048576) && decide (r3 ≤ 1048576 - r1) else r1 == 0 && r2 == 0 && r3 == 0)) := by unfold leadsB; rw [if_neg hr]
    rw [e]
    clear e
    by_cases hlo : r0 < 0
    · have e : objB r0 = false := by unfold objB; simp; omega
      rw [e]
      clear e hP2
      go_enter Tryd.func63, Tryd.ntmps63
      go_wp2
      all_goals (go_ret; exact ⟨rfl, below1 _ _⟩)
    · by_cases hhi : 2147483647 < r0
      · have e : objB r0 = false := by unfold objB; simp; omega
        rw [e]
        clear e hP2
        go_enter Tryd.func63, Tryd.ntmps63
        go_wp2
        all_goals (go_ret; exact ⟨rfl, below1 _ _⟩)
      · have e : objB r0 = true := by unfold objB; simp; omega
        rw [e]
        clear e
        simp only [Bool.true_and]
        by_cases hp : 0 < path.length
        · have hpi : (0 : Int) < path.length := by omega
          have e : ((6 : Int) == 9 || (path.length : Int) == 0) = false := by
            have h : ((path.length : Int) == 0) = false := by rw [beq_eq_false_iff_ne]; omega
            rw [h]; rfl
          rw [e]
          clear e hP2
          go_enter Tryd.func63, Tryd.ntmps63
          go_wp2
          all_goals (go_ret; exact ⟨rfl, below1 _ _⟩)
        · obtain rfl : path = [] := List.eq_nil_of_length_eq_zero (by omega)
          clear hP2 hl hp
          go_enter Tryd.func63, Tryd.ntmps63
          go_wp2
          go_rounds 1
          all_goals (go_ret; refine ⟨?_, below1 _ _⟩; simp_all)

set_option maxRecDepth 100000 in
set_option maxHeartbeats 4000000 in
theorem refLeads_7 (r0 r1 r2 r3 : Int) (pp : Option Addr) (path : List Int) (pc : Nat) (w : World) (_h0 : -9223372036854775808 ≤ r1) (_h1 : r1 ≤ 9223372036854775807) (hl : path.length ≤ maxLen)
    (hP2 : path = [] ∨ ∃ b o, pp = some ⟨b, o, none⟩ ∧ b < w.heap.size ∧ ∀ (i : Nat) (hi : i < path.length), w.cell? ⟨b, o + i, none⟩ = some (.int .i64 path[i])) :
    Calls Tryd.prog 63 #[.int .i64 7, .agg #[.int .i64 r0, .int .i64 r1, .int .i64 r2, .int .i64 r3, .slice pp path.length pc]] w fun r w' => r = .returned (.bool (leadsB 7 r0 r1 r2 r3 path)) ∧ Below w.heap.size w w' := by
  unfold maxLen at hl
  by_cases hr : r0 = 0
  · have e : leadsB 7 r0 r1 r2 r3 path = noneB r0 r1 r2 r3 path.length := by unfold leadsB; rw [if_pos hr]
    rw [e]
    clear e
    subst hr
    have HN : Hid (∀ W, Calls Tryd.prog 73 #[.agg #[.int .i64 0, .int .i64 r1, .int .i64 r2, .int .i64 r3, .slice pp path.length pc]] W fun r w' => r = .returned (.bool (noneB 0 r1 r2 r3 path.length)) ∧ Below W.heap.size W w') := fun W => refNone_any 0 r1 r2 r3 pp path.length pc W
    generalize noneB 0 r1 r2 r3 path.length = nb at HN ⊢
    clear hP2
    go_enter Tryd.func63, Tryd.ntmps63
    go_wp2_with (go_at_call 73; refine (HN.out _).mono ?_; rintro r w2 ⟨rfl, b2⟩; have hb2 := (kept1 b2).1; clear b2)
    go_ret
    exact ⟨rfl, hb2⟩
  · have e : leadsB 7 r0 r1 r2 r3 path = (objB r0 && ((7 : Int) == 9 || (path.length : Int) == 0) && decide ((path.length : Int) ≤ 100) && path.all stepB && (if (7 : Int) = 5 then decide (0 ≤ r1) && decide (0 ≤ r2) && decide (r2 ≤ r3) && decide (r1 ≤ 1048576) && decide (r3 ≤ 1048576 - r1) else r1 == 0 && r2 == 0 && r3 == 0)) := by unfold leadsB; rw [if_neg hr]
    rw [e]
    clear e
    by_cases hlo : r0 < 0
    · have e : objB r0 = false := by unfold objB; simp; omega
      rw [e]
      clear e hP2
      go_enter Tryd.func63, Tryd.ntmps63
      go_wp2
      all_goals (go_ret; exact ⟨rfl, below1 _ _⟩)
    · by_cases hhi : 2147483647 < r0
      · have e : objB r0 = false := by unfold objB; simp; omega
        rw [e]
        clear e hP2
        go_enter Tryd.func63, Tryd.ntmps63
        go_wp2
        all_goals (go_ret; exact ⟨rfl, below1 _ _⟩)
      · have e : objB r0 = true := by unfold objB; simp; omega
        rw [e]
        clear e
        simp only [Bool.true_and]
        by_cases hp : 0 < path.length
        · have hpi : (0 : Int) < path.length := by omega
          have e : ((7 : Int) == 9 || (path.length : Int) == 0) = false := by
            have h : ((path.length : Int) == 0) = false := by rw [beq_eq_false_iff_ne]; omega
            rw [h]; rfl
          rw [e]
          clear e hP2
          go_enter Tryd.func63, Tryd.ntmps63
          go_wp2
          all_goals (go_ret; exact ⟨rfl, below1 _ _⟩)
        · obtain rfl : path = [] := List.eq_nil_of_length_eq_zero (by omega)
          clear hP2 hl hp
          go_enter Tryd.func63, Tryd.ntmps63
          go_wp2
          go_rounds 1
          all_goals (go_ret; refine ⟨?_, below1 _ _⟩; simp_all)

set_option maxRecDepth 100000 in
set_option maxHeartbeats 4000000 in
theorem refLeads_9 (r0 r1 r2 r3 : Int) (pp : Option Addr) (path : List Int) (pc : Nat) (w : World) (_h0 : -9223372036854775808 ≤ r1) (_h1 : r1 ≤ 9223372036854775807) (hl : path.length ≤ maxLen)
    (hP2 : path = [] ∨ ∃ b o, pp = some ⟨b, o, none⟩ ∧ b < w.heap.size ∧ ∀ (i : Nat) (hi : i < path.length), w.cell? ⟨b, o + i, none⟩ = some (.int .i64 path[i])) :
    Calls Tryd.prog 63 #[.int .i64 9, .agg #[.int .i64 r0, .int .i64 r1, .int .i64 r2, .int .i64 r3, .slice pp path.length pc]] w fun r w' => r = .returned (.bool (leadsB 9 r0 r1 r2 r3 path)) ∧ Below w.heap.size w w' := by
  unfold maxLen at hl
  by_cases hr : r0 = 0
  · have e : leadsB 9 r0 r1 r2 r3 path = noneB r0 r1 r2 r3 path.length := by unfold leadsB; rw [if_pos hr]
    rw [e]
    clear e
    subst hr
    have HN : Hid (∀ W, Calls Tryd.prog 73 #[.agg #[.int .i64 0, .int .i64 r1, .int .i64 r2, .int .i64 r3, .slice pp path.length pc]] W fun r w' => r = .returned (.bool (noneB 0 r1 r2 r3 path.length)) ∧ Below W.heap.size W w') := fun W => refNone_any 0 r1 r2 r3 pp path.length pc W
    generalize noneB 0 r1 r2 r3 path.length = nb at HN ⊢
    clear hP2
    go_enter Tryd.func63, Tryd.ntmps63
    go_wp2_with (go_at_call 73; refine (HN.out _).mono ?_; rintro r w2 ⟨rfl, b2⟩; have hb2 := (kept1 b2).1; clear b2)
    go_ret
    exact ⟨rfl, hb2⟩
  · have e : leadsB 9 r0 r1 r2 r3 path = (objB r0 && ((9 : Int) == 9 || (path.length : Int) == 0) && decide ((path.length : Int) ≤ 100) && path.all stepB && (if (9 : Int) = 5 then decide (0 ≤ r1) && decide (0 ≤ r2) && decide (r2 ≤ r3) && decide (r1 ≤ 1048576) && decide (r3 ≤ 1048576 - r1) else r1 == 0 && r2 == 0 && r3 == 0)) := by unfold leadsB; rw [if_neg hr]
    rw [e]
    clear e
    by_cases hlo : r0 < 0
    · have e : objB r0 = false := by unfold objB; simp; omega
      rw [e]
      clear e hP2
      go_enter Tryd.func63, Tryd.ntmps63
      go_wp2
      all_goals (go_ret; exact ⟨rfl, below1 _ _⟩)
    · by_cases hhi : 2147483647 < r0
      · have e : objB r0 = false := by unfold objB; simp; omega
        rw [e]
        clear e hP2
        go_enter Tryd.func63, Tryd.ntmps63
        go_wp2
        all_goals (go_ret; exact ⟨rfl, below1 _ _⟩)
      · have e : objB r0 = true := by unfold objB; simp; omega
        rw [e]
        clear e
        simp only [Bool.true_and]
        by_cases h100 : 100 < path.length
        · have hpi : (100 : Int) < path.length := by omega
          have e : decide ((path.length : Int) ≤ 100) = false := by simp; omega
          rw [e]
          clear e hP2
          go_enter Tryd.func63, Tryd.ntmps63
          go_wp2
          all_goals (go_ret; refine ⟨?_, below1 _ _⟩; simp)
        · have hpi : ¬ (100 : Int) < path.length := by omega
          have e : decide ((path.length : Int) ≤ 100) = true := by simp; omega
          rw [e]
          clear e
          have HY : Hid (∀ (j : Nat) (hj : j < path.length), ∃ b o, pp = some ⟨b, o, none⟩ ∧ (w.alloc (.cells #[.int .i64 r0, .int .i64 r1, .int .i64 r2, .int .i64 r3, .slice pp path.length pc] 25)).cell? ⟨b, o + j, none⟩ = some (.int .i64 path[j])) := fun j hj => by
            rcases hP2 with e | ⟨b, o, e1, e2, e3⟩
            · rw [e] at hj; simp at hj
            · exact ⟨b, o, e1, by rw [World.cell?_alloc_lt _ _ _ e2]; exact e3 j hj⟩
          clear hP2
          go_enter Tryd.func63, Tryd.ntmps63
          go_wp2
          go_loop [5] (fun i => ∃ j : Nat, j ≤ path.length ∧ i = .int .i64 j ∧ Hid ((path.take j).all stepB = true)) (fun i => path.length - (intOf i).toNat)
          case atStart => exact ⟨0, by omega, rfl, rfl⟩
          case round =>
            obtain ⟨j, hj, rfl, hal⟩ := hrel
            by_cases hlt : j < path.length
            · have i1 : (j : Int) < path.length := by omega
              obtain ⟨b, o, rfl, hcell⟩ := HY.out j hlt
              have HS : Hid ((path.take (j + 1)).all stepB = stepB path[j]) := by
                show _ = _
                rw [List.take_succ_eq_append_getElem hlt, List.all_append, hal.out]; simp
              have HA : Hid (stepB path[j] = false → path.all stepB = false) := fun hz => by
                rw [List.all_eq_false]; exact ⟨path[j], List.getElem_mem hlt, by rw [hz]; exact Bool.false_ne_true⟩
              generalize path[j] = z at hcell HS HA
              go_wp2
              all_goals first
                | (refine ⟨⟨j + 1, by omega, by go_num, ?_⟩, by simp [intOf]; omega⟩; show _ = _; rw [HS.out, stepB]; simp; omega)
                | (go_ret; refine ⟨?_, below1 _ _⟩; rw [HA.out (by unfold stepB; simp; omega)]; simp)
            · obtain rfl : j = path.length := by omega
              have HX : Hid (path.all stepB = true) := by
                show _ = _
                have := hal.out
                rwa [List.take_of_length_le (Nat.le_refl _)] at this
              have hnl : ¬ (path.length : Int) < path.length := by omega
              go_wp2
              all_goals (go_ret; refine ⟨?_, below1 _ _⟩; rw [HX.out]; simp_all)
end Go.Proofs.YtnhbpcmiolkllaaDoor
namespace Go.Proofs.YtnhbpcmiolkllaaDoor
open Go.RowKit
attribute [local go_sem] refold2 cell3_0 cell3_1 b28_0 b28_01

theorem len_le_sum (n : Nat) : ∀ l : List MD, l.length ≤ (l.map (MD.size n)).sum
  | [] => by simp
  | d :: l => by
    have h1 := len_le_sum n l
    have h2 := MD.size_pos n d
    simp only [List.length_cons, List.map_cons, List.sum_cons]; omega

/-- What Size answers. -/
def SizeP (z : Nat) (w : World) (r : Ending) (w' : World) : Prop := ∃ x : Int, r = .returned (.int .i64 x) ∧ 1 ≤ x ∧ x ≤ 101 ∧ x = min (z : Int) 101 ∧ Below w.heap.size w w'
def SizeRel (n : Nat) (items : List MD) (w : World) (c : Array Value) (x i : Value) (wr : World) : Prop :=
  ∃ (k : Nat) (m : Int), k ≤ items.length ∧ i = .int .i64 k ∧ x = .int .i64 m ∧ 1 ≤ m ∧ m ≤ 201 ∧ (m ≤ 100 → m = 1 + ((items.take k).map (MD.size n)).sum) ∧ (100 < m → 100 < 1 + ((items.take k).map (MD.size n)).sum) ∧ Below (w.heap.size + 1) (w.alloc (.cells c 28)) wr

set_option maxRecDepth 100000 in
set_option maxHeartbeats 2000000 in
theorem refSize_any : ∀ (n : Nat) (d : MD) (w : World), MD.In w.heap.size w n d → Calls Tryd.prog 32 #[d.val] w (SizeP (MD.size n d) w)
  | 0, _, _, h => h.elim
  | n + 1, d, w, hin => by
    have HI : Hid (∀ (d : MD) (w : World), MD.In w.heap.size w n d → Calls Tryd.prog 32 #[d.val] w (SizeP (MD.size n d) w)) := fun d w h => refSize_any n d w h
    have hits := hin.items
    have hlen := hin.len
    clear hin
    obtain ⟨⟨k, t, a, f, s, r0, r1, r2, r3, pp, path, pc⟩, ip, ic, items⟩ := d
    simp only [MD.val, D, MD.size]
    by_cases hk : k = 8
    · subst hk
      rw [if_pos rfl]
      have hl1 : items.length ≤ 9223372036854775807 := by have := hlen.1; have := hlen.2; unfold maxLen at *; simp at *; omega
      clear hlen
      obtain ⟨Z, hZ⟩ : ∃ Z, Z = 1 + (items.map (MD.size n)).sum := ⟨_, rfl⟩
      rw [← hZ]
      have HZ : Hid (Z = 1 + (items.map (MD.size n)).sum ∧ items.length ≤ (items.map (MD.size n)).sum) := ⟨hZ, len_le_sum n items⟩
      clear hZ
      by_cases h100 : 100 < items.length
      · have h100' : (100 : Int) < items.length := by omega
        go_enter Tryd.func32, Tryd.ntmps32
        go_wp2_with fail
        go_ret
        exact ⟨101, rfl, by omega, by omega, by have := HZ.out; omega, below1 _ _⟩
      · have h100' : ¬ (100 : Int) < items.length := by omega
        have HT : Hid (MD.ItemsIn w.heap.size w n ⟨⟨8, t, a, f, s, r0, r1, r2, r3, pp, path, pc⟩, ip, ic, items⟩) := hits
        clear hits
        go_enter Tryd.func32, Tryd.ntmps32
        go_wp2_with fail
        go_loopw [3, 4] (fun x i wr => SizeRel n items w #[.int .i64 8, .string t, .int .i64 a, .int .u64 f, .string s, .int .i64 r0, .int .i64 r1, .int .i64 r2, .int .i64 r3, .slice pp path.length pc, .slice ip items.length ic] x i wr) (fun _ i _ => items.length - (intOf i).toNat)
        case atStart => exact ⟨0, 1, Nat.zero_le _, rfl, rfl, by omega, by omega, fun _ => by simp, fun h => by omega, Below.refl _ _⟩
        case round =>
          obtain ⟨k, m, hk, rfl, rfl, hm0, hm1, hm2, hm3, hb⟩ := hrel
          have HM : Hid ((m ≤ 100 → m = 1 + ((items.take k).map (MD.size n)).sum) ∧ (100 < m → 100 < 1 + ((items.take k).map (MD.size n)).sum)) := ⟨hm2, hm3⟩
          clear hm2 hm3
          have hcell : wr.cell? ⟨w.heap.size, 10, none⟩ = some (.slice ip items.length ic) := (hb.cell (p := ⟨w.heap.size, 10, none⟩) (Nat.lt_succ_self _)).trans (row_at (heap_alloc_new _ _) 10)
          have HB : Hid (Below (w.heap.size + 1) (w.alloc (.cells #[.int .i64 8, .string t, .int .i64 a, .int .u64 f, .string s, .int .i64 r0, .int .i64 r1, .int .i64 r2, .int .i64 r3, .slice pp path.length pc, .slice ip items.length ic] 28)) wr) := hb
          have HB0 : Hid (Below w.heap.size w wr) := (below1 _ _).trans (hb.mono (by omega))
          have hz := hb.size
          simp only [World.size_alloc] at hz
          clear hb
          have HL : Hid (((items.take k).map (MD.size n)).sum ≤ (items.map (MD.size n)).sum) := sum_take_le _ _ _
          by_cases hgo : k < items.length ∧ m ≤ 100
          · obtain ⟨hlt, hm100⟩ := hgo
            have i1 : (k : Int) < items.length := by omega
            obtain ⟨bb, o, rfl, hbB, hC, hIn⟩ : ∃ bb o, ip = some ⟨bb, o, none⟩ ∧ bb < w.heap.size ∧ MD.CellsAt wr bb (o + k * 11) items[k] ∧ MD.In w.heap.size wr n items[k] := by
              rcases MD.ItemsIn.below HT.out HB0.out with e | ⟨bb, o, e1, e2, e3⟩
              · have e' : items = [] := e
                rw [e'] at hlt; simp at hlt
              · exact ⟨bb, o, e1, e2, e3 k hlt⟩
            have HS : Hid (((items.take (k + 1)).map (MD.size n)).sum = ((items.take k).map (MD.size n)).sum + MD.size n items[k]) := sum_take_succ _ _ _ hlt
            generalize items[k] = kid at hC hIn HS
            obtain ⟨⟨k0, k1, k2, k3, k4, k5, k6, k7, k8, kp, kpath, kpc⟩, kip, kic, kit⟩ := kid
            have c0 : wr.cell? ⟨bb, o + k * 11, none⟩ = some (.int .i64 k0) := hC 0 (by omega)
            have c1 : wr.cell? ⟨bb, o + k * 11 + 1, none⟩ = some (.string k1) := hC 1 (by omega)
            have c2 : wr.cell? ⟨bb, o + k * 11 + 2, none⟩ = some (.int .i64 k2) := hC 2 (by omega)
            have c3 : wr.cell? ⟨bb, o + k * 11 + 3, none⟩ = some (.int .u64 k3) := hC 3 (by omega)
            have c4 : wr.cell? ⟨bb, o + k * 11 + 4, none⟩ = some (.string k4) := hC 4 (by omega)
            have c5 : wr.cell? ⟨bb, o + k * 11 + 5, none⟩ = some (.int .i64 k5) := hC 5 (by omega)
            have c6 : wr.cell? ⟨bb, o + k * 11 + 6, none⟩ = some (.int .i64 k6) := hC 6 (by omega)
            have c7 : wr.cell? ⟨bb, o + k * 11 + 7, none⟩ = some (.int .i64 k7) := hC 7 (by omega)
            have c8 : wr.cell? ⟨bb, o + k * 11 + 8, none⟩ = some (.int .i64 k8) := hC 8 (by omega)
            have c9 : wr.cell? ⟨bb, o + k * 11 + 9, none⟩ = some (.slice kp kpath.length kpc) := hC 9 (by omega)
            have c10 : wr.cell? ⟨bb, o + k * 11 + 10, none⟩ = some (.slice kip kit.length kic) := hC 10 (by omega)
            have HC : Hid (Calls Tryd.prog 32 #[.agg #[.int .i64 k0, .string k1, .int .i64 k2, .int .u64 k3, .string k4, .int .i64 k5, .int .i64 k6, .int .i64 k7, .int .i64 k8, .slice kp kpath.length kpc, .slice kip kit.length kic]] wr (SizeP (MD.size n ⟨⟨k0, k1, k2, k3, k4, k5, k6, k7, k8, kp, kpath, kpc⟩, kip, kic, kit⟩) wr)) :=
              HI.out ⟨⟨k0, k1, k2, k3, k4, k5, k6, k7, k8, kp, kpath, kpc⟩, kip, kic, kit⟩ wr (MD.In.mono (by omega) n _ hIn)
            clear hC hIn HI
            generalize MD.size n ⟨⟨k0, k1, k2, k3, k4, k5, k6, k7, k8, kp, kpath, kpc⟩, kip, kic, kit⟩ = zk at HC HS
            go_wp2_with (go_at_call 32; refine HC.out.mono ?_; rintro r w2 ⟨x, rfl, hx0, hx1, hx2, b2⟩; have HX : Hid (x = min (zk : Int) 101 ∧ Below wr.heap.size wr w2) := ⟨hx2, b2⟩; clear hx2 b2)
            obtain ⟨g1, g2⟩ := HX.out
            have g3 := HS.out
            have g4 := HM.out.1 hm100
            refine ⟨⟨k + 1, m + x, hlt, by go_num, rfl, by omega, by omega, fun h => by omega, fun h => by omega, HB.out.trans (g2.mono (by omega))⟩, by simp [intOf]; omega⟩
          · by_cases hlt : k < items.length
            · have hm100 : ¬ m ≤ 100 := fun h => hgo ⟨hlt, h⟩
              have i1 : (k : Int) < items.length := by omega
              have hm101 : (100 : Int) < m := by omega
              clear hgo
              go_wp2_with fail
              go_ret
              exact ⟨101, rfl, by omega, by omega, by have := HZ.out; have := HL.out; have := HM.out.2 hm101; omega, HB0.out⟩
            · have i1 : ¬ (k : Int) < items.length := by omega
              have hk2 : k = items.length := by omega
              have HM2 : Hid ((m ≤ 100 → m = 1 + (items.map (MD.size n)).sum) ∧ (100 < m → 100 < 1 + (items.map (MD.size n)).sum)) := by
                have h := HM.out
                rw [hk2, List.take_of_length_le (Nat.le_refl _)] at h
                exact h
              clear hgo hk2
              by_cases hm100 : (100 : Int) < m
              · go_wp2_with fail
                go_ret
                exact ⟨101, rfl, by omega, by omega, by have := HZ.out; have := HM2.out.2 hm100; omega, HB0.out⟩
              · go_wp2_with fail
                go_ret
                exact ⟨m, rfl, by omega, by omega, by have := HZ.out; have := HM2.out.1 (by omega); omega, HB0.out⟩
    · rw [if_neg hk]
      go_enter Tryd.func32, Tryd.ntmps32
      go_wp2_with fail
      go_ret
      exact ⟨1, rfl, by omega, by omega, by omega, below1 _ _⟩
end Go.Proofs.YtnhbpcmiolkllaaDoor
