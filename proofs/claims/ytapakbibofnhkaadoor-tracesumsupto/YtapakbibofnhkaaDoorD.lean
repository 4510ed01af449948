/-
  The document's Differ; a list lent as the front of a longer one; is it as it was?
-/
import Derived.Test.YtapakbibofnhkaaDoorC
namespace Go.Proofs.YtapakbibofnhkaaDoor
open Go.RowKit Go.ChangeMaps

set_option maxRecDepth 100000 in
set_option maxHeartbeats 4000000 in
theorem eqEv (e f : Ev) (W : World) : (Op.equalIn 10000 33 (.agg #[.int .i64 e.k, .int .i64 e.a, .string e.t]) (.agg #[.int .i64 f.k, .int .i64 f.a, .string f.t])).run Tryd.prog W = .ok (e.same f) W := by
  have h : (e.t.toList = f.t.toList) ↔ (e.t == f.t) = true := by rw [beq_toListBytes]; simp
  simp [go_sem, Ev.same]
  by_cases h1 : e.k = f.k
  · by_cases h2 : e.a = f.a
    · by_cases h3 : e.t.toList = f.t.toList
      · simp [h1, h2, h3, h.1 h3]
      · have h4 : (e.t == f.t) = false := by cases hh : (e.t == f.t) with
          | false => rfl
          | true => exact absurd (h.2 hh) h3
        simp [h1, h2, h3, h4]
    · simp [h1, h2]
  · simp [h1]

set_option maxRecDepth 100000 in
set_option maxHeartbeats 4000000 in
theorem refDiffer_any (a b : List Ev) (pa pb : Option Addr) (ca cb : Nat) (w : World) (ha : EvsAt w pa a) (hb : EvsAt w pb b) (hla : a.length ≤ maxLen) (hlb : b.length ≤ maxLen) :
    Calls Tryd.prog 9 #[.slice pa a.length ca, .slice pb b.length cb] w fun r w' => r = .returned (.int .i64 (diff a b)) ∧ Below w.heap.size w w' := by
  unfold maxLen at hla hlb
  have hpl := pre_le a b
  have HD : Hid (∀ n : Nat, n = pre a b → (a.length = b.length → n < a.length) → diff a b = n) := fun n h1 h2 => by
    unfold diff; rw [if_neg (fun q => by have := h2 q.2; omega), h1]
  have HD2 : Hid (pre a b = a.length → a.length = b.length → diff a b = -1) := fun h1 h2 => by unfold diff; rw [if_pos ⟨h1, h2⟩]
  have HA : Hid (EvsAt w pa a) := ha
  have HB : Hid (EvsAt w pb b) := hb
  clear ha hb
  go_enter Tryd.func9, Tryd.ntmps9
  go_wp2_with fail
  go_loopw [5] (fun i wr => DRel a b w i wr) (fun i _ => (a.length + b.length) - (intOf i).toNat)
  case atStart => exact ⟨0, rfl, Nat.zero_le _, Nat.zero_le _, Nat.zero_le _, Below.refl _ _⟩
  case round =>
    obtain ⟨k, rfl, hka, hkb, hkp, hbr⟩ := hrel
    have HW : Hid (Below w.heap.size w wr) := hbr
    have hyr := hbr.size
    clear hbr
    have kk1 : (k : Int) + 1 ≤ 9223372036854775807 ∨ (k = a.length ∧ k = b.length) ∨ (k : Int) = 9223372036854775807 := by omega
    by_cases hlt : k < a.length
    · have i2 : (k : Int) < a.length := by omega
      by_cases hlt2 : k < b.length
      · have i3 : (k : Int) < b.length := by omega
        have kk2 : (k : Int) + 1 ≤ 9223372036854775807 := by omega
        have i4 : ¬ (a.length : Int) ≤ k := by omega
        have i5 : ¬ (b.length : Int) ≤ k := by omega
        have d4 : decide ((a.length : Int) ≤ k) = false := by simpa using hlt
        have d5 : decide ((b.length : Int) ≤ k) = false := by simpa using hlt2
        have d6 : decide (a.length ≤ k) = false := by simpa using hlt
        have d7 : decide (b.length ≤ k) = false := by simpa using hlt2
        clear kk1
        have HP : Hid _ := pre_step a b k hkp hlt hlt2
        obtain ⟨ba, fa, rfl, hba, hca⟩ := (HA.out.below HW.out (Nat.le_refl _)).nonempty (by omega)
        obtain ⟨bb, fb, rfl, hbb, hcb⟩ := (HB.out.below HW.out (Nat.le_refl _)).nonempty (by omega)
        obtain ⟨qa0, qa1, qa2⟩ := hca k hlt
        obtain ⟨qb0, qb1, qb2⟩ := hcb k hlt2
        clear hca hcb
        generalize a[k] = e at qa0 qa1 qa2 HP
        generalize b[k] = f at qb0 qb1 qb2 HP
        obtain ⟨v, hv⟩ : ∃ v, e.same f = v := ⟨_, rfl⟩
        have hq : ∀ W, (Op.equalIn 10000 33 (.agg #[.int .i64 e.k, .int .i64 e.a, .string e.t]) (.agg #[.int .i64 f.k, .int .i64 f.a, .string f.t])).run Tryd.prog W = .ok v W := fun W => by rw [← hv]; exact eqEv e f W
        have HVV : Hid (e.same f = v) := hv
        clear hv
        go_wp2_with fail
        go_quiet (fail)
        cases v
        · simp only [Bool.not_false]
          go_wp2_with fail
          go_ret
          have hp := HP.out.2 HVV.out
          exact ⟨by rw [HD.out k hp.symm (fun _ => hlt)]; rfl, below_drewN HW.out _⟩
        · simp only [Bool.not_true]
          go_wp2_with fail
          have hp := HP.out.1 HVV.out
          go_roundw
          case rel => exact ⟨k + 1, by go_num, hlt, hlt2, hp, below_drewN HW.out _⟩
          case measure => simp [intOf]; omega
      · have i3 : ¬ (k : Int) < b.length := by omega
        have i4 : ¬ (a.length : Int) ≤ k := by omega
        have i5 : (b.length : Int) ≤ k := by omega
        have d4 : decide ((a.length : Int) ≤ k) = false := by simpa using hlt
        have d5 : decide ((b.length : Int) ≤ k) = true := by simpa using hlt2
        have d6 : decide (a.length ≤ k) = false := by simpa using hlt
        have d7 : decide (b.length ≤ k) = true := by simpa using hlt2
        have HX : Hid (diff a b = k) := HD.out k (by omega) (fun _ => hlt)
        clear kk1
        go_wp2_with fail
        go_quiet (fail)
        go_wp2_with fail
        go_ret
        exact ⟨by rw [HX.out]; rfl, below_drewN HW.out _⟩
    · have i2 : ¬ (k : Int) < a.length := by omega
      have i4 : (a.length : Int) ≤ k := by omega
      have d4 : decide ((a.length : Int) ≤ k) = true := by simpa using hlt
      have d6 : decide (a.length ≤ k) = true := by simpa using hlt
      by_cases hlt2 : k < b.length
      · have i3 : (k : Int) < b.length := by omega
        have HX : Hid (diff a b = k) := HD.out k (by omega) (fun q => by omega)
        clear kk1
        go_wp2_with fail
        go_quiet (fail)
        go_wp2_with fail
        go_ret
        exact ⟨by rw [HX.out]; rfl, below_drewN HW.out _⟩
      · have i3 : ¬ (k : Int) < b.length := by omega
        have HX : Hid (diff a b = -1) := HD2.out (by omega) (by omega)
        clear kk1
        go_wp2_with fail
        go_ret
        exact ⟨by rw [HX.out]; rfl, HW.out⟩

end Go.Proofs.YtapakbibofnhkaaDoor
