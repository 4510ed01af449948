/-
  How many events two lists have alike: the plain function; trace.Differ.
-/
import Derived.Test.YtapakbibofnhkaaDoorB
namespace Go.Proofs.YtapakbibofnhkaaDoor
open Go.RowKit Go.ChangeMaps

/-- How many events, from the first one on, two lists have alike. -/
def pre : List Ev → List Ev → Nat
  | [], _ => 0
  | _ :: _, [] => 0
  | x :: a, y :: b => if x.same y then pre a b + 1 else 0
theorem pre_le : ∀ (a b : List Ev), pre a b ≤ a.length ∧ pre a b ≤ b.length
  | [], b => by simp [pre]
  | x :: a, [] => by simp [pre]
  | x :: a, y :: b => by
    have h := pre_le a b
    simp only [pre, List.length_cons]
    split <;> omega
theorem pre_step : ∀ (a b : List Ev) (i : Nat) (_ : i ≤ pre a b) (ha : i < a.length) (hb : i < b.length), (a[i].same b[i] = true → i + 1 ≤ pre a b) ∧ (a[i].same b[i] = false → pre a b = i)
  | [], _, _, _, ha, _ => by cases ha
  | _ :: _, [], _, _, _, hb => by cases hb
  | x :: a, y :: b, 0, _, _, _ => by
    simp only [pre, List.getElem_cons_zero]
    constructor
    · intro h; rw [if_pos h]; omega
    · intro h; rw [h]; simp
  | x :: a, y :: b, i + 1, h, ha, hb => by
    simp only [pre] at h ⊢
    by_cases hs : x.same y = true
    · rw [if_pos hs] at h ⊢
      have ih := pre_step a b i (by omega) (by simpa using ha) (by simpa using hb)
      simp only [List.getElem_cons_succ]
      exact ⟨fun q => by have := ih.1 q; omega, fun q => by have := ih.2 q; omega⟩
    · rw [if_neg hs] at h; omega
theorem same_comm (e f : Ev) : e.same f = f.same e := by
  rw [Bool.eq_iff_iff, Ev.same_iff, Ev.same_iff]; exact eq_comm
theorem pre_comm : ∀ (a b : List Ev), pre a b = pre b a
  | [], [] => rfl
  | [], _ :: _ => rfl
  | _ :: _, [] => rfl
  | x :: a, y :: b => by simp only [pre, same_comm x y, pre_comm a b]
/-- Where two lists part; -1: they are the same. -/
def diff (a b : List Ev) : Int := if pre a b = a.length ∧ a.length = b.length then -1 else pre a b
theorem diff_comm (a b : List Ev) : diff a b = diff b a := by
  unfold diff
  rw [pre_comm a b]
  by_cases h : a.length = b.length
  · rw [h]
  · rw [if_neg (fun q => h q.2), if_neg (fun q => h q.2.symm)]

/-- So far they are alike. -/
def DRel (a b : List Ev) (U : World) (i : Value) (wr : World) : Prop := ∃ k : Nat, i = .int .i64 k ∧ k ≤ a.length ∧ k ≤ b.length ∧ k ≤ pre a b ∧ Below U.heap.size U wr

set_option maxRecDepth 100000 in
set_option maxHeartbeats 4000000 in
theorem differ_l (a b : List Ev) (pa pb : Option Addr) (ca cb : Nat) (w : World) (ha : EvsAt w pa a) (hb : EvsAt w pb b) (hla : a.length ≤ maxLen) (hlb : b.length ≤ maxLen) (hle : b.length < a.length) :
    Calls Tryd.prog 10 #[.slice pa a.length ca, .slice pb b.length cb] w fun r w' => r = .returned (.int .i64 (diff a b)) ∧ Below w.heap.size w w' := by
  unfold maxLen at hla hlb
  have hpl := pre_le a b
  have HD : Hid (∀ n : Nat, n = pre a b → (a.length = b.length → n < a.length) → diff a b = n) := fun n h1 h2 => by
    unfold diff; rw [if_neg (fun q => by have := h2 q.2; omega), h1]
  have HD2 : Hid (pre a b = a.length → a.length = b.length → diff a b = -1) := fun h1 h2 => by unfold diff; rw [if_pos ⟨h1, h2⟩]
  go_enter Tryd.func10, Tryd.ntmps10
  go_wp2_with fail
  refine (likenesses_any _).mono ?_
  rintro _ U ⟨rfl, hU⟩
  have u0 : Below w.heap.size w U := by rw [hU]; exact below1 w _
  have g0 : U.heap[w.heap.size]? = some (.cells #[.func (.func 29) #[] #[], .func (.func 30) #[] #[], .func (.func 31) #[] #[]] 62) := by rw [hU]; exact heap_alloc_new _ _
  have y0 : w.heap.size < U.heap.size := heap_lt g0
  clear hU
  have HA : Hid (EvsAt U pa a) := ha.below u0 (Nat.le_refl _)
  have HB : Hid (EvsAt U pb b) := hb.below u0 (Nat.le_refl _)
  clear ha hb
  go_wp2_with fail
  go_loopw [15] (fun i wr => DRel a b U i wr) (fun i _ => b.length - (intOf i).toNat)
  case atStart => exact ⟨0, rfl, Nat.zero_le _, Nat.zero_le _, Nat.zero_le _, Below.refl _ _⟩
  case round =>
    obtain ⟨k, rfl, hka, hkb, hkp, hbr⟩ := hrel
    have hwr : Below w.heap.size w wr := u0.trans (hbr.mono (Nat.le_of_lt y0))
    have gr := (hbr.block _ y0).trans g0
    by_cases hlt : k < b.length
    · have hk1 : k < a.length := by omega
      have hk2 : k < b.length := by omega
      have i2 : (k : Int) < a.length := by omega
      have i3 : (k : Int) < b.length := by omega
      have HP : Hid _ := pre_step a b k hkp hk1 hk2
      obtain ⟨ba, fa, rfl, hba, hca⟩ := (HA.out.below hbr (Nat.le_refl _)).nonempty (by omega)
      obtain ⟨bb, fb, rfl, hbb, hcb⟩ := (HB.out.below hbr (Nat.le_refl _)).nonempty (by omega)
      have qa := hca k hk1
      have qb := hcb k hk2
      clear hca hcb
      generalize a[k] = e at qa HP
      generalize b[k] = f at qb HP
      obtain ⟨v, hv⟩ : ∃ v, e.same f = v := ⟨_, rfl⟩
      have hyr := hbr.size
      have kk1 : (k : Int) + 1 ≤ 9223372036854775807 := by omega
      go_wp2_with fail
      refine wp_region_noPanic ?_
      refine wp_region_held (S := fun W => W.cell? ⟨ba, fa + k * 3, none⟩ = some (.int .i64 e.k) ∧ W.cell? ⟨ba, fa + k * 3 + 1, none⟩ = some (.int .i64 e.a) ∧ W.cell? ⟨ba, fa + k * 3 + 2, none⟩ = some (.string e.t) ∧ W.cell? ⟨bb, fb + k * 3, none⟩ = some (.int .i64 f.k) ∧ W.cell? ⟨bb, fb + k * 3 + 1, none⟩ = some (.int .i64 f.a) ∧ W.cell? ⟨bb, fb + k * 3 + 2, none⟩ = some (.string f.t)) (by kernel_rfl) ?_
      obtain ⟨W4, hW4⟩ : ∃ W4, W4 = (wr).drew := ⟨_, rfl⟩
      have e4 : ({ wr with drawn := (wr).drawn + 1 } : World) = W4 := hW4.symm
      rw [e4]
      have hB4 : Below (wr).heap.size (wr) W4 := by rw [hW4]; exact (Below.refl _ _).drew
      have hS : W4.cell? ⟨ba, fa + k * 3, none⟩ = some (.int .i64 e.k) ∧ W4.cell? ⟨ba, fa + k * 3 + 1, none⟩ = some (.int .i64 e.a) ∧ W4.cell? ⟨ba, fa + k * 3 + 2, none⟩ = some (.string e.t) ∧ W4.cell? ⟨bb, fb + k * 3, none⟩ = some (.int .i64 f.k) ∧ W4.cell? ⟨bb, fb + k * 3 + 1, none⟩ = some (.int .i64 f.a) ∧ W4.cell? ⟨bb, fb + k * 3 + 2, none⟩ = some (.string f.t) := (by rw [hB4.cell (p := ⟨ba, _, none⟩) hba, hB4.cell (p := ⟨ba, _, none⟩) hba, hB4.cell (p := ⟨ba, _, none⟩) hba, hB4.cell (p := ⟨bb, _, none⟩) hbb, hB4.cell (p := ⟨bb, _, none⟩) hbb, hB4.cell (p := ⟨bb, _, none⟩) hbb]; exact ⟨qa.1, qa.2.1, qa.2.2, qb⟩)
      have HW4 : Hid (W4 = (wr).drew) := hW4
      clear e4 hW4
      refine wpAnyH_take (i := 0) (v := .slice (some ⟨w.heap.size, 0, none⟩) 3 3) rfl (by kernel_rfl) (by kernel_rfl) (by kernel_rfl) (fun _ _ _ h => h) (Or.inl ⟨by rfl, ?r⟩) hS ?_
      case r => intro W hW; simp [go_sem, execOp, Act.eval]
      simp only [List.getElem_toArray, List.getElem_cons_zero, Act.put, List.setIfInBounds_toArray, List.set_cons_succ, List.set_cons_zero]
      refine wpAnyH_take (i := 1) (v := .slice (some ⟨ba, fa, none⟩) a.length ca) rfl (by kernel_rfl) (by kernel_rfl) (by kernel_rfl) (fun _ _ _ h => h) (Or.inl ⟨by rfl, ?r⟩) hS ?_
      case r => intro W hW; simp [go_sem, execOp, Act.eval]
      simp only [List.getElem_toArray, List.getElem_cons_zero, List.getElem_cons_succ, Act.put, List.setIfInBounds_toArray, List.set_cons_succ, List.set_cons_zero]
      refine wpAnyH_take (i := 2) (v := .int .i64 k) rfl (by kernel_rfl) (by kernel_rfl) (by kernel_rfl) (fun _ _ _ h => h) (Or.inl ⟨by rfl, ?r⟩) hS ?_
      case r => intro W hW; simp [go_sem, execOp, Act.eval]
      simp only [List.getElem_toArray, List.getElem_cons_zero, List.getElem_cons_succ, Act.put, List.setIfInBounds_toArray, List.set_cons_succ, List.set_cons_zero]
      refine wpAnyH_take (i := 3) (v := .pointer (some ⟨ba, fa + k * 3, none⟩)) rfl (by kernel_rfl) (by kernel_rfl) (by kernel_rfl) (fun _ _ _ h => h) (Or.inl ⟨by rfl, ?r⟩) hS ?_
      case r => intro W hW; simp [go_sem, execOp, Act.eval, i2]
      simp only [List.getElem_toArray, List.getElem_cons_zero, List.getElem_cons_succ, Act.put, List.setIfInBounds_toArray, List.set_cons_succ, List.set_cons_zero]
      refine wpAnyH_take (i := 4) (v := .agg #[.int .i64 e.k, .int .i64 e.a, .string e.t]) rfl (by kernel_rfl) (by kernel_rfl) (by kernel_rfl) (fun _ _ _ h => h) (Or.inl ⟨by rfl, ?r⟩) hS ?_
      case r => intro W hW; simp [go_sem, execOp, Act.eval, hW]
      simp only [List.getElem_toArray, List.getElem_cons_zero, List.getElem_cons_succ, Act.put, List.setIfInBounds_toArray, List.set_cons_succ, List.set_cons_zero]
      refine wpAnyH_take (i := 5) (v := .slice (some ⟨bb, fb, none⟩) b.length cb) rfl (by kernel_rfl) (by kernel_rfl) (by kernel_rfl) (fun _ _ _ h => h) (Or.inl ⟨by rfl, ?r⟩) hS ?_
      case r => intro W hW; simp [go_sem, execOp, Act.eval]
      simp only [List.getElem_toArray, List.getElem_cons_zero, List.getElem_cons_succ, Act.put, List.setIfInBounds_toArray, List.set_cons_succ, List.set_cons_zero]
      refine wpAnyH_take (i := 6) (v := .int .i64 k) rfl (by kernel_rfl) (by kernel_rfl) (by kernel_rfl) (fun _ _ _ h => h) (Or.inl ⟨by rfl, ?r⟩) hS ?_
      case r => intro W hW; simp [go_sem, execOp, Act.eval]
      simp only [List.getElem_toArray, List.getElem_cons_zero, List.getElem_cons_succ, Act.put, List.setIfInBounds_toArray, List.set_cons_succ, List.set_cons_zero]
      refine wpAnyH_take (i := 7) (v := .pointer (some ⟨bb, fb + k * 3, none⟩)) rfl (by kernel_rfl) (by kernel_rfl) (by kernel_rfl) (fun _ _ _ h => h) (Or.inl ⟨by rfl, ?r⟩) hS ?_
      case r => intro W hW; simp [go_sem, execOp, Act.eval, i3]
      simp only [List.getElem_toArray, List.getElem_cons_zero, List.getElem_cons_succ, Act.put, List.setIfInBounds_toArray, List.set_cons_succ, List.set_cons_zero]
      refine wpAnyH_take (i := 8) (v := .agg #[.int .i64 f.k, .int .i64 f.a, .string f.t]) rfl (by kernel_rfl) (by kernel_rfl) (by kernel_rfl) (fun _ _ _ h => h) (Or.inl ⟨by rfl, ?r⟩) hS ?_
      case r => intro W hW; simp [go_sem, execOp, Act.eval, hW]
      simp only [List.getElem_toArray, List.getElem_cons_zero, List.getElem_cons_succ, Act.put, List.setIfInBounds_toArray, List.set_cons_succ, List.set_cons_zero]
      refine wpAnyH_all (rs := [9]) (by kernel_rfl) (by simp) (fun i2 hi2 => ?_)
      obtain rfl : i2 = 9 := by simpa using hi2
      clear hi2
      refine wpOp_step rfl (fun K hK => ite_yes rfl ?_)
      simp only [List.getElem_toArray, List.getElem_cons_zero, List.getElem_cons_succ]
      go_simp
      have g4 := (hB4.block _ (by omega)).trans gr
      refine (alike_any e f w.heap.size W4 g4 v hv).mono ?_
      rintro _ W5 ⟨rfl, c5⟩
      go_simp
      have hB5 : Below wr.heap.size wr W5 := hB4.trans (c5.mono hB4.size)
      have hS5 : W5.cell? ⟨ba, fa + k * 3, none⟩ = some (.int .i64 e.k) ∧ W5.cell? ⟨ba, fa + k * 3 + 1, none⟩ = some (.int .i64 e.a) ∧ W5.cell? ⟨ba, fa + k * 3 + 2, none⟩ = some (.string e.t) ∧ W5.cell? ⟨bb, fb + k * 3, none⟩ = some (.int .i64 f.k) ∧ W5.cell? ⟨bb, fb + k * 3 + 1, none⟩ = some (.int .i64 f.a) ∧ W5.cell? ⟨bb, fb + k * 3 + 2, none⟩ = some (.string f.t) := (by rw [hB5.cell (p := ⟨ba, _, none⟩) hba, hB5.cell (p := ⟨ba, _, none⟩) hba, hB5.cell (p := ⟨ba, _, none⟩) hba, hB5.cell (p := ⟨bb, _, none⟩) hbb, hB5.cell (p := ⟨bb, _, none⟩) hbb, hB5.cell (p := ⟨bb, _, none⟩) hbb]; exact ⟨qa.1, qa.2.1, qa.2.2, qb⟩)
      refine hK _ _ ⟨hS5, ?_⟩
      clear hK K hS
      have hS := hS5
      refine wpAnyH_take (i := 10) (v := .bool (!v)) rfl (by kernel_rfl) (by kernel_rfl) (by kernel_rfl) (fun _ _ _ h => h) (Or.inl ⟨by rfl, ?r⟩) hS ?_
      case r => intro W hW; simp [go_sem, execOp, Act.eval]
      simp only [List.getElem_toArray, List.getElem_cons_zero, List.getElem_cons_succ, Act.put, List.setIfInBounds_toArray, List.set_cons_succ, List.set_cons_zero]
      refine wpAnyH_done (by kernel_rfl) ?_ _
      refine NoPanic.normal ?_
      try simp only [Act.put]
      have hBU : Below U.heap.size U W5 := hbr.trans (hB5.mono hyr)
      have HE : Hid (Below w.heap.size w W5) := u0.trans (hBU.mono (Nat.le_of_lt y0))
      clear hS hS5 hB5 hB4 c5 qa qb g4 HW4 gr hwr hbr
      have HVV : Hid (e.same f = v) := hv
      clear hv
      cases v
      · simp only [Bool.not_false]
        go_wp2_with fail
        go_ret
        have hp := HP.out.2 HVV.out
        exact ⟨by rw [HD.out k hp.symm (fun _ => hk1)]; rfl, HE.out⟩
      · simp only [Bool.not_true]
        go_wp2_with fail
        have hp := HP.out.1 HVV.out
        go_roundw
        case rel => exact ⟨k + 1, by go_num, hk1, hk2, hp, hBU⟩
        case measure => simp [intOf]; omega
    · have hkm : k = b.length := by omega
      have hpk : pre a b = k := by omega
      have HE : Hid (Below w.heap.size w wr) := hwr
      have HZ : Hid (k = b.length ∧ pre a b = k) := ⟨hkm, hpk⟩
      clear hkm hpk gr hbr hwr
      by_cases hab : a.length = b.length
      · have i5 : (a.length : Int) = b.length := by omega
        have hd := HD2.out (by have := HZ.out; omega) hab
        have HD3 : Hid (diff a b = -1) := hd
        clear hd
        go_wp2_with fail
        go_ret
        exact ⟨by rw [HD3.out]; rfl, HE.out⟩
      · have i5 : ¬ (a.length : Int) = b.length := by omega
        have HD3 : Hid (diff a b = (b.length : Nat)) := HD.out _ (by have := HZ.out; omega) (fun q => absurd q hab)
        go_wp2_with fail
        go_ret
        exact ⟨by rw [HD3.out]; rfl, HE.out⟩

set_option maxRecDepth 100000 in
set_option maxHeartbeats 4000000 in
theorem differ_r (a b : List Ev) (pa pb : Option Addr) (ca cb : Nat) (w : World) (ha : EvsAt w pa a) (hb : EvsAt w pb b) (hla : a.length ≤ maxLen) (hlb : b.length ≤ maxLen) (hle : a.length ≤ b.length) :
    Calls Tryd.prog 10 #[.slice pa a.length ca, .slice pb b.length cb] w fun r w' => r = .returned (.int .i64 (diff a b)) ∧ Below w.heap.size w w' := by
  unfold maxLen at hla hlb
  have hpl := pre_le a b
  have HD : Hid (∀ n : Nat, n = pre a b → (a.length = b.length → n < a.length) → diff a b = n) := fun n h1 h2 => by
    unfold diff; rw [if_neg (fun q => by have := h2 q.2; omega), h1]
  have HD2 : Hid (pre a b = a.length → a.length = b.length → diff a b = -1) := fun h1 h2 => by unfold diff; rw [if_pos ⟨h1, h2⟩]
  go_enter Tryd.func10, Tryd.ntmps10
  go_wp2_with fail
  refine (likenesses_any _).mono ?_
  rintro _ U ⟨rfl, hU⟩
  have u0 : Below w.heap.size w U := by rw [hU]; exact below1 w _
  have g0 : U.heap[w.heap.size]? = some (.cells #[.func (.func 29) #[] #[], .func (.func 30) #[] #[], .func (.func 31) #[] #[]] 62) := by rw [hU]; exact heap_alloc_new _ _
  have y0 : w.heap.size < U.heap.size := heap_lt g0
  clear hU
  have HA : Hid (EvsAt U pa a) := ha.below u0 (Nat.le_refl _)
  have HB : Hid (EvsAt U pb b) := hb.below u0 (Nat.le_refl _)
  clear ha hb
  go_wp2_with fail
  go_loopw [15] (fun i wr => DRel a b U i wr) (fun i _ => a.length - (intOf i).toNat)
  case atStart => exact ⟨0, rfl, Nat.zero_le _, Nat.zero_le _, Nat.zero_le _, Below.refl _ _⟩
  case round =>
    obtain ⟨k, rfl, hka, hkb, hkp, hbr⟩ := hrel
    have hwr : Below w.heap.size w wr := u0.trans (hbr.mono (Nat.le_of_lt y0))
    have gr := (hbr.block _ y0).trans g0
    by_cases hlt : k < a.length
    · have hk1 : k < a.length := by omega
      have hk2 : k < b.length := by omega
      have i2 : (k : Int) < a.length := by omega
      have i3 : (k : Int) < b.length := by omega
      have HP : Hid _ := pre_step a b k hkp hk1 hk2
      obtain ⟨ba, fa, rfl, hba, hca⟩ := (HA.out.below hbr (Nat.le_refl _)).nonempty (by omega)
      obtain ⟨bb, fb, rfl, hbb, hcb⟩ := (HB.out.below hbr (Nat.le_refl _)).nonempty (by omega)
      have qa := hca k hk1
      have qb := hcb k hk2
      clear hca hcb
      generalize a[k] = e at qa HP
      generalize b[k] = f at qb HP
      obtain ⟨v, hv⟩ : ∃ v, e.same f = v := ⟨_, rfl⟩
      have hyr := hbr.size
      have kk1 : (k : Int) + 1 ≤ 9223372036854775807 := by omega
      go_wp2_with fail
      refine wp_region_noPanic ?_
      refine wp_region_held (S := fun W => W.cell? ⟨ba, fa + k * 3, none⟩ = some (.int .i64 e.k) ∧ W.cell? ⟨ba, fa + k * 3 + 1, none⟩ = some (.int .i64 e.a) ∧ W.cell? ⟨ba, fa + k * 3 + 2, none⟩ = some (.string e.t) ∧ W.cell? ⟨bb, fb + k * 3, none⟩ = some (.int .i64 f.k) ∧ W.cell? ⟨bb, fb + k * 3 + 1, none⟩ = some (.int .i64 f.a) ∧ W.cell? ⟨bb, fb + k * 3 + 2, none⟩ = some (.string f.t)) (by kernel_rfl) ?_
      obtain ⟨W4, hW4⟩ : ∃ W4, W4 = (wr).drew := ⟨_, rfl⟩
      have e4 : ({ wr with drawn := (wr).drawn + 1 } : World) = W4 := hW4.symm
      rw [e4]
      have hB4 : Below (wr).heap.size (wr) W4 := by rw [hW4]; exact (Below.refl _ _).drew
      have hS : W4.cell? ⟨ba, fa + k * 3, none⟩ = some (.int .i64 e.k) ∧ W4.cell? ⟨ba, fa + k * 3 + 1, none⟩ = some (.int .i64 e.a) ∧ W4.cell? ⟨ba, fa + k * 3 + 2, none⟩ = some (.string e.t) ∧ W4.cell? ⟨bb, fb + k * 3, none⟩ = some (.int .i64 f.k) ∧ W4.cell? ⟨bb, fb + k * 3 + 1, none⟩ = some (.int .i64 f.a) ∧ W4.cell? ⟨bb, fb + k * 3 + 2, none⟩ = some (.string f.t) := (by rw [hB4.cell (p := ⟨ba, _, none⟩) hba, hB4.cell (p := ⟨ba, _, none⟩) hba, hB4.cell (p := ⟨ba, _, none⟩) hba, hB4.cell (p := ⟨bb, _, none⟩) hbb, hB4.cell (p := ⟨bb, _, none⟩) hbb, hB4.cell (p := ⟨bb, _, none⟩) hbb]; exact ⟨qa.1, qa.2.1, qa.2.2, qb⟩)
      have HW4 : Hid (W4 = (wr).drew) := hW4
      clear e4 hW4
      refine wpAnyH_take (i := 0) (v := .slice (some ⟨w.heap.size, 0, none⟩) 3 3) rfl (by kernel_rfl) (by kernel_rfl) (by kernel_rfl) (fun _ _ _ h => h) (Or.inl ⟨by rfl, ?r⟩) hS ?_
      case r => intro W hW; simp [go_sem, execOp, Act.eval]
      simp only [List.getElem_toArray, List.getElem_cons_zero, Act.put, List.setIfInBounds_toArray, List.set_cons_succ, List.set_cons_zero]
      refine wpAnyH_take (i := 1) (v := .slice (some ⟨ba, fa, none⟩) a.length ca) rfl (by kernel_rfl) (by kernel_rfl) (by kernel_rfl) (fun _ _ _ h => h) (Or.inl ⟨by rfl, ?r⟩) hS ?_
      case r => intro W hW; simp [go_sem, execOp, Act.eval]
      simp only [List.getElem_toArray, List.getElem_cons_zero, List.getElem_cons_succ, Act.put, List.setIfInBounds_toArray, List.set_cons_succ, List.set_cons_zero]
      refine wpAnyH_take (i := 2) (v := .int .i64 k) rfl (by kernel_rfl) (by kernel_rfl) (by kernel_rfl) (fun _ _ _ h => h) (Or.inl ⟨by rfl, ?r⟩) hS ?_
      case r => intro W hW; simp [go_sem, execOp, Act.eval]
      simp only [List.getElem_toArray, List.getElem_cons_zero, List.getElem_cons_succ, Act.put, List.setIfInBounds_toArray, List.set_cons_succ, List.set_cons_zero]
      refine wpAnyH_take (i := 3) (v := .pointer (some ⟨ba, fa + k * 3, none⟩)) rfl (by kernel_rfl) (by kernel_rfl) (by kernel_rfl) (fun _ _ _ h => h) (Or.inl ⟨by rfl, ?r⟩) hS ?_
      case r => intro W hW; simp [go_sem, execOp, Act.eval, i2]
      simp only [List.getElem_toArray, List.getElem_cons_zero, List.getElem_cons_succ, Act.put, List.setIfInBounds_toArray, List.set_cons_succ, List.set_cons_zero]
      refine wpAnyH_take (i := 4) (v := .agg #[.int .i64 e.k, .int .i64 e.a, .string e.t]) rfl (by kernel_rfl) (by kernel_rfl) (by kernel_rfl) (fun _ _ _ h => h) (Or.inl ⟨by rfl, ?r⟩) hS ?_
      case r => intro W hW; simp [go_sem, execOp, Act.eval, hW]
      simp only [List.getElem_toArray, List.getElem_cons_zero, List.getElem_cons_succ, Act.put, List.setIfInBounds_toArray, List.set_cons_succ, List.set_cons_zero]
      refine wpAnyH_take (i := 5) (v := .slice (some ⟨bb, fb, none⟩) b.length cb) rfl (by kernel_rfl) (by kernel_rfl) (by kernel_rfl) (fun _ _ _ h => h) (Or.inl ⟨by rfl, ?r⟩) hS ?_
      case r => intro W hW; simp [go_sem, execOp, Act.eval]
      simp only [List.getElem_toArray, List.getElem_cons_zero, List.getElem_cons_succ, Act.put, List.setIfInBounds_toArray, List.set_cons_succ, List.set_cons_zero]
      refine wpAnyH_take (i := 6) (v := .int .i64 k) rfl (by kernel_rfl) (by kernel_rfl) (by kernel_rfl) (fun _ _ _ h => h) (Or.inl ⟨by rfl, ?r⟩) hS ?_
      case r => intro W hW; simp [go_sem, execOp, Act.eval]
      simp only [List.getElem_toArray, List.getElem_cons_zero, List.getElem_cons_succ, Act.put, List.setIfInBounds_toArray, List.set_cons_succ, List.set_cons_zero]
      refine wpAnyH_take (i := 7) (v := .pointer (some ⟨bb, fb + k * 3, none⟩)) rfl (by kernel_rfl) (by kernel_rfl) (by kernel_rfl) (fun _ _ _ h => h) (Or.inl ⟨by rfl, ?r⟩) hS ?_
      case r => intro W hW; simp [go_sem, execOp, Act.eval, i3]
      simp only [List.getElem_toArray, List.getElem_cons_zero, List.getElem_cons_succ, Act.put, List.setIfInBounds_toArray, List.set_cons_succ, List.set_cons_zero]
      refine wpAnyH_take (i := 8) (v := .agg #[.int .i64 f.k, .int .i64 f.a, .string f.t]) rfl (by kernel_rfl) (by kernel_rfl) (by kernel_rfl) (fun _ _ _ h => h) (Or.inl ⟨by rfl, ?r⟩) hS ?_
      case r => intro W hW; simp [go_sem, execOp, Act.eval, hW]
      simp only [List.getElem_toArray, List.getElem_cons_zero, List.getElem_cons_succ, Act.put, List.setIfInBounds_toArray, List.set_cons_succ, List.set_cons_zero]
      refine wpAnyH_all (rs := [9]) (by kernel_rfl) (by simp) (fun i2 hi2 => ?_)
      obtain rfl : i2 = 9 := by simpa using hi2
      clear hi2
      refine wpOp_step rfl (fun K hK => ite_yes rfl ?_)
      simp only [List.getElem_toArray, List.getElem_cons_zero, List.getElem_cons_succ]
      go_simp
      have g4 := (hB4.block _ (by omega)).trans gr
      refine (alike_any e f w.heap.size W4 g4 v hv).mono ?_
      rintro _ W5 ⟨rfl, c5⟩
      go_simp
      have hB5 : Below wr.heap.size wr W5 := hB4.trans (c5.mono hB4.size)
      have hS5 : W5.cell? ⟨ba, fa + k * 3, none⟩ = some (.int .i64 e.k) ∧ W5.cell? ⟨ba, fa + k * 3 + 1, none⟩ = some (.int .i64 e.a) ∧ W5.cell? ⟨ba, fa + k * 3 + 2, none⟩ = some (.string e.t) ∧ W5.cell? ⟨bb, fb + k * 3, none⟩ = some (.int .i64 f.k) ∧ W5.cell? ⟨bb, fb + k * 3 + 1, none⟩ = some (.int .i64 f.a) ∧ W5.cell? ⟨bb, fb + k * 3 + 2, none⟩ = some (.string f.t) := (by rw [hB5.cell (p := ⟨ba, _, none⟩) hba, hB5.cell (p := ⟨ba, _, none⟩) hba, hB5.cell (p := ⟨ba, _, none⟩) hba, hB5.cell (p := ⟨bb, _, none⟩) hbb, hB5.cell (p := ⟨bb, _, none⟩) hbb, hB5.cell (p := ⟨bb, _, none⟩) hbb]; exact ⟨qa.1, qa.2.1, qa.2.2, qb⟩)
      refine hK _ _ ⟨hS5, ?_⟩
      clear hK K hS
      have hS := hS5
      refine wpAnyH_take (i := 10) (v := .bool (!v)) rfl (by kernel_rfl) (by kernel_rfl) (by kernel_rfl) (fun _ _ _ h => h) (Or.inl ⟨by rfl, ?r⟩) hS ?_
      case r => intro W hW; simp [go_sem, execOp, Act.eval]
      simp only [List.getElem_toArray, List.getElem_cons_zero, List.getElem_cons_succ, Act.put, List.setIfInBounds_toArray, List.set_cons_succ, List.set_cons_zero]
      refine wpAnyH_done (by kernel_rfl) ?_ _
      refine NoPanic.normal ?_
      try simp only [Act.put]
      have hBU : Below U.heap.size U W5 := hbr.trans (hB5.mono hyr)
      have HE : Hid (Below w.heap.size w W5) := u0.trans (hBU.mono (Nat.le_of_lt y0))
      clear hS hS5 hB5 hB4 c5 qa qb g4 HW4 gr hwr hbr
      have HVV : Hid (e.same f = v) := hv
      clear hv
      cases v
      · simp only [Bool.not_false]
        go_wp2_with fail
        go_ret
        have hp := HP.out.2 HVV.out
        exact ⟨by rw [HD.out k hp.symm (fun _ => hk1)]; rfl, HE.out⟩
      · simp only [Bool.not_true]
        go_wp2_with fail
        have hp := HP.out.1 HVV.out
        go_roundw
        case rel => exact ⟨k + 1, by go_num, hk1, hk2, hp, hBU⟩
        case measure => simp [intOf]; omega
    · have hkm : k = a.length := by omega
      have hpk : pre a b = k := by omega
      have HE : Hid (Below w.heap.size w wr) := hwr
      have HZ : Hid (k = a.length ∧ pre a b = k) := ⟨hkm, hpk⟩
      clear hkm hpk gr hbr hwr
      by_cases hab : a.length = b.length
      · have i5 : (a.length : Int) = b.length := by omega
        have hd := HD2.out (by have := HZ.out; omega) hab
        have HD3 : Hid (diff a b = -1) := hd
        clear hd
        go_wp2_with fail
        go_ret
        exact ⟨by rw [HD3.out]; rfl, HE.out⟩
      · have i5 : ¬ (a.length : Int) = b.length := by omega
        have HD3 : Hid (diff a b = (a.length : Nat)) := HD.out _ (by have := HZ.out; omega) (fun q => absurd q hab)
        go_wp2_with fail
        go_ret
        exact ⟨by rw [HD3.out]; rfl, HE.out⟩

/-- trace.Differ at any two lists. -/
theorem differ_any (a b : List Ev) (pa pb : Option Addr) (ca cb : Nat) (w : World) (ha : EvsAt w pa a) (hb : EvsAt w pb b) (hla : a.length ≤ maxLen) (hlb : b.length ≤ maxLen) :
    Calls Tryd.prog 10 #[.slice pa a.length ca, .slice pb b.length cb] w fun r w' => r = .returned (.int .i64 (diff a b)) ∧ Below w.heap.size w w' := by
  rcases Nat.lt_or_ge b.length a.length with h | h
  · exact differ_l a b pa pb ca cb w ha hb hla hlb h
  · exact differ_r a b pa pb ca cb w ha hb hla hlb h
end Go.Proofs.YtapakbibofnhkaaDoor
