/-
  A float's bits, made.
-/
import Derived.Test.YtnhbpcmiolkllabDoorPa2
import Derived.Laws.Bits64
import Derived.Test.YtnhbpcmiolkllabDoorFl
namespace Go.Proofs.YtnhbpcmiolkllabDoor
open Go.RowKit

theorem and2047 (x : Int) (h0 : 0 ≤ x) (h1 : x ≤ 18446744073709551615) : bits .and .u64 x 2047 = x % 2048 := by
  obtain ⟨n, rfl⟩ : ∃ n : Nat, x = n := ⟨x.toNat, by omega⟩
  show IntKind.u64.wrap ((BitVec.ofInt 64 (n : Int) &&& BitVec.ofInt 64 2047).toNat : Int) = _
  have e1 : BitVec.ofInt 64 2047 = BitVec.ofNat 64 (2 ^ 11 - 1) := by decide
  rw [e1, BitVec.toNat_and, BitVec.toNat_ofInt, BitVec.toNat_ofNat]
  have e2 : ((n : Int) % ((2 ^ 64 : Nat) : Int)).toNat = n := by
    have : (n : Int) % ((2 ^ 64 : Nat) : Int) = n := by rw [show ((2 ^ 64 : Nat) : Int) = 18446744073709551616 by decide]; omega
    rw [this]; rfl
  rw [e2, Nat.mod_eq_of_lt (by decide : 2 ^ 11 - 1 < 2 ^ 64), Nat.and_two_pow_sub_one_eq_mod]
  simp [IntKind.wrap, IntKind.bits, IntKind.signed]
  omega

theorem and62 (x : Int) (h0 : 0 ≤ x) (h1 : x ≤ 18446744073709551615) : bits .and .u64 x 4611686018427387903 = x % 4611686018427387904 := by
  obtain ⟨n, rfl⟩ : ∃ n : Nat, x = n := ⟨x.toNat, by omega⟩
  show IntKind.u64.wrap ((BitVec.ofInt 64 (n : Int) &&& BitVec.ofInt 64 4611686018427387903).toNat : Int) = _
  have e1 : BitVec.ofInt 64 4611686018427387903 = BitVec.ofNat 64 (2 ^ 62 - 1) := by decide
  rw [e1, BitVec.toNat_and, BitVec.toNat_ofInt, BitVec.toNat_ofNat]
  have e2 : ((n : Int) % ((2 ^ 64 : Nat) : Int)).toNat = n := by
    have : (n : Int) % ((2 ^ 64 : Nat) : Int) = n := by rw [show ((2 ^ 64 : Nat) : Int) = 18446744073709551616 by decide]; omega
    rw [this]; rfl
  rw [e2, Nat.mod_eq_of_lt (by decide : 2 ^ 62 - 1 < 2 ^ 64), Nat.and_two_pow_sub_one_eq_mod]
  simp [IntKind.wrap, IntKind.bits, IntKind.signed]
  omega

/-- A float that may be. -/
def flOK (f : Int) : Bool := f == 9221120237041090561 || !isNan f.toNat
def nineU : Array Value := #[.int .u64 0, .int .u64 9223372036854775808, .int .u64 4607182418800017408, .int .u64 13830554455654793216, .int .u64 9218868437227405312, .int .u64 18442240474082181120, .int .u64 9221120237041090561, .int .u64 1, .int .u64 4613937818241073152]
theorem nineU_get (m : Nat) (h : m < 9) : ∃ v : Int, nineU[m]? = some (.int .u64 v) ∧ 0 ≤ v ∧ v ≤ 18446744073709551615 ∧ flOK v = true := by
  match m, h with
  | 0, _ => exact ⟨_, rfl, by decide, by decide, by decide⟩
  | 1, _ => exact ⟨_, rfl, by decide, by decide, by decide⟩
  | 2, _ => exact ⟨_, rfl, by decide, by decide, by decide⟩
  | 3, _ => exact ⟨_, rfl, by decide, by decide, by decide⟩
  | 4, _ => exact ⟨_, rfl, by decide, by decide, by decide⟩
  | 5, _ => exact ⟨_, rfl, by decide, by decide, by decide⟩
  | 6, _ => exact ⟨_, rfl, by decide, by decide, by decide⟩
  | 7, _ => exact ⟨_, rfl, by decide, by decide, by decide⟩
  | 8, _ => exact ⟨_, rfl, by decide, by decide, by decide⟩
theorem uwr (z : Int) : 0 ≤ IntKind.u64.wrap z ∧ IntKind.u64.wrap z ≤ 18446744073709551615 := by
  rw [IntKind.wrap_u64]; omega
theorem bits_range (op : BinOp) (x y : Int) : 0 ≤ bits op .u64 x y ∧ bits op .u64 x y ≤ 18446744073709551615 := uwr _
def FloatP (kb : Nat) (rp : Option Addr) (raw : List Int) (rc at_ : Nat) (w : World) (r : Ending) (w' : World) : Prop := ∃ (f : Int) (a' : Nat), r = .returned (.int .u64 f) ∧ 0 ≤ f ∧ f ≤ 18446744073709551615 ∧ flOK f = true ∧ a' ≤ at_ + 2 ∧ MakerAt w' kb rp raw rc a' ∧ Moved kb w w'
set_option maxRecDepth 100000 in
set_option maxHeartbeats 2000000 in
theorem float_any (kb : Nat) (rp : Option Addr) (raw : List Int) (rc at_ : Nat) (w : World) (hM : MakerAt w kb rp raw rc at_) (ha : at_ ≤ 99000) :
    Calls Tryd.prog 31 #[.pointer (some ⟨kb, 0, none⟩)] w (FloatP kb rp raw rc at_ w) := by
  have hk : kb < w.heap.size := (Array.getElem?_eq_some_iff.1 hM.row).1
  have HM : Hid (MakerAt w kb rp raw rc at_) := hM
  clear hM
  go_enter Tryd.func31, Tryd.ntmps31
  go_wp2_with fail
  refine (next_any kb rp raw rc at_ 12 _ (HM.out.below (below1 _ _)) (by omega) (by decide) (by decide)).mono ?_
  rintro r w2 ⟨c, rfl, c0, c1, hM2, hv2⟩
  obtain ⟨m, rfl⟩ : ∃ m : Nat, c = m := ⟨c.toNat, by omega⟩
  have hr2 : w2.heap[w.heap.size]? = some (.cells nineU 27 (0, 0)) := (hv2.block _ (by simp) (by omega)).trans (heap_alloc_new _ _)
  have HV : Hid (MakerAt w2 kb rp raw rc (at_ + 1) ∧ Moved kb w w2) := ⟨hM2, (Moved.of_below (below1 _ _)).trans hv2⟩
  clear hM2 hv2
  by_cases hlt : m < 9
  · have i1 : (m : Int) < 9 := by omega
    obtain ⟨v, hv, v0, v1, v2⟩ := nineU_get m hlt
    have hc := (row_at hr2 m).trans hv
    clear hr2 hv
    go_wp2_with fail
    go_ret
    exact ⟨v, at_ + 1, rfl, v0, v1, v2, by omega, HV.out.1, HV.out.2⟩
  · have i1 : ¬ (m : Int) < 9 := by omega
    clear hr2
    go_wp2_with fail
    refine (raw_any kb rp raw rc (at_ + 1) w2 HV.out.1 (by omega)).mono ?_
    rintro r w3 ⟨c2, rfl, d0, d1, hM3, hv3⟩
    have HV3 : Hid (MakerAt w3 kb rp raw rc (at_ + 1 + 1) ∧ Moved kb w w3) := ⟨hM3, HV.out.2.trans hv3⟩
    clear hM3 hv3
    go_wp2_with fail
    · go_ret
      refine ⟨_, at_ + 1 + 1, rfl, (bits_range _ _ _).1, (bits_range _ _ _).2, ?_, by omega, HV3.out.1, HV3.out.2⟩
      have hz := uwr c2
      rw [and62 _ (by omega) (by omega)]
      unfold flOK isNan
      simp only [Bool.or_eq_true, Bool.not_eq_true', decide_eq_false_iff_not]
      right; omega
    · have hq : (bits BinOp.and IntKind.u64 (IntKind.u64.wrap c2 / 4503599627370496) 2047 == 2047) = false := by assumption
      go_ret
      refine ⟨_, at_ + 1 + 1, rfl, (uwr _).1, (uwr _).2, ?_, by omega, HV3.out.1, HV3.out.2⟩
      have hz := uwr c2
      rw [and2047 _ (by omega) (by omega)] at hq
      have hq' : IntKind.u64.wrap c2 / 4503599627370496 % 2048 ≠ 2047 := by simpa using hq
      unfold flOK isNan
      simp only [Bool.or_eq_true, Bool.not_eq_true', decide_eq_false_iff_not]
      right; omega
end Go.Proofs.YtnhbpcmiolkllabDoor
