/-
  A float's whole part, by its bits.
-/
import Derived.Test.YtoplmbboaobahaaDoorY
namespace Go.Proofs.YtoplmbboaobahaaDoor
open Go.RowKit

/-- A float's exponent and mantissa, by its bits. -/
def eW (f : Nat) : Nat := f / 4503599627370496 % 2048
def mW (f : Nat) : Nat := f % 4503599627370496 + 4503599627370496
def magW (f : Nat) : Nat := if eW f ≤ 1075 then mW f / 2 ^ (1075 - eW f) else mW f * 2 ^ (eW f - 1075)
/-- Its whole part, or the least int. -/
def wv (f : Nat) : Int := if eW f = 2047 ∨ 1086 < eW f ∨ 9223372036854775808 ≤ magW f then -9223372036854775808 else if f / 9223372036854775808 = 1 then -(magW f : Int) else (magW f : Int)

theorem or52 (n : Nat) (h : n < 4503599627370496) : bits .or .u64 (n : Int) 4503599627370496 = ((n + 4503599627370496 : Nat) : Int) := by
  show IntKind.u64.wrap ((BitVec.ofInt 64 (n : Int) ||| BitVec.ofInt 64 4503599627370496).toNat : Int) = _
  have e1 : BitVec.ofInt 64 4503599627370496 = BitVec.ofNat 64 (2 ^ 52) := by decide
  rw [e1, BitVec.toNat_or, BitVec.toNat_ofInt, BitVec.toNat_ofNat]
  have e2 : ((n : Int) % ((2 ^ 64 : Nat) : Int)).toNat = n := by
    have : (n : Int) % ((2 ^ 64 : Nat) : Int) = n := by rw [show ((2 ^ 64 : Nat) : Int) = 18446744073709551616 by decide]; omega
    rw [this]; rfl
  have e3 := Nat.two_pow_add_eq_or_of_lt (i := 52) (b := n) (by omega) 1
  rw [e2, Nat.mod_eq_of_lt (by decide : 2 ^ 52 < 2 ^ 64), Nat.or_comm, show 2 ^ 52 = 2 ^ 52 * 1 from rfl, ← e3]
  simp [IntKind.wrap, IntKind.bits, IntKind.signed]
  omega

theorem half_next (m j : Nat) : m / 2 ^ j / 2 = m / 2 ^ (j + 1) := by rw [Nat.div_div_eq_div_mul, Nat.pow_succ]

set_option maxRecDepth 100000 in
set_option maxHeartbeats 2000000 in
theorem refWhole_any (f : Nat) (w : World) (hf : f < 18446744073709551616) :
    Calls Tryd.prog 58 #[.int .u64 f] w fun r w' => r = .returned (.int .i64 (wv f)) ∧ w' = w := by
  obtain ⟨E, hE⟩ : ∃ E, E = eW f := ⟨_, rfl⟩
  obtain ⟨M, hM⟩ : ∃ M, M = mW f := ⟨_, rfl⟩
  have hM1 : 4503599627370496 ≤ M ∧ M < 9007199254740992 := by rw [hM]; unfold mW; omega
  have hE1 : E < 2048 := by rw [hE]; unfold eW; omega
  have a1 : bits .and .u64 ((f : Int) / 4503599627370496) 2047 = (E : Int) := by
    rw [and2047 _ (by omega) (by omega), hE]; unfold eW; omega
  have w1 : IntKind.u64.wrap ((f : Int) * 4096) / 4096 = (f : Int) % 4503599627370496 := by
    simp [IntKind.wrap, IntKind.bits, IntKind.signed]; omega
  have o1 : bits .or .u64 ((f : Int) % 4503599627370496) 4503599627370496 = (M : Int) := by rw [show (f : Int) % 4503599627370496 = ((f % 4503599627370496 : Nat) : Int) by omega, or52 _ (by omega), hM]; rfl
  have HV : Hid (wv f = if E = 2047 ∨ 1086 < E ∨ 9223372036854775808 ≤ magW f then -9223372036854775808 else if f / 9223372036854775808 = 1 then -(magW f : Int) else (magW f : Int)) := by rw [hE]; rfl
  have HG : Hid (magW f = if E ≤ 1075 then M / 2 ^ (1075 - E) else M * 2 ^ (E - 1075)) := by rw [hE, hM]; rfl
  generalize magW f = G at HV HG
  generalize wv f = V at HV ⊢
  clear hE hM
  by_cases hE2 : E = 2047
  · have HW : Hid (V = -9223372036854775808) := by rw [HV.out, if_pos (.inl hE2)]; exact rfl
    have hEI : ((E : Int) == 2047) = true := by rw [hE2]; rfl
    clear hE2
    go_enter Tryd.func58, Tryd.ntmps58
    go_wp2
    go_ret
    exact ⟨by rw [HW.out]; rfl, rfl⟩
  · have hEI : ((E : Int) == 2047) = false := by simp; omega
    by_cases hE3 : 1086 < E
    · have hgt : (11 : Int) < (E : Int) - 1075 := by omega
      have HW : Hid (V = -9223372036854775808) := by rw [HV.out, if_pos (.inr (.inl hE3))]; exact rfl
      go_enter Tryd.func58, Tryd.ntmps58
      go_wp2
      go_ret
      exact ⟨by rw [HW.out]; rfl, rfl⟩
    · have hgt : ¬ (11 : Int) < (E : Int) - 1075 := by omega
      by_cases hlo : E ≤ 1075
      · have HG2 : Hid (G = M / 2 ^ (1075 - E)) := by rw [HG.out, if_pos hlo]; exact rfl
        go_enter Tryd.func58, Tryd.ntmps58
        go_wp2
        go_loop [3, 4] (fun ev mv => ∃ (j X : Nat), j ≤ 1075 - E ∧ ev = .int .i64 ((E : Int) - 1075 + j) ∧ mv = .int .u64 X ∧ X < 9007199254740992 ∧ Hid (X = M / 2 ^ j)) (fun ev _ => (-(intOf ev)).toNat)
        case atStart => exact ⟨0, M, Nat.zero_le _, by congr 1; omega, rfl, hM1.2, by show M = _; simp⟩
        case round =>
          obtain ⟨j, X, hj, rfl, rfl, hX, HX⟩ := hrel
          by_cases hlt : j < 1075 - E
          · have hneg : (E : Int) - 1075 + j < 0 := by omega
            go_wp2
            refine ⟨⟨j + 1, X / 2, by omega, by go_num, by go_num, by omega, ?_⟩, by simp [intOf]; omega⟩
            show _ = _
            rw [HX.out, half_next]
          · have hz : (E : Int) - 1075 + j = 0 := by omega
            have HXG : Hid (X = G) := by show _ = _; rw [HX.out, HG2.out, show j = 1075 - E by omega]
            rw [hz]
            obtain rfl := HXG.out
            clear HX HXG hz hlt hj
            go_wp2
            go_loop [3, 4] (fun ev mv => ev = .int .i64 0 ∧ mv = .int .u64 (X : Int)) (fun _ _ => 0)
            case atStart => exact ⟨rfl, rfl⟩
            case round =>
              obtain ⟨rfl, rfl⟩ := hrel
              by_cases hbig : 9223372036854775808 ≤ X
              · have hbI : (9223372036854775808 : Int) ≤ (X : Int) := by omega
                have HW : Hid (V = -9223372036854775808) := by rw [HV.out, if_pos (.inr (.inr hbig))]; exact rfl
                go_wp2
                go_ret
                exact ⟨by rw [HW.out]; rfl, rfl⟩
              · have hbI : ¬ (9223372036854775808 : Int) ≤ (X : Int) := by omega
                by_cases hsg : f / 9223372036854775808 = 1
                · have hsI : (f : Int) / 9223372036854775808 = 1 := by omega
                  have HW : Hid (V = -(X : Int)) := by rw [HV.out, if_neg (by omega), if_pos hsg]; exact rfl
                  go_wp2
                  go_ret
                  exact ⟨by rw [HW.out]; rfl, rfl⟩
                · have hsI : ((f : Int) / 9223372036854775808 == 1) = false := by simp; omega
                  have HW : Hid (V = (X : Int)) := by rw [HV.out, if_neg (by omega), if_neg hsg]; exact rfl
                  go_wp2
                  go_ret
                  exact ⟨by rw [HW.out]; rfl, rfl⟩
      · have HG2 : Hid (G = M * 2 ^ (E - 1075)) := by rw [HG.out, if_neg hlo]; exact rfl
        go_enter Tryd.func58, Tryd.ntmps58
        go_wp2
        go_loop [3, 4] (fun ev mv => ev = .int .i64 ((E : Int) - 1075) ∧ mv = .int .u64 (M : Int)) (fun _ _ => 0)
        case atStart => exact ⟨rfl, rfl⟩
        case round =>
          obtain ⟨rfl, rfl⟩ := hrel
          have hpos : ¬ (E : Int) - 1075 < 0 := by omega
          go_wp2
          go_loop [3, 4] (fun ev mv => ∃ (j X : Nat), j ≤ E - 1075 ∧ ev = .int .i64 ((E : Int) - 1075 - j) ∧ mv = .int .u64 X ∧ Hid (X * 2 ^ (11 - j) = M * 2048) ∧ Hid (X = M * 2 ^ j)) (fun ev _ => (intOf ev).toNat)
          case atStart => exact ⟨0, M, Nat.zero_le _, by congr 1; omega, rfl, rfl, by show M = _; simp⟩
          case round =>
            obtain ⟨j, X, hj, rfl, rfl, HB, HX⟩ := hrel
            by_cases hlt : j < E - 1075
            · have hgt0 : (0 : Int) < (E : Int) - 1075 - j := by omega
              have hx63 : X < 9223372036854775808 := by
                have h1 : X * 2 ≤ X * 2 ^ (11 - j) := Nat.mul_le_mul_left _ (by rw [show 11 - j = (10 - j) + 1 by omega, Nat.pow_succ]; have := Nat.one_le_two_pow (n := 10 - j); omega)
                have h2 := HB.out
                omega
              have hxI : ¬ (9223372036854775808 : Int) ≤ (X : Int) := by omega
              have hwr : IntKind.u64.wrap ((X : Int) * 2) = ((X * 2 : Nat) : Int) := by simp [IntKind.wrap, IntKind.bits, IntKind.signed]; omega
              go_wp2
              refine ⟨⟨j + 1, X * 2, by omega, by go_num, by go_num, ?_, ?_⟩, by simp [intOf]; omega⟩
              · show _ = _
                rw [← HB.out, Nat.mul_assoc, show 11 - j = (11 - (j + 1)) + 1 by omega, Nat.pow_succ, Nat.mul_comm 2]
              · show _ = _
                rw [HX.out, Nat.pow_succ, Nat.mul_assoc]
            · have hz : (E : Int) - 1075 - j = 0 := by omega
              have HXG : Hid (X = G) := by show _ = _; rw [HX.out, HG2.out, show j = E - 1075 by omega]
              rw [hz]
              obtain rfl := HXG.out
              clear HXG hz hlt hj
              by_cases hbig : 9223372036854775808 ≤ X
              · have hbI : (9223372036854775808 : Int) ≤ (X : Int) := by omega
                have HW : Hid (V = -9223372036854775808) := by rw [HV.out, if_pos (.inr (.inr hbig))]; exact rfl
                go_wp2
                go_ret
                exact ⟨by rw [HW.out]; rfl, rfl⟩
              · have hbI : ¬ (9223372036854775808 : Int) ≤ (X : Int) := by omega
                by_cases hsg : f / 9223372036854775808 = 1
                · have hsI : (f : Int) / 9223372036854775808 = 1 := by omega
                  have HW : Hid (V = -(X : Int)) := by rw [HV.out, if_neg (by omega), if_pos hsg]; exact rfl
                  go_wp2
                  go_ret
                  exact ⟨by rw [HW.out]; rfl, rfl⟩
                · have hsI : ((f : Int) / 9223372036854775808 == 1) = false := by simp; omega
                  have HW : Hid (V = (X : Int)) := by rw [HV.out, if_neg (by omega), if_neg hsg]; exact rfl
                  go_wp2
                  go_ret
                  exact ⟨by rw [HW.out]; rfl, rfl⟩
end Go.Proofs.YtoplmbboaobahaaDoor
