/-
  .
-/
import Derived.Test.YtdbijkgnddcneaaGreatDoorMaJ
import Derived.Deep.RegionWith
import Derived.BigRegion
namespace Go.Proofs.YtdbijkgnddcneaaGreatDoor
open Go.RowKit
set_option maxRecDepth 100000
set_option maxHeartbeats 4000000
theorem head_any (w : World) (m hb L cap : Nat) (h : Int) (h0 : 0 ≤ h) (h1 : h < 18446744073709551616) (L1 : 1 ≤ L) (Lm : L ≤ 1099511627776) (hc : w.cell? ⟨m, 0, none⟩ = some (.slice (some ⟨hb, 0, none⟩) L cap)) :
  Calls Tryz.prog 117 #[.pointer (some ⟨m, 0, none⟩), .int .u64 h] w fun r w' => r = .returned (.pointer (some ⟨hb, (h % (8 * L : Nat)).toNat, none⟩)) ∧ w' = w := by
 have e0 : h % ((8 * L : Nat) : Int) = h % ((L : Int) * 8) := by rw [Int.natCast_mul, Int.mul_comm]; rfl
 rw [e0]
 have z0 : 0 ≤ h % ((L : Int) * 8) := Int.emod_nonneg _ (by omega)
 have z1 : h % ((L : Int) * 8) < (L : Int) * 8 := Int.emod_lt_of_pos _ (by omega)
 obtain ⟨z, ez⟩ : ∃ z : Nat, h % ((L : Int) * 8) = z := ⟨(h % ((L : Int) * 8)).toNat, by omega⟩
 rw [ez] at z0 z1 ⊢
 have t1 : (z : Int).tdiv 8 = ((z / 8 : Nat) : Int) := by rw [Int.tdiv_eq_ediv_of_nonneg z0]; rfl
 have t2 : (z : Int).tmod 8 = ((z % 8 : Nat) : Int) := by rw [Int.tmod_eq_emod_of_nonneg z0]; rfl
 have q1 : ((z / 8 : Nat) : Int) < L := by omega
 have q2 : ((z % 8 : Nat) : Int) < 8 := by omega
 have q3 : z / 8 * 8 + z % 8 = z := by omega
 have q4 : IntKind.u64.wrap ((z / 8 : Nat) : Int) = ((z / 8 : Nat) : Int) := IntWalk.u64_in _ ⟨by omega, by omega⟩
 clear e0
 generalize z / 8 = q at *
 generalize z % 8 = r at *
 go_enter Tryz.func117, Tryz.ntmps117
 go_wp2_with fail
 go_ret
 exact ⟨rfl, rfl⟩
end Go.Proofs.YtdbijkgnddcneaaGreatDoor
