/-
  .
-/
import Derived.Test.YtdbijkgnddcneaaGreatDoorMc
import Derived.Test.YtdbijkgnddcneaaGreatDoorIJ
import Derived.Test.YtdbijkgnddcneaaGreatDoorQaJ
import Derived.Test.YtdbijkgnddcneaaGreatDoorIa2J
namespace Go.Proofs.YtdbijkgnddcneaaGreatDoor
open Go.RowKit
set_option maxRecDepth 100000
set_option maxHeartbeats 4000000
theorem hang_raw (w : World) (m e hb L cap i : Nat) (h : Int) (cur : Array Value) (p : Option Addr) (kp vp nx bf bh g : Value) (h0 : 0 ≤ h) (h1 : h < 18446744073709551616) (L1 : 1 ≤ L) (Lm : L ≤ 1099511627776) (hm : w.cell? ⟨m, 0, none⟩ = some (.slice (some ⟨hb, 0, none⟩) L cap))
  (he : w.heap[e]? = some (.cells #[kp, vp, .int .u64 h, nx, bf, bh, g] 159 (0, 0))) (hh : w.heap[hb]? = some (.cells cur 254 (0, 0))) (hi : h % ((8 * L : Nat) : Int) = i) (hp : cur[i]? = some (.pointer p)) :
  Calls Tryz.prog 118 #[.pointer (some ⟨m, 0, none⟩), .pointer (some ⟨e, 0, none⟩)] w fun r w' => r = .returned (.tuple #[]) ∧ w' = (w.setCell ⟨e, 3, none⟩ (.pointer p)).setCell ⟨hb, i, none⟩ (.pointer (some ⟨e, 0, none⟩)) := by
 have HH : Hid (Calls Tryz.prog 117 #[.pointer (some ⟨m, 0, none⟩), .int .u64 h] w fun r w' => r = .returned (.pointer (some ⟨hb, i, none⟩)) ∧ w' = w) := by
  have := head_any w m hb L cap h h0 h1 L1 Lm hm
  rw [hi] at this
  exact this
 have hez := row_ltT he
 have hhz := row_ltT hh
 have hce : ∀ j, w.cell? ⟨e, j, none⟩ = (#[kp, vp, .int .u64 h, nx, bf, bh, g] : Array Value)[j]? := fun j => row_at he j
 have hfe := fun j => fz _ _ _ _ j he
 have hch : w.cell? ⟨hb, i, none⟩ = some (.pointer p) := (row_at hh i).trans hp
 have hfh := fun j => fz _ _ _ _ j hh
 have hne : e ≠ hb := fun q => by
  subst q
  rw [he] at hh
  injection hh with hh
  injection hh with _ hh
  exact absurd hh (by decide)
 clear he hh hi hp hm
 go_enter Tryz.func118, Tryz.ntmps118
 go_wp2_with (go_at_call 117; refine HH.out.mono ?_; rintro r w1 ⟨rfl, rfl⟩)
 exact bodyPost_end (v := .tuple #[]) (results_none rfl _ _ _) rfl ⟨rfl, rfl⟩
end Go.Proofs.YtdbijkgnddcneaaGreatDoor
