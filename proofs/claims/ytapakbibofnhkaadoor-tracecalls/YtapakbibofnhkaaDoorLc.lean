/-
  The law TraceCalls.
-/
import Derived.Test.YtapakbibofnhkaaDoorLd
import Derived.Test.YtapakbibofnhkaaDoorX
namespace Go.Proofs.YtapakbibofnhkaaDoor
open Go.RowKit Go.ChangeMaps

set_option maxRecDepth 100000 in
set_option maxHeartbeats 4000000 in
theorem callsLaw_any (l : List Ev) (pa : Option Addr) (ca : Nat) (w : World) (ha : EvsAt w pa l) (hl : l.length * 32 ≤ 140737488355328) (_hc : l.length ≤ ca) (htab : Tab w) :
    Calls Tryd.prog 5 #[.slice pa l.length ca] w fun r w' => r = .returned (.bool true) ∧ Below w.heap.size w w' := by
  have HA0 : Hid (EvsAt w pa l) := ha
  have HZ0 : Hid (Below w.heap.size w w) := Below.refl _ _
  have HTAB : Hid (Tab w) := htab
  obtain ⟨R, hR⟩ : ∃ R : ByteArray, (⟨(callsB l).toArray⟩ : ByteArray) = R := ⟨_, rfl⟩
  have HRR : Hid _ := hR
  clear ha htab hR
  go_enter Tryd.func5, Tryd.ntmps5
  go_wp2_with fail
  refine (examples_any _ HTAB.out).mono ?_
  rintro _ w1 ⟨rfl, b1⟩
  have HA1 : Hid (EvsAt w1 pa l) := (HA0.out).below b1 (Nat.le_refl _)
  have HZ1 : Hid (Below w.heap.size w w1) := HZ0.out.trans (b1.mono HZ0.out.size)
  clear b1
  go_wp2_with fail
  refine (lent_any l pa ca w1 HA1.out hl).mono ?_
  rintro _ w2 ⟨rfl, b2, hx⟩
  obtain ⟨gx, hgx⟩ : ∃ g, w1.heap.size = g := ⟨_, rfl⟩
  rw [hgx] at hx ⊢
  clear hgx
  have HX2 : Hid (w2.heap[gx]? = some (.cells (evCells (l ++ ends)).toArray 33)) := hx
  clear hx
  have HA2 : Hid (EvsAt w2 pa l) := (HA1.out).below b2 (Nat.le_refl _)
  have HZ2 : Hid (Below w.heap.size w w2) := HZ1.out.trans (b2.mono HZ1.out.size)
  clear b2
  go_wp2_with fail
  refine (calls_any l _ _ w2 (evs_lent HX2.out) hl (by omega) (HTAB.out.below HZ2.out (Nat.le_refl _))).mono ?_
  rintro _ w3 ⟨rfl, b3⟩
  rw [HRR.out]
  have HA3 : Hid (EvsAt w3 pa l) := (HA2.out).below b3 (Nat.le_refl _)
  have HX3 : Hid (w3.heap[gx]? = some (.cells (evCells (l ++ ends)).toArray 33)) := blk HX2.out b3
  have HZ3 : Hid (Below w.heap.size w w3) := HZ2.out.trans (b3.mono HZ2.out.size)
  clear b3
  go_wp2_with fail
  refine (refCalls_any l pa ca w3 HA3.out hl).mono ?_
  rintro _ w4 ⟨rfl, b4⟩
  rw [HRR.out]
  have HA4 : Hid (EvsAt w4 pa l) := (HA3.out).below b4 (Nat.le_refl _)
  have HX4 : Hid (w4.heap[gx]? = some (.cells (evCells (l ++ ends)).toArray 33)) := blk HX3.out b4
  have HZ4 : Hid (Below w.heap.size w w4) := HZ3.out.trans (b4.mono HZ3.out.size)
  clear b4
  go_wp2_with fail
  refine (still_any l pa ca gx w4 HA4.out hl HX4.out).mono ?_
  rintro _ w5 ⟨rfl, b5⟩
  have HZ5 : Hid (Below w.heap.size w w5) := HZ4.out.trans (b5.mono HZ4.out.size)
  clear b5
  go_wp2_with fail
  go_ret
  exact ⟨rfl, HZ5.out⟩
end Go.Proofs.YtapakbibofnhkaaDoor
