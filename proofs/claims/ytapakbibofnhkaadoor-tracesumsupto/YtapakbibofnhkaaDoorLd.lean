/-
  The law TraceDiffers.
-/
import Derived.Test.YtapakbibofnhkaaDoorEx
namespace Go.Proofs.YtapakbibofnhkaaDoor
open Go.RowKit Go.ChangeMaps

theorem evs_lent {w : World} {g : Nat} {l : List Ev} (h : w.heap[g]? = some (.cells (evCells (l ++ ends)).toArray 33)) : EvsAt w (some ⟨g, 0, none⟩) l := by
  have := (evs_block h).take l.length
  simpa using this
theorem blk {w w' : World} {g : Nat} {o : Obj} (h : w.heap[g]? = some o) (hb : Below w.heap.size w w') : w'.heap[g]? = some o := (hb.block _ (heap_lt h)).trans h

set_option maxRecDepth 100000 in
set_option maxHeartbeats 4000000 in
theorem differsLaw_any (a b : List Ev) (pa pb : Option Addr) (ca cb : Nat) (w : World) (ha : EvsAt w pa a) (hb : EvsAt w pb b) (hla : a.length * 32 ≤ 140737488355328) (hlb : b.length * 32 ≤ 140737488355328) (htab : Tab w) :
    Calls Tryd.prog 3 #[.slice pa a.length ca, .slice pb b.length cb] w fun r w' => r = .returned (.bool true) ∧ Below w.heap.size w w' := by
  have HA0 : Hid (EvsAt w pa a) := ha
  have HB0 : Hid (EvsAt w pb b) := hb
  have HZ0 : Hid (Below w.heap.size w w) := Below.refl _ _
  have HTAB : Hid (Tab w) := htab
  have hma : a.length ≤ maxLen := by unfold maxLen; omega
  have hmb : b.length ≤ maxLen := by unfold maxLen; omega
  obtain ⟨d, hd⟩ : ∃ d, diff a b = d := ⟨_, rfl⟩
  have HD : Hid (diff a b = d) := hd
  clear ha hb htab hd
  go_enter Tryd.func3, Tryd.ntmps3
  go_wp2_with fail
  refine (examples_any _ HTAB.out).mono ?_
  rintro _ w1 ⟨rfl, b1⟩
  have HA1 : Hid (EvsAt w1 pa a) := HA0.out.below b1 (Nat.le_refl _)
  have HB1 : Hid (EvsAt w1 pb b) := (HB0.out).below b1 (Nat.le_refl _)
  have HZ1 : Hid (Below w.heap.size w w1) := HZ0.out.trans (b1.mono HZ0.out.size)
  clear b1
  go_wp2_with fail
  refine (lent_any a pa ca w1 HA1.out hla).mono ?_
  rintro _ w2 ⟨rfl, b2, hx⟩
  obtain ⟨gx, hgx⟩ : ∃ g, w1.heap.size = g := ⟨_, rfl⟩
  rw [hgx] at hx ⊢
  clear hgx
  have HX2 : Hid (w2.heap[gx]? = some (.cells (evCells (a ++ ends)).toArray 33)) := hx
  clear hx
  have HA2 : Hid (EvsAt w2 pa a) := (HA1.out).below b2 (Nat.le_refl _)
  have HB2 : Hid (EvsAt w2 pb b) := (HB1.out).below b2 (Nat.le_refl _)
  have HZ2 : Hid (Below w.heap.size w w2) := HZ1.out.trans (b2.mono HZ1.out.size)
  clear b2
  go_wp2_with fail
  refine (lent_any b pb cb w2 HB2.out hlb).mono ?_
  rintro _ w3 ⟨rfl, b3, hy⟩
  obtain ⟨gy, hgy⟩ : ∃ g, w2.heap.size = g := ⟨_, rfl⟩
  rw [hgy] at hy ⊢
  clear hgy
  have HY3 : Hid (w3.heap[gy]? = some (.cells (evCells (b ++ ends)).toArray 33)) := hy
  clear hy
  have HA3 : Hid (EvsAt w3 pa a) := (HA2.out).below b3 (Nat.le_refl _)
  have HB3 : Hid (EvsAt w3 pb b) := (HB2.out).below b3 (Nat.le_refl _)
  have HX3 : Hid (w3.heap[gx]? = some (.cells (evCells (a ++ ends)).toArray 33)) := blk HX2.out b3
  have HZ3 : Hid (Below w.heap.size w w3) := HZ2.out.trans (b3.mono HZ2.out.size)
  clear b3
  go_wp2_with fail
  refine (refDiffer_any a b pa pb ca cb w3 HA3.out HB3.out hma hmb).mono ?_
  rintro _ w4 ⟨rfl, b4⟩
  rw [HD.out]
  have HA4 : Hid (EvsAt w4 pa a) := (HA3.out).below b4 (Nat.le_refl _)
  have HB4 : Hid (EvsAt w4 pb b) := (HB3.out).below b4 (Nat.le_refl _)
  have HX4 : Hid (w4.heap[gx]? = some (.cells (evCells (a ++ ends)).toArray 33)) := blk HX3.out b4
  have HY4 : Hid (w4.heap[gy]? = some (.cells (evCells (b ++ ends)).toArray 33)) := blk HY3.out b4
  have HZ4 : Hid (Below w.heap.size w w4) := HZ3.out.trans (b4.mono HZ3.out.size)
  clear b4
  go_wp2_with fail
  refine (differ_any a b _ _ _ _ w4 (evs_lent HX4.out) (evs_lent HY4.out) hma hmb).mono ?_
  rintro _ w5 ⟨rfl, b5⟩
  rw [HD.out]
  have HA5 : Hid (EvsAt w5 pa a) := (HA4.out).below b5 (Nat.le_refl _)
  have HB5 : Hid (EvsAt w5 pb b) := (HB4.out).below b5 (Nat.le_refl _)
  have HX5 : Hid (w5.heap[gx]? = some (.cells (evCells (a ++ ends)).toArray 33)) := blk HX4.out b5
  have HY5 : Hid (w5.heap[gy]? = some (.cells (evCells (b ++ ends)).toArray 33)) := blk HY4.out b5
  have HZ5 : Hid (Below w.heap.size w w5) := HZ4.out.trans (b5.mono HZ4.out.size)
  clear b5
  go_wp2_with fail
  refine (differ_any b a _ _ _ _ w5 (evs_lent HY5.out) (evs_lent HX5.out) hmb hma).mono ?_
  rintro _ w6 ⟨rfl, b6⟩
  rw [diff_comm b a, HD.out]
  have HA6 : Hid (EvsAt w6 pa a) := (HA5.out).below b6 (Nat.le_refl _)
  have HB6 : Hid (EvsAt w6 pb b) := (HB5.out).below b6 (Nat.le_refl _)
  have HX6 : Hid (w6.heap[gx]? = some (.cells (evCells (a ++ ends)).toArray 33)) := blk HX5.out b6
  have HY6 : Hid (w6.heap[gy]? = some (.cells (evCells (b ++ ends)).toArray 33)) := blk HY5.out b6
  have HZ6 : Hid (Below w.heap.size w w6) := HZ5.out.trans (b6.mono HZ5.out.size)
  clear b6
  go_wp2_with fail
  refine (still_any a pa ca gx w6 HA6.out hla HX6.out).mono ?_
  rintro _ w7 ⟨rfl, b7⟩
  have HB7 : Hid (EvsAt w7 pb b) := (HB6.out).below b7 (Nat.le_refl _)
  have HY7 : Hid (w7.heap[gy]? = some (.cells (evCells (b ++ ends)).toArray 33)) := blk HY6.out b7
  have HZ7 : Hid (Below w.heap.size w w7) := HZ6.out.trans (b7.mono HZ6.out.size)
  clear b7
  go_wp2_with fail
  refine (still_any b pb cb gy w7 HB7.out hlb HY7.out).mono ?_
  rintro _ w8 ⟨rfl, b8⟩
  have HZ8 : Hid (Below w.heap.size w w8) := HZ7.out.trans (b8.mono HZ7.out.size)
  clear b8
  go_wp2_with fail
  go_ret
  exact ⟨rfl, HZ8.out⟩
end Go.Proofs.YtapakbibofnhkaaDoor
