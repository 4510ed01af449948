/-
  .
  .
  .
  .
-/
import Derived.Test.YtdbijkgnddcneaaGreatDoorCoJ
import Derived.BigQuiet
namespace Go.Proofs.YtdbijkgnddcneaaGreatDoor
open Go.RowKit
set_option maxRecDepth 100000
set_option maxHeartbeats 1000000
attribute [local go_sem] refold2 cell3_0 cell3_1 b28_0 b28_01
theorem belowN1 (w : World) (a : Obj) (n : Nat) : Below w.heap.size w ((w.alloc a).drewN n) := (below1 w a).trans ⟨rfl, rfl, rfl, Nat.le_refl _, fun _ _ => rfl⟩
theorem NamesAt.drewN {w : World} (h : NamesAt w) (n : Nat) : NamesAt (w.drewN n) := ⟨h.cells, h.lt⟩
theorem rightType_1 (t : ByteArray) (a f : Int) (s : ByteArray) (r0 r1 r2 r3 : Int) (p i : Value) (w : World) (hN : NamesAt w) :
  Calls Tryz.prog 93 #[D 1 t a f s r0 r1 r2 r3 p i] w fun r w' => r = .returned (.bool (t.toList == [98, 111, 111, 108] || declB t)) ∧ Below w.heap.size w w' := by
 have n : w.cell? ⟨0, 1, none⟩ = some (.string ⟨#[98, 111, 111, 108]⟩) := hN.cells 1
 have hl := hN.lt
 simp only [D]
 go_enter Tryz.func93, Tryz.ntmps93
 go_wp2_with fail
 go_quiet (fail)
 go_wp2_with (go_at_call 140; refine (declared_any _ _ ((hN.kept (below1 _ _)).drewN _)).mono ?_; rintro r w' ⟨rfl, rfl⟩)
 all_goals (go_ret; refine ⟨?_, belowN1 _ _ _⟩; simp_all)
theorem rightType_2 (t : ByteArray) (a f : Int) (s : ByteArray) (r0 r1 r2 r3 : Int) (p i : Value) (w : World) (hN : NamesAt w) :
  Calls Tryz.prog 93 #[D 2 t a f s r0 r1 r2 r3 p i] w fun r w' => r = .returned (.bool (t.toList == [105, 110, 116] || declB t)) ∧ Below w.heap.size w w' := by
 have n : w.cell? ⟨0, 2, none⟩ = some (.string ⟨#[105, 110, 116]⟩) := hN.cells 2
 have hl := hN.lt
 simp only [D]
 go_enter Tryz.func93, Tryz.ntmps93
 go_wp2_with fail
 go_quiet (fail)
 go_wp2_with (go_at_call 140; refine (declared_any _ _ ((hN.kept (below1 _ _)).drewN _)).mono ?_; rintro r w' ⟨rfl, rfl⟩)
 all_goals (go_ret; refine ⟨?_, belowN1 _ _ _⟩; simp_all)
theorem rightType_3 (t : ByteArray) (a f : Int) (s : ByteArray) (r0 r1 r2 r3 : Int) (p i : Value) (w : World) (hN : NamesAt w) :
  Calls Tryz.prog 93 #[D 3 t a f s r0 r1 r2 r3 p i] w fun r w' => r = .returned (.bool (t.toList == [102, 108, 111, 97, 116] || declB t)) ∧ Below w.heap.size w w' := by
 have n : w.cell? ⟨0, 3, none⟩ = some (.string ⟨#[102, 108, 111, 97, 116]⟩) := hN.cells 3
 have hl := hN.lt
 simp only [D]
 go_enter Tryz.func93, Tryz.ntmps93
 go_wp2_with fail
 go_quiet (fail)
 go_wp2_with (go_at_call 140; refine (declared_any _ _ ((hN.kept (below1 _ _)).drewN _)).mono ?_; rintro r w' ⟨rfl, rfl⟩)
 all_goals (go_ret; refine ⟨?_, belowN1 _ _ _⟩; simp_all)
theorem rightType_4 (t : ByteArray) (a f : Int) (s : ByteArray) (r0 r1 r2 r3 : Int) (p i : Value) (w : World) (hN : NamesAt w) :
  Calls Tryz.prog 93 #[D 4 t a f s r0 r1 r2 r3 p i] w fun r w' => r = .returned (.bool (t.toList == [116, 101, 120, 116] || declB t)) ∧ Below w.heap.size w w' := by
 have n : w.cell? ⟨0, 4, none⟩ = some (.string ⟨#[116, 101, 120, 116]⟩) := hN.cells 4
 have hl := hN.lt
 simp only [D]
 go_enter Tryz.func93, Tryz.ntmps93
 go_wp2_with fail
 go_quiet (fail)
 go_wp2_with (go_at_call 140; refine (declared_any _ _ ((hN.kept (below1 _ _)).drewN _)).mono ?_; rintro r w' ⟨rfl, rfl⟩)
 all_goals (go_ret; refine ⟨?_, belowN1 _ _ _⟩; simp_all)
theorem rightType_5 (t : ByteArray) (a f : Int) (s : ByteArray) (r0 r1 r2 r3 : Int) (p i : Value) (w : World) (hN : NamesAt w) :
  Calls Tryz.prog 93 #[D 5 t a f s r0 r1 r2 r3 p i] w fun r w' => r = .returned (.bool (t.toList == [108, 105, 115, 116] || declB t)) ∧ Below w.heap.size w w' := by
 have n : w.cell? ⟨0, 5, none⟩ = some (.string ⟨#[108, 105, 115, 116]⟩) := hN.cells 5
 have hl := hN.lt
 simp only [D]
 go_enter Tryz.func93, Tryz.ntmps93
 go_wp2_with fail
 go_quiet (fail)
 go_wp2_with (go_at_call 140; refine (declared_any _ _ ((hN.kept (below1 _ _)).drewN _)).mono ?_; rintro r w' ⟨rfl, rfl⟩)
 all_goals (go_ret; refine ⟨?_, belowN1 _ _ _⟩; simp_all)
theorem rightType_6 (t : ByteArray) (a f : Int) (s : ByteArray) (r0 r1 r2 r3 : Int) (p i : Value) (w : World) (hN : NamesAt w) :
  Calls Tryz.prog 93 #[D 6 t a f s r0 r1 r2 r3 p i] w fun r w' => r = .returned (.bool (t.toList == [109, 97, 112] || declB t)) ∧ Below w.heap.size w w' := by
 have n : w.cell? ⟨0, 6, none⟩ = some (.string ⟨#[109, 97, 112]⟩) := hN.cells 6
 have hl := hN.lt
 simp only [D]
 go_enter Tryz.func93, Tryz.ntmps93
 go_wp2_with fail
 go_quiet (fail)
 go_wp2_with (go_at_call 140; refine (declared_any _ _ ((hN.kept (below1 _ _)).drewN _)).mono ?_; rintro r w' ⟨rfl, rfl⟩)
 all_goals (go_ret; refine ⟨?_, belowN1 _ _ _⟩; simp_all)
theorem rightType_7 (t : ByteArray) (a f : Int) (s : ByteArray) (r0 r1 r2 r3 : Int) (p i : Value) (w : World) (hN : NamesAt w) :
  Calls Tryz.prog 93 #[D 7 t a f s r0 r1 r2 r3 p i] w fun r w' => r = .returned (.bool (t.toList == [102, 117, 110, 99] || declB t)) ∧ Below w.heap.size w w' := by
 have n : w.cell? ⟨0, 7, none⟩ = some (.string ⟨#[102, 117, 110, 99]⟩) := hN.cells 7
 have hl := hN.lt
 simp only [D]
 go_enter Tryz.func93, Tryz.ntmps93
 go_wp2_with fail
 go_quiet (fail)
 go_wp2_with (go_at_call 140; refine (declared_any _ _ ((hN.kept (below1 _ _)).drewN _)).mono ?_; rintro r w' ⟨rfl, rfl⟩)
 all_goals (go_ret; refine ⟨?_, belowN1 _ _ _⟩; simp_all)
theorem rightType_8 (t : ByteArray) (a f : Int) (s : ByteArray) (r0 r1 r2 r3 : Int) (p i : Value) (w : World) (hN : NamesAt w) :
  Calls Tryz.prog 93 #[D 8 t a f s r0 r1 r2 r3 p i] w fun r w' => r = .returned (.bool (declB t)) ∧ Below w.heap.size w w' := by
 simp only [D]
 go_enter Tryz.func93, Tryz.ntmps93
 go_wp2_with fail
 go_quiet (fail)
 go_wp2_with (go_at_call 140; refine (declared_any _ _ ((hN.kept (below1 _ _)).drewN _)).mono ?_; rintro r w' ⟨rfl, rfl⟩)
 all_goals (go_ret; exact ⟨rfl, belowN1 _ _ _⟩)
theorem rightType_9 (t : ByteArray) (a f : Int) (s : ByteArray) (r0 r1 r2 r3 : Int) (p i : Value) (w : World) (hN : NamesAt w) :
  Calls Tryz.prog 93 #[D 9 t a f s r0 r1 r2 r3 p i] w fun r w' => r = .returned (.bool (declB t)) ∧ Below w.heap.size w w' := by
 simp only [D]
 go_enter Tryz.func93, Tryz.ntmps93
 go_wp2_with fail
 go_quiet (fail)
 go_wp2_with (go_at_call 140; refine (declared_any _ _ ((hN.kept (below1 _ _)).drewN _)).mono ?_; rintro r w' ⟨rfl, rfl⟩)
 all_goals (go_ret; exact ⟨rfl, belowN1 _ _ _⟩)
end Go.Proofs.YtdbijkgnddcneaaGreatDoor
namespace Go.Proofs.YtdbijkgnddcneaaGreatDoor
open Go.RowKit
attribute [local go_sem] refold2 cell3_0 cell3_1 b28_0 b28_01
theorem ite_no {b : Bool} {A B : Prop} (h : b = false) (a : B) : if b = true then A else B := by rw [h]; exact a
theorem cell_set {w : World} {b : Nat} {v u : Value} (h : w.cell? ⟨b, 0, none⟩ = some v) : (w.setCell ⟨b, 0, none⟩ u).cell? ⟨b, 0, none⟩ = some u := by
 simp [go_sem, h]
end Go.Proofs.YtdbijkgnddcneaaGreatDoor
namespace Go.Proofs.YtdbijkgnddcneaaGreatDoor
open Go.RowKit
set_option maxRecDepth 100000
set_option maxHeartbeats 2000000
attribute [local go_sem] refold2 cell3_0 cell3_1 b28_0 b28_01
def stirFrom (t : ByteArray) : Nat → Nat → Int → Int
 | _, 0, h => h
 | j, n + 1, h => stirFrom t (j + 1) n (stir h (IntKind.u64.wrap ((t.data[j]?.getD 0).toNat : Int)))
def stirT (h : Int) (t : ByteArray) : Int := stirFrom t 0 t.size (stir h t.size)
theorem stirredText_any (h : Int) (t : ByteArray) (w : World) (ht : t.size ≤ 140737488351232) :
  Calls Tryz.prog 195 #[.int .u64 h, .string t] w fun r w' => r = .returned (.int .u64 (stirT h t)) ∧ w' = w := by
 have HS : Hid (∀ (h n : Int) (W : World), Calls Tryz.prog 196 #[.int .u64 h, .int .u64 n] W fun r w' => r = .returned (.int .u64 (stir h n)) ∧ w' = W) := stirred_any
 unfold stirT
 go_enter Tryz.func195, Tryz.ntmps195
 go_wp2_with (go_at_call 196; refine (HS.out _ _ _).mono ?_; rintro r w' ⟨rfl, rfl⟩)
 go_loop [0, 13] (fun hv i => ∃ (j : Nat) (x : Int), j ≤ t.size ∧ i = .int .i64 j ∧ hv = .int .u64 x ∧ stirFrom t 0 t.size (stir h t.size) = stirFrom t j (t.size - j) x) (fun _ i => t.size - (intOf i).toNat)
 case atStart => exact ⟨0, _, by omega, rfl, rfl, by rw [Nat.sub_zero]⟩
 case round =>
  obtain ⟨j, x, hj, rfl, rfl, hlf⟩ := hrel
  by_cases hlt : j < t.size
  ·have i1 : (j : Int) < t.size := by omega
   have hstep : stirFrom t j (t.size - j) x = stirFrom t (j + 1) (t.size - (j + 1)) (stir x (IntKind.u64.wrap (t[j].toNat : Int))) := by
    have e : t.data[j]?.getD 0 = t[j] := by rw [Array.getElem?_eq_getElem (by exact hlt)]; rfl
    rw [show t.size - j = (t.size - (j + 1)) + 1 by omega, ← e]; rfl
   have hlf2 := hlf.trans hstep
   clear hlf hstep
   go_wp2_with (go_at_call 196; refine (HS.out _ _ _).mono ?_; rintro r w' ⟨rfl, rfl⟩)
   exact ⟨⟨j + 1, _, by omega, by go_num, rfl, hlf2⟩, by simp [intOf]; omega⟩
  ·obtain rfl : j = t.size := by omega
   rw [Nat.sub_self] at hlf
   rw [hlf]
   go_wp2
   go_ret
   exact ⟨rfl, rfl⟩
end Go.Proofs.YtdbijkgnddcneaaGreatDoor
namespace Go.Proofs.YtdbijkgnddcneaaGreatDoor
open Go.RowKit
set_option maxRecDepth 100000
set_option maxHeartbeats 1000000
attribute [local go_sem] refold2 cell3_0 cell3_1 b28_0 b28_01
theorem row_ltT {W : World} {b : Nat} {o : Obj} (h : W.heap[b]? = some o) : b < W.heap.size := (Array.getElem?_eq_some_iff.1 h).1
theorem box_keptD {W : World} {b : Nat} (h : W.heap[b]? = some (.cells zeros 32 (0, 0))) :
  (W.cell? ⟨b, 0, none⟩ = some (.int .i64 0) ∧ W.cell? ⟨b, 1, none⟩ = some (.string ⟨#[]⟩) ∧ W.cell? ⟨b, 2, none⟩ = some (.int .i64 0) ∧ W.cell? ⟨b, 3, none⟩ = some (.int .u64 0) ∧ W.cell? ⟨b, 4, none⟩ = some (.string ⟨#[]⟩) ∧ W.cell? ⟨b, 5, none⟩ = some (.int .i64 0) ∧ W.cell? ⟨b, 6, none⟩ = some (.int .i64 0) ∧ W.cell? ⟨b, 7, none⟩ = some (.int .i64 0) ∧ W.cell? ⟨b, 8, none⟩ = some (.int .i64 0) ∧ W.cell? ⟨b, 9, none⟩ = some (.slice none 0 0) ∧ W.cell? ⟨b, 10, none⟩ = some (.slice none 0 0)) ∧ ∀ j, W.frozen? ⟨b, j, none⟩ = false :=
 ⟨⟨row_at h 0, row_at h 1, row_at h 2, row_at h 3, row_at h 4, row_at h 5, row_at h 6, row_at h 7, row_at h 8, row_at h 9, row_at h 10⟩, fun j => fz _ _ _ _ j h⟩
theorem set_same {w : World} {b o : Nat} {v : Value} {cs : Array Value} (h : ∀ j, w.cell? ⟨b, j, none⟩ = cs[j]?) (ho : cs[o]? = some v) : ∀ j, (w.setCell ⟨b, o, none⟩ v).cell? ⟨b, j, none⟩ = cs[j]? := fun j => by
 by_cases e : j = o
 ·subst e
  have := h j
  rw [ho] at this
  rw [ho]; simp [go_sem, this]
 ·rw [World.cell?_setCell_other _ _ _ _ (fun q => e (by cases q; rfl))]; exact h j
theorem behind_0 (b : Nat) (w : World) (h : w.cell? ⟨b, 0, none⟩ = some (.int .i64 0)) (hb : b < w.heap.size) :
  Calls Tryz.prog 162 #[.pointer (some ⟨b, 0, none⟩)] w fun r w' => r = .returned (.nilIface) ∧ Below w.heap.size w w' := by
 go_enter Tryz.func162, Tryz.ntmps162
 go_wp2_with fail
 go_ret
 exact ⟨rfl, below1 _ _⟩
theorem behind_2 (b : Nat) (w : World) (h : w.cell? ⟨b, 0, none⟩ = some (.int .i64 2)) (hb : b < w.heap.size) :
  Calls Tryz.prog 162 #[.pointer (some ⟨b, 0, none⟩)] w fun r w' => r = .returned (.iface 300 (.agg #[.pointer (some ⟨b, 0, none⟩)])) ∧ Below w.heap.size w w' := by
 go_enter Tryz.func162, Tryz.ntmps162
 go_wp2_with fail
 go_ret
 exact ⟨rfl, below1 _ _⟩
end Go.Proofs.YtdbijkgnddcneaaGreatDoor
