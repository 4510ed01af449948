/-
  The walk of guiseref2.Same, at every two trees.
-/
import Derived.Test.YthbnegggohegkaaGreatDoorAl
namespace Go.Proofs.YthbnegggohegkaaGreatDoor
open Go.RowKit

mutual
theorem MT.alike_size : ∀ (a b : MT), MT.alike a b = true → a.size = b.size
  | node k s n t p c ks, b, h => by
    rw [MT.alike_eq, Bool.and_eq_true, MT.like_iff] at h
    have := MT.alikeL_size ks b.kids h.1.2.2.2 h.2
    rw [MT.size_eq, MT.size_eq, MT.kids_node, this]
theorem MT.alikeL_size : ∀ (xs ys : List MT), xs.length = ys.length → MT.alikeL xs ys = true → MT.sizeL xs = MT.sizeL ys
  | [], [], _, _ => rfl
  | x :: xs, y :: ys, hl, h => by
    rw [MT.alikeL, Bool.and_eq_true] at h
    rw [MT.sizeL, MT.sizeL, MT.alike_size x y h.1, MT.alikeL_size xs ys (by simpa using hl) h.2]
  | [], y :: ys, hl, _ => by simp at hl
  | x :: xs, [], hl, _ => by simp at hl
end

/-- Same, as the document has it. -/
def MT.same (a b : MT) : Bool := decide (a.size ≤ 1000000) && MT.alike a b

set_option maxHeartbeats 1000000 in
theorem refSame_any (a b : MT) (w : World) (ha : a.In w.heap.size w) (hb : b.In w.heap.size w) :
    Calls Tryz.prog 16 #[nodeV a, nodeV b] w fun e w' => ∃ r : Bool, e = .returned (.bool r) ∧ Hid (r = MT.same a b) ∧ Below w.heap.size w w' := by
  have hb0 : Below w.heap.size w ((w.alloc (nodeO a)).alloc (nodeO b)) := ((Below.refl _ _).alloc (Nat.le_refl _) _).alloc (by simp) _
  have NA := (BoxAt.new w a).below (Nat.lt_succ_self _) ((Below.refl _ _).alloc (by simp) (nodeO b))
  have NB := BoxAt.new (w.alloc (nodeO a)) b
  simp only [World.size_alloc] at NB
  go_enter Tryz.func16, Tryz.ntmps16
  go_wp2_with fail
  refine (refCount_any a _ (MT.In.later ha (Nat.le_refl _) hb0)).mono ?_
  rintro e w1 ⟨r1, rfl, hr10, hr11, hr1, hb1⟩
  have hB1 := hb0.trans (hb1.mono (by simp; omega))
  have hz1 := hb1.size
  simp only [World.size_alloc] at hz1
  obtain ⟨p0, p1, p2, p3, p4⟩ := NA.below (by simp; omega) hb1
  obtain ⟨q0, q1, q2, q3, q4⟩ := NB.below (by simp) hb1
  have HB1 : Hid (Below w.heap.size w w1) := hB1
  clear hb1 hB1 NA NB hb0
  go_wp2_with fail
  refine (refCount_any b _ (MT.In.later hb (Nat.le_refl _) HB1.out)).mono ?_
  rintro e w2 ⟨r2, rfl, hr20, hr21, hr2, hb2⟩
  have HB2 : Hid (Below w.heap.size w w2) := HB1.out.trans (hb2.mono HB1.out.size)
  have P := (BoxAt.mk p0 p1 p2 p3 p4).below (by omega) hb2
  have Q := (BoxAt.mk q0 q1 q2 q3 q4).below (by omega) hb2
  have hz2 := hb2.size
  clear p0 p1 p2 p3 p4 q0 q1 q2 q3 q4 hb2
  obtain ⟨p0, p1, p2, p3, p4⟩ := P
  obtain ⟨q0, q1, q2, q3, q4⟩ := Q
  by_cases h1 : r1 ≤ 1000000 ∧ r1 = r2
  · have g1 : decide (r1 ≤ 1000000) = true := by simp; exact h1.1
    have g2 : (r1 == r2) = true := by simp; exact h1.2
    have HX : Hid (a.size ≤ 1000000) := by show _ ≤ _; have := hr1.out; omega
    clear h1
    go_wp2_with fail
    refine (refAlike_any a.size a b _ (Nat.le_refl _) (MT.In.later ha (Nat.le_refl _) HB2.out) (MT.In.later hb (Nat.le_refl _) HB2.out)).mono ?_
    rintro e w3 ⟨r, rfl, hr, hb3⟩
    go_wp2_with fail
    go_ret
    exact ⟨r, rfl, by show _ = _; rw [MT.same, decide_eq_true HX.out, Bool.true_and]; exact hr.out, HB2.out.trans (hb3.mono HB2.out.size)⟩
  · have HX : Hid (MT.same a b = false) := by
      show _ = _
      rw [Bool.eq_false_iff]
      intro e
      rw [MT.same, Bool.and_eq_true, decide_eq_true_iff] at e
      have := MT.alike_size a b e.2
      have := hr1.out; have := hr2.out
      omega
    by_cases h2 : r1 ≤ 1000000
    · have g1 : decide (r1 ≤ 1000000) = true := by simp; exact h2
      have g2 : (r1 == r2) = false := by simp; omega
      clear h1
      go_wp2_with fail
      go_ret
      exact ⟨false, rfl, HX.out.symm, HB2.out⟩
    · have g1 : decide (r1 ≤ 1000000) = false := by simp; omega
      clear h1
      go_wp2_with fail
      go_ret
      exact ⟨false, rfl, HX.out.symm, HB2.out⟩
end Go.Proofs.YthbnegggohegkaaGreatDoor
