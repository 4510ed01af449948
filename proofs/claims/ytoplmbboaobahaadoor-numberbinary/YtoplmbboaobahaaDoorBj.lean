/-
  The document's ints where there is a fault, or no such operation; comparisons as number has them.
-/
import Derived.Test.YtoplmbboaobahaaDoorBb
import Derived.Test.YtoplmbboaobahaaDoorBe
import Derived.Test.YtoplmbboaobahaaDoorQ
import Derived.Test.YtoplmbboaobahaaDoorDg
namespace Go.Proofs.YtoplmbboaobahaaDoor
open Go.RowKit
attribute [local go_sem] refold2 cell3_0 cell3_1 b28_0 b28_01 b28_012 b28_013 b28_014 b35_01 b35_0 b35 mkI69

set_option maxRecDepth 100000 in
set_option maxHeartbeats 2000000 in
theorem refInts_div0 (o : IOp) (ho : o = .quo ∨ o = .rem) (a : Int) (w : World) :
    Calls Tryd.prog 50 #[.string o.txt, .int .i64 a, .int .i64 0] w fun r w' => r = .returned (.tuple #[.int .i64 0, .agg #[.string ⟨#[100, 105, 118, 105, 100, 101]⟩, .string ⟨#[]⟩], .bool true]) ∧ Below w.heap.size w w' := by
  rcases ho with rfl | rfl <;> simp only [IOp.txt]
  all_goals
    go_enter Tryd.func50, Tryd.ntmps50
    go_wp2_with fail
    refine (refFault_any _ _ _).mono ?_
    rintro r w1 ⟨rfl, b1⟩
    have R := (b1.block w.heap.size (by simp)).trans (heap_alloc_new _ _)
    have g0 : w1.cell? ⟨w.heap.size, 0, none⟩ = some (.string ⟨#[]⟩) := by unfold World.cell?; rw [R]; rfl
    have g1 : w1.cell? ⟨w.heap.size, 1, none⟩ = some (.string ⟨#[]⟩) := by unfold World.cell?; rw [R]; rfl
    have gf : ∀ j, w1.frozen? ⟨w.heap.size, j, none⟩ = false := fun j => fz _ _ _ _ j R
    have z : w.heap.size < w1.heap.size := by have := b1.size; simp at this; omega
    clear R
    go_wp2_with fail
    refine bodyPost_ret (v := .tuple #[.int .i64 0, .agg #[.string ⟨#[100, 105, 118, 105, 100, 101]⟩, .string ⟨#[]⟩], .bool true]) (by simp [results, Tryd.results50, go_sem, g0, g1]) rfl ⟨rfl, ?_⟩
    exact (((below1 w _).trans (b1.mono (by simp))).setCell (by show _ ≤ _; simp) _).setCell (by show _ ≤ _; simp) _

set_option maxRecDepth 100000 in
set_option maxHeartbeats 2000000 in
theorem refInts_count (o : IOp) (ho : o = .shl ∨ o = .shr) (a b : Int) (w : World) (hb : b < 0) (h0 : -9223372036854775808 ≤ b) :
    Calls Tryd.prog 50 #[.string o.txt, .int .i64 a, .int .i64 b] w fun r w' => r = .returned (.tuple #[.int .i64 0, .agg #[.string ⟨#[99, 111, 117, 110, 116]⟩, .string ⟨(Lib.itoa b).toArray⟩], .bool true]) ∧ Below w.heap.size w w' := by
  have HD : Hid (∀ W, Calls Tryd.prog 51 #[.int .i64 b] W fun r w' => r = .returned (.string ⟨(Lib.itoa b).toArray⟩) ∧ Below W.heap.size W w') := fun W => refDigits_any b W h0 (by omega)
  generalize Lib.itoa b = d at HD ⊢
  rcases ho with rfl | rfl <;> simp only [IOp.txt]
  all_goals
    go_enter Tryd.func50, Tryd.ntmps50
    go_wp2_with fail
    refine (HD.out _).mono ?_
    rintro r w0 ⟨rfl, b0⟩
    go_wp2_with fail
    refine (refFault_any _ _ _).mono ?_
    rintro r w1 ⟨rfl, b2⟩
    have b1 := b0.trans (b2.mono b0.size)
    have R := (b1.block w.heap.size (by simp)).trans (heap_alloc_new _ _)
    have g0 : w1.cell? ⟨w.heap.size, 0, none⟩ = some (.string ⟨#[]⟩) := by unfold World.cell?; rw [R]; rfl
    have g1 : w1.cell? ⟨w.heap.size, 1, none⟩ = some (.string ⟨#[]⟩) := by unfold World.cell?; rw [R]; rfl
    have gf : ∀ j, w1.frozen? ⟨w.heap.size, j, none⟩ = false := fun j => fz _ _ _ _ j R
    have z : w.heap.size < w1.heap.size := by have := b1.size; simp at this; omega
    clear R
    go_wp2_with fail
    refine bodyPost_ret (v := .tuple #[.int .i64 0, .agg #[.string ⟨#[99, 111, 117, 110, 116]⟩, .string ⟨d.toArray⟩], .bool true]) (by simp [results, Tryd.results50, go_sem, g0, g1]) rfl ⟨rfl, ?_⟩
    exact (((below1 w _).trans (b1.mono (by simp))).setCell (by show _ ≤ _; simp) _).setCell (by show _ ≤ _; simp) _

set_option maxRecDepth 100000 in
set_option maxHeartbeats 2000000 in
theorem refInts_none (u : ByteArray) (h : NoOp u) (a b : Int) (w : World) :
    Calls Tryd.prog 50 #[.string u, .int .i64 a, .int .i64 b] w fun r w' => r = .returned (.tuple #[.int .i64 0, .agg #[.string ⟨#[]⟩, .string ⟨#[]⟩], .bool false]) ∧ Below w.heap.size w w' := by
  obtain ⟨h0, h1, h2, h3, h4, h5, h6, h7, h8, h9, h10, h11, h12, h13⟩ := h
  go_enter Tryd.func50, Tryd.ntmps50
  go_wp2_with fail
  refine bodyPost_ret (v := .tuple #[.int .i64 0, .agg #[.string ⟨#[]⟩, .string ⟨#[]⟩], .bool false]) (by simp [results, Tryd.results50, go_sem]) rfl ⟨rfl, below1 _ _⟩

theorem less_swap : ∀ (a b : List UInt8), Op.bytesLess b a = !(Op.bytesLess a b || a == b)
  | [], [] => by decide
  | [], y :: ys => by simp [Op.bytesLess]
  | x :: xs, [] => by simp [Op.bytesLess]
  | x :: xs, y :: ys => by
    have ih := less_swap xs ys
    simp only [Op.bytesLess, ih, List.cons_beq_cons]
    by_cases h1 : x = y
    · subst h1; simp
    · by_cases h2 : x < y
      · have h3 : ¬ y < x := fun h => by have := UInt8.lt_irrefl x; exact this (UInt8.lt_trans h2 h)
        have h4 : (y == x) = false := by simpa using fun e => h1 e.symm
        have h5 : (x == y) = false := by simpa using h1
        simp [h2, h3, h4, h5]
      · have h3 : y < x := by
          rcases Nat.lt_trichotomy x.toNat y.toNat with h | h | h
          · exact absurd h h2
          · exact absurd (UInt8.toNat_inj.1 h) h1
          · exact h
        have h4 : (y == x) = false := by simpa using fun e => h1 e.symm
        have h5 : (x == y) = false := by simpa using h1
        simp [h2, h3, h4, h5]

theorem wh_int (o : COp) (a b : Int) : whV o (decide (a < b)) (decide (b < a)) true = o.iv a b := by
  cases o <;> rw [Bool.eq_iff_iff] <;> simp [whV, COp.iv]
theorem wh_txt (o : COp) (a b : List UInt8) : whV o (Op.bytesLess a b) (Op.bytesLess b a) true = o.sv a b := by
  cases o
  · simp [whV, COp.sv]
  · simp only [whV, COp.sv, less_swap a b]; simp
  · simp only [whV, COp.sv, less_swap a b]; simp
  · simp [whV, COp.sv]
theorem order_self (x : Nat) (h : isNan x = false) : Ieee.double.order x x = some .eq := by
  have h1 := order_swap x x
  have h2 : Ieee.double.order x x ≠ none := fun e => by have := (order_none x x).1 e; simp [h] at this
  cases h3 : Ieee.double.order x x with
  | none => exact absurd h3 h2
  | some c =>
    rw [h3] at h1
    cases c <;> simp [Ordering.swap] at h1 ⊢
theorem wh_flt (o : COp) (x y : Nat) : whV o (Ieee.double.order x y == some .lt) (Ieee.double.order x y == some .gt) ((Ieee.double.order x x == some .eq) && (Ieee.double.order y y == some .eq)) = o.fv (Ieee.double.order x y) := by
  by_cases hx : isNan x = true
  · have e1 : Ieee.double.order x x = none := (order_none x x).2 (.inl hx)
    have e2 : Ieee.double.order x y = none := (order_none x y).2 (.inl hx)
    rw [e1, e2]
    cases o <;> rfl
  · by_cases hy : isNan y = true
    · have e1 : Ieee.double.order y y = none := (order_none y y).2 (.inl hy)
      have e2 : Ieee.double.order x y = none := (order_none x y).2 (.inr hy)
      rw [e1, e2]
      cases h : (Ieee.double.order x x == some .eq) <;> cases o <;> rfl
    · rw [order_self x (by simpa using hx), order_self y (by simpa using hy)]
      cases h : Ieee.double.order x y with
      | none => have := (order_none x y).1 h; simp [hx, hy] at this
      | some c => cases c <;> cases o <;> rfl
end Go.Proofs.YtoplmbboaobahaaDoor
