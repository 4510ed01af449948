/-
  The order of ordered data.
-/
import Derived.Test.YtnhbpcmiolkllabDoorPe2
namespace Go.Proofs.YtnhbpcmiolkllabDoor
open Go.RowKit

theorem less_swap : ∀ (a b : List UInt8), Op.bytesLess b a = !(Op.bytesLess a b || a == b)
  | [], [] => rfl
  | [], _ :: _ => rfl
  | _ :: _, [] => rfl
  | x :: a, y :: b => by
    have ih := less_swap a b
    show (decide (y < x) || (y == x && Op.bytesLess b a)) = !((decide (x < y) || (x == y && Op.bytesLess a b)) || (x :: a == y :: b))
    rw [ih]
    have hl : ∀ p q : UInt8, p < q ↔ p.toNat < q.toNat := fun p q => Iff.rfl
    have he : ∀ p q : UInt8, p = q ↔ p.toNat = q.toNat := fun p q => ⟨fun h => by rw [h], fun h => UInt8.toNat_inj.1 h⟩
    by_cases h1 : x = y
    · subst h1
      have : ¬ (x < x) := by rw [hl]; omega
      simp [this]
    · have h2 : ¬ y = x := fun e => h1 e.symm
      by_cases h3 : x < y
      · have : ¬ y < x := by rw [hl] at h3 ⊢; omega
        simp [h2, h3, this]
      · have : y < x := by rw [hl] at h3 ⊢; have := mt (he x y).2 h1; omega
        simp [h1, h3, this]
theorem less_trans : ∀ (a b c : List UInt8), Op.bytesLess a b = true → Op.bytesLess b c = true → Op.bytesLess a c = true
  | [], [], _, h, _ => by cases h
  | [], _ :: _, [], _, h => by cases h
  | [], _ :: _, _ :: _, _, _ => rfl
  | _ :: _, [], _, h, _ => by cases h
  | _ :: _, _ :: _, [], _, h => by cases h
  | x :: a, y :: b, z :: c, h, h' => by
    have hl : ∀ p q : UInt8, p < q ↔ p.toNat < q.toNat := fun p q => Iff.rfl
    have h1 : (decide (x < y) || (x == y && Op.bytesLess a b)) = true := h
    have h2 : (decide (y < z) || (y == z && Op.bytesLess b c)) = true := h'
    show (decide (x < z) || (x == z && Op.bytesLess a c)) = true
    simp only [Bool.or_eq_true, Bool.and_eq_true, decide_eq_true_eq, beq_iff_eq] at h1 h2 ⊢
    rcases h1 with h1 | ⟨rfl, h1⟩
    · rcases h2 with h2 | ⟨rfl, h2⟩
      · left; rw [hl] at h1 h2 ⊢; omega
      · exact .inl h1
    · rcases h2 with h2 | ⟨rfl, h2⟩
      · exact .inl h2
      · exact .inr ⟨rfl, less_trans a b c h1 h2⟩
/-- How one stands to another: 9, if it has no rank. -/
def rkv (x y : MD) : Int :=
  if x.h.k = 2 then rankI x.h.n y.h.n else if x.h.k = 3 then (if isNan x.h.f.toNat = true ∨ isNan y.h.f.toNat = true then 9 else rankI (rnk x.h.f) (rnk y.h.f)) else (rankS x.h.s y.h.s).1
theorem rank_ord {K : Int} {x y : MD} (hx : OrdK K x) (hy : OrdK K y) (w : World) (hN : NamesAt w) : Calls Tryd.prog 15 #[x.val, y.val] w fun r w' => r = .returned (.int .i64 (rkv x y)) ∧ Below w.heap.size w w' := by
  have ix := ord_in hx
  have iy := ord_in hy
  have rx := ord_right hx
  have ry := ord_right hy
  rcases hx with ⟨k0, a, ex, h0, h1⟩ | ⟨k0, a, ex, h0, h1, h2⟩ | ⟨k0, a, ex, h0⟩
  · rcases hy with ⟨_, c, ey, _⟩ | ⟨k1, _⟩ | ⟨k1, _⟩
    · have e : rkv x y = rankI a c := by rw [ex, ey]; rfl
      rw [e]
      exact rank_2 _ x y w hN a c ex ey ix iy rx ry
    · omega
    · omega
  · rcases hy with ⟨k1, _⟩ | ⟨_, c, ey, c0, c1, _⟩ | ⟨k1, _⟩
    · omega
    · have e : rkv x y = if isNan a.toNat = true ∨ isNan c.toNat = true then 9 else rankI (rnk a) (rnk c) := by rw [ex, ey]; rfl
      rw [e]
      exact rank_3 _ x y w hN a c h0 h1 c0 c1 ex ey ix iy rx ry
    · omega
  · rcases hy with ⟨k1, _⟩ | ⟨k1, _⟩ | ⟨_, c, ey, _⟩
    · omega
    · omega
    · have e : rkv x y = (rankS a c).1 := by rw [ex, ey]; rfl
      rw [e]
      exact rank_4 _ x y w hN a c ex ey ix iy rx ry
theorem eqv_ord {K : Int} {x y : MD} (hx : OrdK K x) (hy : OrdK K y) : (MD.eqv 1 x y).2 = ⟨#[]⟩ := by
  rcases hx with ⟨k0, a, rfl, h0, h1⟩ | ⟨k0, a, rfl, h0, h1, h2⟩ | ⟨k0, a, rfl, h0⟩ <;> rcases hy with ⟨k1, c, rfl, c0⟩ | ⟨k1, c, rfl, c0⟩ | ⟨k1, c, rfl, c0⟩ <;> first | omega | simp [MD.eqv, fl]
theorem equal_ord {K : Int} {x y : MD} (hx : OrdK K x) (hy : OrdK K y) (w : World) (hN : NamesAt w) : Calls Tryd.prog 10 #[x.val, y.val] w fun r w' => r = .returned (.tuple #[.bool (MD.eqv 1 x y).1, .nilIface]) ∧ Below w.heap.size w w' :=
  Equal_good 1 x y w hN (ord_in hx _ _) (ord_in hy _ _) (ord_right hx) (ord_right hy) (eqv_ord hx hy)
theorem ord_nan {K : Int} {x y : MD} (hx : OrdK K x) (hy : OrdK K y) (h : brk x = true ∨ brk y = true) : rkv x y = 9 ∧ rkv y x = 9 := by
  rcases hx with ⟨k0, a, rfl, h0, h1⟩ | ⟨k0, a, rfl, h0, h1, h2⟩ | ⟨k0, a, rfl, h0⟩ <;> rcases hy with ⟨k1, c, rfl, c0⟩ | ⟨k1, c, rfl, c0⟩ | ⟨k1, c, rfl, c0⟩ <;> first | omega | skip
  · simp [brk, fl] at h
  · have h' : isNan a.toNat = true ∨ isNan c.toNat = true := by simpa [brk, fl] using h
    show (if isNan a.toNat = true ∨ isNan c.toNat = true then (9 : Int) else _) = 9 ∧ (if isNan c.toNat = true ∨ isNan a.toNat = true then (9 : Int) else _) = 9
    rw [if_pos h', if_pos h'.symm]
    exact ⟨rfl, rfl⟩
  · simp [brk, fl] at h
theorem rkv_f (p q : Int) (hp : isNan p.toNat = false) (hq : isNan q.toNat = false) : rkv (fl 3 ⟨#[102, 108, 111, 97, 116]⟩ 0 p ⟨#[]⟩) (fl 3 ⟨#[102, 108, 111, 97, 116]⟩ 0 q ⟨#[]⟩) = rankI (rnk p) (rnk q) := by
  have h : ¬ (isNan p.toNat = true ∨ isNan q.toNat = true) := by rw [hp, hq]; simp
  show (if isNan p.toNat = true ∨ isNan q.toNat = true then (9 : Int) else rankI (rnk p) (rnk q)) = _
  rw [if_neg h]
theorem rankI_facts (a c : Int) : -1 ≤ rankI a c ∧ rankI a c ≤ 1 ∧ rankI c a = -rankI a c ∧ (rankI a c = 0 ↔ a = c) := by
  unfold rankI
  split <;> split <;> (try split) <;> refine ⟨?_, ?_, ?_, ?_⟩ <;> omega
theorem rankS_facts (a c : ByteArray) : -1 ≤ (rankS a c).1 ∧ (rankS a c).1 ≤ 1 ∧ (rankS c a).1 = -(rankS a c).1 ∧ ((rankS a c).1 = 0 ↔ a = c) := by
  have hs := less_swap a.toList c.toList
  have hi : Op.bytesLess c.toList c.toList = false := by
    have := less_swap c.toList c.toList
    cases h : Op.bytesLess c.toList c.toList <;> simp [h] at this ⊢
  have he : (a.toList == c.toList) = true → a = c := fun h => by
    have h1 : a.toList = c.toList := by simpa using h
    exact byteArray_ext h1
  unfold rankS
  by_cases h1 : Op.bytesLess a.toList c.toList = true
  · have hne : ¬ a = c := fun e => by rw [e, hi] at h1; cases h1
    rw [if_pos h1]
    rw [h1] at hs
    have h2 : Op.bytesLess c.toList a.toList = false := by simpa using hs
    have h3 : (c.toList == a.toList) = false := by
      cases h : (c.toList == a.toList) with
      | false => rfl
      | true => exact absurd (he (by simpa using (by simpa using h : c.toList = a.toList).symm)) hne
    rw [h2, h3]
    simp [hne]
  · have h1' : Op.bytesLess a.toList c.toList = false := by simpa using h1
    by_cases h4 : (a.toList == c.toList) = true
    · obtain rfl := he h4
      rw [h1']
      simp
    · have h4' : (a.toList == c.toList) = false := by simpa using h4
      rw [h1', h4'] at hs
      have h2 : Op.bytesLess c.toList a.toList = true := by simpa using hs
      have hne : ¬ a = c := fun e => h4 (by rw [e]; simp)
      rw [h1', h4', h2]
      simp [hne]
theorem ord_facts {K : Int} {x y : MD} (hx : OrdK K x) (hy : OrdK K y) (bx : brk x = false) (by_ : brk y = false) : -1 ≤ rkv x y ∧ rkv x y ≤ 1 ∧ rkv y x = -rkv x y ∧ (MD.eqv 1 x y).1 = decide (rkv x y = 0) := by
  rcases hx with ⟨k0, a, rfl, h0, h1⟩ | ⟨k0, a, rfl, h0, h1, h2⟩ | ⟨k0, a, rfl, h0⟩ <;> rcases hy with ⟨k1, c, rfl, c0⟩ | ⟨k1, c, rfl, c0⟩ | ⟨k1, c, rfl, c0⟩ <;> first | omega | skip
  · obtain ⟨q1, q2, q3, q4⟩ := rankI_facts a c
    refine ⟨q1, q2, q3, ?_⟩
    show (MD.eqv 1 (fl 2 _ a 0 _) (fl 2 _ c 0 _)).1 = decide (rankI a c = 0)
    have hd : decide (rankI a c = 0) = decide (a = c) := decide_eq_decide.2 q4
    rw [hd]
    simp [MD.eqv, fl]
  · have nx : isNan a.toNat = false := by simpa [brk, fl] using bx
    have ny : isNan c.toNat = false := by simpa [brk, fl] using by_
    obtain ⟨q1, q2, q3, q4⟩ := rankI_facts (rnk a) (rnk c)
    have e1 := rkv_f a c nx ny
    have e2 := rkv_f c a ny nx
    rw [e1, e2]
    refine ⟨q1, q2, q3, ?_⟩
    have e3 : (MD.eqv 1 (fl 3 ⟨#[102, 108, 111, 97, 116]⟩ 0 a ⟨#[]⟩) (fl 3 ⟨#[102, 108, 111, 97, 116]⟩ 0 c ⟨#[]⟩)).1 = feq a c := by simp [MD.eqv, fl]
    rw [e3, feq_rank a c h0 h1 c0.1 c0.2.1, nx, ny]
    have hd : decide (rankI (rnk a) (rnk c) = 0) = decide (rnk a = rnk c) := decide_eq_decide.2 q4
    rw [hd]; rfl
  · obtain ⟨q1, q2, q3, q4⟩ := rankS_facts a c
    refine ⟨q1, q2, q3, ?_⟩
    show (MD.eqv 1 (fl 4 _ 0 0 a) (fl 4 _ 0 0 c)).1 = decide ((rankS a c).1 = 0)
    have hd : decide ((rankS a c).1 = 0) = decide (a = c) := decide_eq_decide.2 q4
    rw [hd]
    simp [MD.eqv, fl]
theorem rankI_trans (a c e : Int) (h1 : rankI a c ≤ 0) (h2 : rankI c e ≤ 0) : rankI a e ≤ 0 ∧ (rankI a c < 0 ∨ rankI c e < 0 → rankI a e < 0) := by
  unfold rankI at *
  split at h1 <;> split at h2 <;> (try split at h1) <;> (try split at h2) <;> (try omega)
  all_goals (split <;> (try split) <;> omega)
theorem rankS_le (a c : ByteArray) : ((rankS a c).1 ≤ 0 ↔ Op.bytesLess a.toList c.toList = true ∨ a.toList = c.toList) ∧ ((rankS a c).1 < 0 ↔ Op.bytesLess a.toList c.toList = true) := by
  unfold rankS
  by_cases h1 : Op.bytesLess a.toList c.toList = true
  · rw [if_pos h1]
    exact ⟨⟨fun _ => .inl h1, fun _ => by decide⟩, ⟨fun _ => h1, fun _ => by decide⟩⟩
  · rw [if_neg h1]
    by_cases h4 : a.toList = c.toList
    · rw [if_pos (by simpa using h4)]
      exact ⟨⟨fun _ => .inr h4, fun _ => by decide⟩, ⟨fun h => absurd h (by decide), fun h => absurd h h1⟩⟩
    · rw [if_neg (by simpa using h4)]
      exact ⟨⟨fun h => absurd h (by decide), fun h => h.elim (fun h => absurd h h1) (fun h => absurd h h4)⟩, ⟨fun h => absurd h (by decide), fun h => absurd h h1⟩⟩
theorem rankS_trans (a c e : ByteArray) (h1 : (rankS a c).1 ≤ 0) (h2 : (rankS c e).1 ≤ 0) : (rankS a e).1 ≤ 0 ∧ ((rankS a c).1 < 0 ∨ (rankS c e).1 < 0 → (rankS a e).1 < 0) := by
  rw [(rankS_le a c).1] at h1
  rw [(rankS_le c e).1] at h2
  rw [(rankS_le a e).1, (rankS_le a c).2, (rankS_le c e).2, (rankS_le a e).2]
  rcases h1 with h1 | h1
  · rcases h2 with h2 | h2
    · exact ⟨.inl (less_trans _ _ _ h1 h2), fun _ => less_trans _ _ _ h1 h2⟩
    · rw [← h2]; exact ⟨.inl h1, fun _ => h1⟩
  · rw [h1]
    refine ⟨h2, fun h => ?_⟩
    rcases h with h | h
    · have := less_swap c.toList c.toList
      rw [h] at this
      simp at this
    · exact h
theorem ord_trans {K : Int} {x y z : MD} (hx : OrdK K x) (hy : OrdK K y) (hz : OrdK K z) (bx : brk x = false) (by_ : brk y = false) (bz : brk z = false) (h1 : rkv x y ≤ 0) (h2 : rkv y z ≤ 0) : rkv x z ≤ 0 ∧ (rkv x y < 0 ∨ rkv y z < 0 → rkv x z < 0) := by
  rcases hx with ⟨k0, a, rfl, h0⟩ | ⟨k0, a, rfl, h0⟩ | ⟨k0, a, rfl, h0⟩ <;> rcases hy with ⟨k1, c, rfl, c0⟩ | ⟨k1, c, rfl, c0⟩ | ⟨k1, c, rfl, c0⟩ <;> (try omega) <;> rcases hz with ⟨k2, e, rfl, e0⟩ | ⟨k2, e, rfl, e0⟩ | ⟨k2, e, rfl, e0⟩ <;> (try omega)
  · exact rankI_trans a c e h1 h2
  · have nx : isNan a.toNat = false := by simpa [brk, fl] using bx
    have ny : isNan c.toNat = false := by simpa [brk, fl] using by_
    have nz : isNan e.toNat = false := by simpa [brk, fl] using bz
    rw [rkv_f a c nx ny] at h1 ⊢
    rw [rkv_f c e ny nz] at h2 ⊢
    rw [rkv_f a e nx nz]
    exact rankI_trans _ _ _ h1 h2
  · exact rankS_trans a c e h1 h2
end Go.Proofs.YtnhbpcmiolkllabDoor
