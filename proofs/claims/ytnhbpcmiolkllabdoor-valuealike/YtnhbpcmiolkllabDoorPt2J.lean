/-
  Of, at any datum.
  What Equal, Key, Hash and Same say of right data, whatever they are; what the law asks of them.
-/
import Derived.Test.YtnhbpcmiolkllabDoorIa2J
import Derived.Test.YtnhbpcmiolkllabDoorHc2
import Derived.Test.YtnhbpcmiolkllabDoorI
import Derived.Test.YtnhbpcmiolkllabDoorJJ
import Derived.Test.YtnhbpcmiolkllabDoorHa2J
import Derived.Test.YtnhbpcmiolkllabDoorPi2
import Derived.Test.YtnhbpcmiolkllabDoorHe2
import Derived.Test.YtnhbpcmiolkllabDoorSf
namespace Go.Proofs.YtnhbpcmiolkllabDoor
open Go.RowKit
attribute [local go_sem] refold2 cell3_0 cell3_1 b28_0 b28_01

theorem sameH_all {h h' : Hd} {i i' : Nat} (e : sameH h h' i i' = true) : h'.k = h.k ∧ h'.t = h.t ∧ h'.n = h.n ∧ h'.f = h.f ∧ h'.s = h.s ∧ h'.r0 = h.r0 ∧ h'.r1 = h.r1 ∧ h'.r2 = h.r2 ∧ h'.r3 = h.r3 ∧ i' = i := by
  have := of_decide_eq_true e
  simp only [this, and_self]
theorem same_parts {n : Nat} {x d : MD} (h : MD.same (n + 1) x d = true) : d.h.k = x.h.k ∧ d.h.t = x.h.t ∧ d.h.n = x.h.n ∧ d.h.f = x.h.f ∧ d.h.s = x.h.s ∧ d.h.r0 = x.h.r0 ∧ d.h.r1 = x.h.r1 ∧ d.h.r2 = x.h.r2 ∧ d.h.r3 = x.h.r3 ∧ d.items.length = x.items.length ∧ d.h.path = x.h.path ∧ all2 (MD.same n) x.items d.items = true := by
  have h1 : (sameH x.h d.h x.items.length d.items.length && decide (x.h.path = d.h.path) && all2 (MD.same n) x.items d.items) = true := h
  rw [Bool.and_eq_true, Bool.and_eq_true] at h1
  have ep := of_decide_eq_true h1.1.2
  obtain ⟨e0, e1, e2, e3, e4, e5, e6, e7, e8, e9⟩ := sameH_all h1.1.1
  exact ⟨e0, e1, e2, e3, e4, e5, e6, e7, e8, e9, ep.symm, h1.2⟩
theorem all2_eqv (n : Nat) (hI : ∀ x d y e : MD, MD.same n x d = true → MD.same n y e = true → MD.eqv n x y = MD.eqv n d e) : ∀ (xs ds ys es : List MD), all2 (MD.same n) xs ds = true → xs.length = ds.length → all2 (MD.same n) ys es = true → ys.length = es.length → allEq (MD.eqv n) xs ys = allEq (MD.eqv n) ds es
  | [], [], _, _, _, _, _, _ => by simp [allEq]
  | [], _ :: _, _, _, _, h, _, _ => by simp at h
  | _ :: _, [], _, _, _, h, _, _ => by simp at h
  | _ :: _, _ :: _, [], [], _, _, _, _ => by simp [allEq]
  | _ :: _, _ :: _, [], _ :: _, _, _, _, h => by simp at h
  | _ :: _, _ :: _, _ :: _, [], _, _, _, h => by simp at h
  | x :: xs, d :: ds, y :: ys, e :: es, h, hl, h', hl' => by
    have h1 : (MD.same n x d && all2 (MD.same n) xs ds) = true := h
    have h2 : (MD.same n y e && all2 (MD.same n) ys es) = true := h'
    rw [Bool.and_eq_true] at h1 h2
    unfold allEq
    rw [hI x d y e h1.1 h2.1, all2_eqv n hI xs ds ys es h1.2 (by simpa using hl) h2.2 (by simpa using hl')]
theorem same_eqv : ∀ (n : Nat) (x d y e : MD), MD.same n x d = true → MD.same n y e = true → MD.eqv n x y = MD.eqv n d e
  | 0, _, _, _, _, _, _ => rfl
  | n + 1, x, d, y, e, h, h' => by
    obtain ⟨e0, e1, e2, e3, e4, e5, e6, e7, e8, e9, ep, ea⟩ := same_parts h
    obtain ⟨f0, f1, f2, f3, f4, f5, f6, f7, f8, f9, fp, fa⟩ := same_parts h'
    unfold MD.eqv
    rw [all2_eqv n (same_eqv n) _ _ _ _ ea e9.symm fa f9.symm, e0, e1, e2, e3, e4, e5, e9, ep, f0, f1, f2, f3, f4, f5, f9, fp]

theorem taN0 (w : World) : (Instr.typeAssert .nilIface 49 92 true).run Tryd.prog w = .ok (.tuple #[.agg #[.pointer none], .bool false]) w := by kernel_rfl
theorem taR8 (v : Value) (w : World) : (Instr.typeAssert (.iface 92 v) 49 92 true).run Tryd.prog w = .ok (.tuple #[v, .bool true]) w := by simp [Instr.typeAssert, go_sem]
attribute [local go_sem] taN0 taR8
end Go.Proofs.YtnhbpcmiolkllabDoor
namespace Go.Proofs.YtnhbpcmiolkllabDoor
open Go.RowKit

/-- Nil, or a fault. -/
def IsErr (v : Value) (b : Bool) : Prop := (b = true ∧ v = .nilIface) ∨ (b = false ∧ ∃ m, v = .iface 97 (.pointer (some ⟨m, 0, none⟩)))
def EqP (x y : MD) (W : World) (r : Ending) (w' : World) : Prop := ∃ v, r = .returned (.tuple #[.bool (MD.eqv 4 x y).1, v]) ∧ IsErr v ((MD.eqv 4 x y).2.size == 0) ∧ Below W.heap.size W w'
def KeyP (x : MD) (W : World) (r : Ending) (w' : World) : Prop := ∃ v, r = .returned v ∧ IsErr v ((MD.eqv 4 x x).2.size == 0) ∧ Below W.heap.size W w'
def HashP (x : MD) (W : World) (r : Ending) (w' : World) : Prop := ∃ (n : Int) (v : Value), r = .returned (.tuple #[.int .u64 n, v]) ∧ ((MD.eqv 4 x x).2 = ⟨#[]⟩ → n = MD.hash 4 14695981039346656037 x ∧ v = .nilIface) ∧ Below W.heap.size W w'
theorem empty_of_size {t : ByteArray} (h : t.size = 0) : t = ⟨#[]⟩ := by
  obtain ⟨d⟩ := t
  have h' : d.size = 0 := h
  rw [Array.eq_empty_of_size_eq_zero h']
theorem Equal_all (x y : MD) (w : World) (hN : NamesAt w) (hx : MD.In w.heap.size w 4 x) (hy : MD.In w.heap.size w 4 y) (h : MD.right 4 x = true) (h' : MD.right 4 y = true) : Calls Tryd.prog 10 #[x.val, y.val] w (EqP x y w) := by
  by_cases hc : (MD.eqv 4 x y).2.size = 0
  · refine (Equal_good 4 x y w hN hx hy h h' (empty_of_size hc)).mono ?_
    rintro r w' ⟨rfl, hb⟩
    exact ⟨_, rfl, .inl ⟨by rw [hc]; rfl, rfl⟩, hb⟩
  · refine (Equal_fault 4 x y w hN hx hy h h' hc).mono ?_
    rintro r w' ⟨m, rfl, _, _, hb⟩
    have e : (MD.eqv 4 x y).1 = false := by
      rcases e : (MD.eqv 4 x y).1 with _ | _
      · rfl
      · exact absurd (by rw [eqv_tf 4 x y e]; rfl) hc
    rw [EqP, e]
    exact ⟨_, rfl, .inr ⟨by simpa using hc, m, rfl⟩, hb⟩
theorem Key_all (x : MD) (w : World) (hN : NamesAt w) (hx : MD.In w.heap.size w 4 x) (h : MD.right 4 x = true) : Calls Tryd.prog 11 #[x.val] w (KeyP x w) := by
  by_cases hc : (MD.eqv 4 x x).2.size = 0
  · refine (Key_good 4 x w hN hx h (empty_of_size hc)).mono ?_
    rintro r w' ⟨rfl, hb⟩
    exact ⟨_, rfl, .inl ⟨by rw [hc]; rfl, rfl⟩, hb⟩
  · refine (Key_fault 4 x w hN hx h hc).mono ?_
    rintro r w' ⟨m, rfl, _, _, hb⟩
    exact ⟨_, rfl, .inr ⟨by simpa using hc, m, rfl⟩, hb⟩
theorem Hash_all (x : MD) (w : World) (hN : NamesAt w) (hx : MD.In w.heap.size w 4 x) (h : MD.right 4 x = true) : Calls Tryd.prog 13 #[x.val] w (HashP x w) := by
  by_cases hc : (MD.eqv 4 x x).2.size = 0
  · refine (Hash_good 4 x w hN hx h (empty_of_size hc)).mono ?_
    rintro r w' ⟨rfl, hb⟩
    exact ⟨_, _, rfl, fun _ => ⟨rfl, rfl⟩, hb⟩
  · refine (Hash_fault 4 x w hN hx h hc).mono ?_
    rintro r w' ⟨⟨m, rfl, _⟩, hb⟩
    exact ⟨_, _, rfl, fun e => absurd (by rw [e]; rfl) hc, hb⟩
theorem sameH_self (h : Hd) (i : Nat) : sameH h h i i = true := by simp [sameH]
theorem all2_self (p : MD → MD → Bool) (h : ∀ x, p x x = true) : ∀ l : List MD, all2 p l l = true
  | [] => rfl
  | x :: l => by
    unfold all2
    rw [h x, all2_self p h l]; rfl
theorem same_self : ∀ (n : Nat) (x : MD), MD.same n x x = true
  | 0, _ => rfl
  | n + 1, x => by
    show (sameH x.h x.h x.items.length x.items.length && decide (x.h.path = x.h.path) && all2 (MD.same n) x.items x.items) = true
    rw [sameH_self, all2_self _ (same_self n)]; simp
/-- What is said of one. -/
theorem own_fact {x : MD} (hf : MD.Fl 4 x) (h : MD.right 4 x = true) (hb : brkR 4 x = false) : (MD.eqv 4 x x).1 = ((MD.eqv 4 x x).2.size == 0) := by
  by_cases hc : (MD.eqv 4 x x).2.size = 0
  · rw [hc, eqv_self 4 x hf (right_full h) hb (empty_of_size hc)]; rfl
  · rcases e : (MD.eqv 4 x x).1 with _ | _
    · symm; simpa using hc
    · exact absurd (by rw [eqv_tf 4 x x e]; rfl) hc
/-- What is said of two. -/
theorem two_fact {x y : MD} (hx : MD.Fl 4 x) (hy : MD.Fl 4 y) (h : MD.right 4 x = true) (h' : MD.right 4 y = true) (e : (MD.eqv 4 x y).1 = true) : (MD.eqv 4 x x).2 = ⟨#[]⟩ ∧ (MD.eqv 4 y y).2 = ⟨#[]⟩ ∧ MD.hash 4 14695981039346656037 x = MD.hash 4 14695981039346656037 y :=
  ⟨eqv_tf 4 x x (eqv_right 4 y x hy hx (by rw [← eqv_comm 4 x y hx hy]; exact e)), eqv_tf 4 y y (eqv_right 4 x y hx hy e), hash_eq 4 _ x y hx hy (right_full h) (right_full h') e⟩
theorem same_fact {x y : MD} (hx : MD.Fl 4 x) (h : MD.right 4 x = true) (hb : brkR 4 x = false) (hs : MD.same 4 x y = true) (hc : ((MD.eqv 4 x x).2.size == 0) = true) : (MD.eqv 4 x y).1 = true := by
  rw [← same_eqv 4 x x x y (same_self 4 x) hs, own_fact hx h hb]
  exact hc
end Go.Proofs.YtnhbpcmiolkllabDoor
