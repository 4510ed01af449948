/-
  When two data are the same.
-/
import Derived.Test.YtnhbpcmiolkllaaDoorEd
namespace Go.Proofs.YtnhbpcmiolkllaaDoor
open Go.RowKit

/-- Two lists, one by one, as far as both go. -/
def all2 {α : Type} (p : α → α → Bool) : List α → List α → Bool
  | [], _ => true
  | _ :: _, [] => true
  | x :: xs, y :: ys => p x y && all2 p xs ys
theorem all2_snoc {α : Type} (p : α → α → Bool) : ∀ (xs ys : List α) (k : Nat) (hx : k < xs.length) (hy : k < ys.length), all2 p (xs.take (k + 1)) (ys.take (k + 1)) = (all2 p (xs.take k) (ys.take k) && p xs[k] ys[k])
  | x :: xs, y :: ys, 0, _, _ => by simp [all2]
  | x :: xs, y :: ys, k + 1, hx, hy => by
    have := all2_snoc p xs ys k (by simpa using hx) (by simpa using hy)
    simp only [List.take_succ_cons, List.getElem_cons_succ, all2]
    rw [this, Bool.and_assoc]
theorem all2_take {α : Type} (p : α → α → Bool) : ∀ (xs ys : List α) (k : Nat), all2 p (xs.take k) (ys.take k) = false → all2 p xs ys = false
  | [], ys, k, h => by simp [all2] at h
  | x :: xs, [], k, h => by cases k <;> simp [all2] at h
  | x :: xs, y :: ys, 0, h => by simp [all2] at h
  | x :: xs, y :: ys, k + 1, h => by
    simp only [List.take_succ_cons, all2, Bool.and_eq_false_iff] at h ⊢
    rcases h with h | h
    · exact .inl h
    · exact .inr (all2_take p xs ys k h)
theorem all2_comm {α : Type} (p : α → α → Bool) (hp : ∀ x y, p x y = p y x) : ∀ (xs ys : List α), all2 p xs ys = all2 p ys xs
  | [], [] => rfl
  | [], _ :: _ => rfl
  | _ :: _, [] => rfl
  | x :: xs, y :: ys => by simp only [all2]; rw [hp x y, all2_comm p hp xs ys]

/-- Two heads. -/
def sameH (a b : Hd) (il jl : Nat) : Bool := decide (a.k = b.k ∧ a.t = b.t ∧ a.n = b.n ∧ a.f = b.f ∧ a.s = b.s ∧ a.r0 = b.r0 ∧ a.r1 = b.r1 ∧ a.r2 = b.r2 ∧ a.r3 = b.r3 ∧ a.path.length = b.path.length ∧ il = jl)
/-- Two data. -/
def MD.same : Nat → MD → MD → Bool
  | 0, _, _ => true
  | n + 1, a, b => sameH a.h b.h a.items.length b.items.length && decide (a.h.path = b.h.path) && all2 (MD.same n) a.items b.items
theorem MD.same_comm : ∀ (n : Nat) (a b : MD), MD.same n a b = MD.same n b a
  | 0, _, _ => rfl
  | n + 1, a, b => by
    have e1 : sameH a.h b.h a.items.length b.items.length = sameH b.h a.h b.items.length a.items.length := decide_eq_decide.2 ⟨fun h => by simp [h], fun h => by simp [h]⟩
    have e2 : decide (a.h.path = b.h.path) = decide (b.h.path = a.h.path) := decide_eq_decide.2 ⟨fun h => h.symm, fun h => h.symm⟩
    simp only [MD.same]
    rw [e1, e2, all2_comm _ (MD.same_comm n)]
theorem byteArray_ext {s t : ByteArray} (h : s.toList = t.toList) : s = t := by
  rw [Lib.toList_data, Lib.toList_data] at h
  exact ByteArray.ext (Array.toList_inj.1 h)
theorem kept2 {w W : World} {c d : Array Value} {t u : TypeId} (b : Below ((w.alloc (.cells c t)).alloc (.cells d u)).heap.size ((w.alloc (.cells c t)).alloc (.cells d u)) W) : Below w.heap.size w W ∧ (∀ j, W.cell? ⟨w.heap.size, j, none⟩ = c[j]?) ∧ ∀ j, W.cell? ⟨w.heap.size + 1, j, none⟩ = d[j]? :=
  ⟨(below2 w _ _).trans (b.mono (by simp; omega)), fun j => by
    rw [b.cell (p := ⟨w.heap.size, j, none⟩) (by simp; omega), World.cell?_alloc_lt _ _ _ (by simp)]; exact row_at (heap_alloc_new _ _) j, fun j => by
    rw [b.cell (p := ⟨w.heap.size + 1, j, none⟩) (by simp)]; exact row_at (heap2_1 _ _ _) j⟩
def PathRel (path path' : List Int) (W2 : World) (i : Value) (wr : World) : Prop := ∃ j : Nat, j ≤ path.length ∧ i = .int .i64 j ∧ path.take j = path'.take j ∧ Below W2.heap.size W2 wr
def SameRel (n : Nat) (items items' : List MD) (W2 : World) (i : Value) (wr : World) : Prop := ∃ j : Nat, j ≤ items.length ∧ i = .int .i64 j ∧ all2 (MD.same n) (items.take j) (items'.take j) = true ∧ Below W2.heap.size W2 wr
end Go.Proofs.YtnhbpcmiolkllaaDoor
