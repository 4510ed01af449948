/-
  What tree.Same still has to look at: two lists a row; rows in memory that the call owns, stored into, cut and grown.
-/
import Derived.Test.YthbnegggohegkaaGreatDoorSa
import Derived.Laws.AppendOwn
namespace Go.Proofs.YthbnegggohegkaaGreatDoor
open Go.RowKit

/-- A list of nodes as a slice: it lies in memory below B. -/
def RowIn (B : Nat) (w : World) (p : Option Addr) (c : Nat) (xs : List MT) : Prop :=
  xs.length ≤ c ∧ c ≤ maxLen ∧ (xs = [] ∨ ∃ b o, p = some ⟨b, o, none⟩ ∧ b < B ∧ MT.InL B w b o xs)

theorem RowIn.below {B : Nat} {w w' : World} {p : Option Addr} {c : Nat} {xs : List MT} (h : RowIn B w p c xs) (hb : Below B w w') : RowIn B w' p c xs :=
  ⟨h.1, h.2.1, h.2.2.imp id fun ⟨b, o, hp, hlt, hl⟩ => ⟨b, o, hp, hlt, MT.InL.below hb b o hlt xs hl⟩⟩

theorem RowIn.mono {B B' : Nat} {w : World} {p : Option Addr} {c : Nat} {xs : List MT} (h : RowIn B w p c xs) (hB : B ≤ B') : RowIn B' w p c xs :=
  ⟨h.1, h.2.1, h.2.2.imp id fun ⟨b, o, hp, hlt, hl⟩ => ⟨b, o, hp, by omega, MT.InL.mono hB b o xs hl⟩⟩

theorem MT.In.row {B : Nat} {w : World} {t : MT} (h : t.In B w) : RowIn B w t.ptr t.cap t.kids := ⟨h.len_le, h.cap_le, h.kidsL⟩

/-- Two lists that are held against each other. -/
structure Fr where
  p : Option Addr
  c : Nat
  xs : List MT
  q : Option Addr
  d : Nat
  ys : List MT

def Fr.cells (f : Fr) : List Value := [.slice f.p f.xs.length f.c, .slice f.q f.ys.length f.d]
def Fr.In (B : Nat) (w : World) (f : Fr) : Prop := RowIn B w f.p f.c f.xs ∧ RowIn B w f.q f.d f.ys ∧ f.xs.length = f.ys.length
def flat (fs : List Fr) : List Value := fs.flatMap Fr.cells
def total : List Fr → Nat
  | [] => 0
  | f :: fs => MT.sizeL f.xs + total fs
def okAll : List Fr → Bool
  | [] => true
  | f :: fs => MT.alikeL f.xs f.ys && okAll fs

theorem flat_length (fs : List Fr) : (flat fs).length = fs.length * 2 := by
  induction fs with
  | nil => rfl
  | cons f fs ih => simp only [flat, List.flatMap_cons, List.length_append] at *; rw [ih]; simp [Fr.cells]; omega
theorem flat_append (fs gs : List Fr) : flat (fs ++ gs) = flat fs ++ flat gs := by simp [flat]
theorem flat_one (f : Fr) : flat [f] = f.cells := by simp [flat]
theorem total_append (fs gs : List Fr) : total (fs ++ gs) = total fs + total gs := by
  induction fs with
  | nil => simp [total]
  | cons f fs ih => simp [total, ih]; omega
theorem okAll_append (fs gs : List Fr) : okAll (fs ++ gs) = (okAll fs && okAll gs) := by
  induction fs with
  | nil => simp [okAll]
  | cons f fs ih => simp [okAll, ih, Bool.and_assoc]

theorem two_cases {α : Type} (l : List α) : l = [] ∨ ∃ gs f, l = gs ++ [f] := by
  cases h : l.reverse with
  | nil => left; simpa using congrArg List.reverse h
  | cons f gs => right; exact ⟨gs.reverse, f, by simpa using congrArg List.reverse h⟩

theorem cell_two_sets (w : World) (g B i j o : Nat) (u v : Value) (h : B ≠ g) : (((w.setCell ⟨g, i, none⟩ u).setCell ⟨g, j, none⟩ v).drew).cell? ⟨B, o, none⟩ = w.cell? ⟨B, o, none⟩ := by
  show ((w.setCell ⟨g, i, none⟩ u).setCell ⟨g, j, none⟩ v).cell? ⟨B, o, none⟩ = w.cell? ⟨B, o, none⟩
  rw [World.cell?_setCell_other _ _ _ _ (fun e => h (by cases e; rfl)), World.cell?_setCell_other _ _ _ _ (fun e => h (by cases e; rfl))]

/-! ### Rows that the call owns -/
section
variable {w : World} {base : Nat} {e : TypeId} {size n : Nat} {g cap : Nat} {xs : List Value}

/-- A cell of such a row. -/
theorem own_cell (h : w.ownsRow base e size (.slice (some ⟨g, 0, none⟩) n cap) n xs) (j : Nat) (v : Value) (hj : xs[j]? = some v) : w.cell? ⟨g, j, none⟩ = some v ∧ w.frozen? ⟨g, j, none⟩ = false := by
  rcases h.2 with ⟨h0, _⟩ | ⟨g', cap', cur, hv, hb, hg, hn, hm, hs, ht⟩
  · cases h0
  · cases hv
    have hjl : j < xs.length := (List.getElem?_eq_some_iff.1 hj).1
    have hc : cur[j]? = some v := by
      rw [← ht] at hj
      rw [List.getElem?_take_of_lt (by rw [h.1] at hjl; exact hjl)] at hj
      simpa using hj
    refine ⟨?_, ?_⟩
    · simp [World.cell?, hg, hc]
    · simp [World.frozen?, hg]

/-- A store into it. -/
theorem own_set (h : w.ownsRow base e size (.slice (some ⟨g, 0, none⟩) n cap) n xs) (j : Nat) (v : Value) : (w.setCell ⟨g, j, none⟩ v).ownsRow base e size (.slice (some ⟨g, 0, none⟩) n cap) n (xs.set j v) := by
  rcases h.2 with ⟨h0, _⟩ | ⟨g', cap', cur, hv, hb, hg, hn, hm, hs, ht⟩
  · cases h0
  · cases hv
    refine ⟨by simpa using h.1, .inr ⟨g, cap, cur.setIfInBounds j v, rfl, hb, ?_, hn, hm, by simpa using hs, ?_⟩⟩
    · have hlt := (Array.getElem?_eq_some_iff.1 hg).1
      show (w.heap.modify g _)[g]? = _
      rw [Array.getElem?_eq_getElem (by rw [Array.size_modify]; exact hlt), Array.getElem_modify_self]
      have := (Array.getElem?_eq_some_iff.1 hg).2
      rw [this]
      rfl
    · rw [Array.toList_setIfInBounds, List.take_set, ht]

/-- The row cut shorter. -/
theorem own_cut (h : w.ownsRow base e size (.slice (some ⟨g, 0, none⟩) n cap) n xs) (m : Nat) (hm : m ≤ n) : w.ownsRow base e size (.slice (some ⟨g, 0, none⟩) m cap) m (xs.take (m * size)) := by
  rcases h.2 with ⟨h0, _⟩ | ⟨g', cap', cur, hv, hb, hg, hn, hmx, hs, ht⟩
  · cases h0
  · cases hv
    have hle : m * size ≤ n * size := Nat.mul_le_mul_right _ hm
    refine ⟨by rw [List.length_take, h.1]; omega, .inr ⟨g, cap, cur, rfl, hb, hg, by omega, hmx, hs, ?_⟩⟩
    rw [← ht, List.take_take, Nat.min_eq_left hle]
end
end Go.Proofs.YthbnegggohegkaaGreatDoor
