/-
  Events in memory; blocks.
-/
import Derived.Test.YtapakbibofnhkaaDoorChecked
import Derived.WalkKit
import Derived.WalkMore
import Derived.MapKept
import Derived.ChangeMaps4
import Derived.Carry
import Derived.LoopN
import Derived.BigRegion
import Derived.BigQuiet
import Derived.Deep.QuietTactic
import Derived.Deep.RegionHeld3
import Derived.Lib.Hide
namespace Go.Proofs.YtapakbibofnhkaaDoor
open Go.RowKit Go.ChangeMaps

theorem below1 (w : World) (a : Obj) : Below w.heap.size w (w.alloc a) := (Below.refl _ _).alloc (Nat.le_refl _) _
theorem below2 (w : World) (a b : Obj) : Below w.heap.size w ((w.alloc a).alloc b) := (below1 w a).alloc (by simp) _
theorem below3 (w : World) (a b c : Obj) : Below w.heap.size w (((w.alloc a).alloc b).alloc c) := (below2 w a b).alloc (by simp; omega) _
theorem Below.narrow' {B B' : Nat} {w w' : World} (h : Below B w w') (hb : B' ≤ B) : Below B' w w' := ⟨h.1, h.2, h.3, h.4, fun k hk => h.5 k (Nat.lt_of_lt_of_le hk hb)⟩

theorem bcell {W w1 : World} (hb : Below W.heap.size W w1) : (∀ b o, b < W.heap.size → w1.cell? ⟨b, o, none⟩ = W.cell? ⟨b, o, none⟩) ∧ (∀ b o, b < W.heap.size → w1.frozen? ⟨b, o, none⟩ = W.frozen? ⟨b, o, none⟩) :=
  ⟨fun b o h => hb.cell (p := ⟨b, o, none⟩) h, fun b o h => hb.frozen (p := ⟨b, o, none⟩) h⟩


theorem arr_new {α : Type} (h : Array α) (o o' : α) : (h.push o).setIfInBounds h.size o' = h.push o' := by
  apply Array.ext
  · simp
  · intro i h1 h2
    rw [Array.getElem_setIfInBounds (by simpa using h1)]
    by_cases hi : h.size = i
    · subst hi; simp
    · rw [if_neg hi, Array.getElem_push, Array.getElem_push]
      have : i < h.size := by simp at h2; omega
      simp [this]
theorem arr_old {α : Type} (h : Array α) (o o' : α) (b : Nat) (hb : b < h.size) : (h.push o).setIfInBounds b o' = (h.setIfInBounds b o').push o := by
  apply Array.ext
  · simp
  · intro i h1 h2
    rw [Array.getElem_setIfInBounds (by simpa using h1), Array.getElem_push, Array.getElem_push]
    by_cases hi : b = i
    · subst hi; simp [hb]
    · rw [if_neg hi]
      by_cases hl : i < h.size
      · simp [hl, hi]
      · simp [hl]
theorem setBlock_new (w : World) (o o' : Obj) (b : Nat) (h : b = w.heap.size) : setBlock (w.alloc o) b o' = w.alloc o' := by
  subst h
  exact congrArg (fun h => { w with heap := h }) (arr_new w.heap o o')
theorem setBlock_old (w : World) (o o' : Obj) (b : Nat) (h : b < w.heap.size) : setBlock (w.alloc o) b o' = (setBlock w b o').alloc o :=
  congrArg (fun h => { w with heap := h }) (arr_old w.heap o o' b h)
theorem heap_new (w : World) (o : Obj) (b : Nat) (h : b = w.heap.size) : (w.alloc o).heap[b]? = some o := by
  subst h; exact (MapKept.heap_alloc w o).1
theorem heap_old (w : World) (o : Obj) (b : Nat) (h : b < w.heap.size) : (w.alloc o).heap[b]? = w.heap[b]? := (MapKept.heap_alloc w o).2 b h

theorem setBlock_size (w : World) (b : Nat) (o : Obj) : (setBlock w b o).heap.size = w.heap.size := by simp [setBlock]
theorem setBlock_same (w : World) (b : Nat) (o : Obj) (h : b < w.heap.size) : (setBlock w b o).heap[b]? = some o := by simp [setBlock, h]
theorem setBlock_other (w : World) (b c : Nat) (o : Obj) (h : c ≠ b) : (setBlock w b o).heap[c]? = w.heap[c]? := by simp [setBlock, Ne.symm h]

/-- A block of cells: its cells, and that they may be written. -/
theorem cells_of {w : World} {b : Nat} {cs : Array Value} {t : TypeId} (h : w.heap[b]? = some (.cells cs t)) : (∀ j, w.cell? ⟨b, j, none⟩ = cs[j]?) ∧ ∀ j, w.frozen? ⟨b, j, none⟩ = false :=
  ⟨fun j => by simp [World.cell?, h], fun j => by simp [World.frozen?, h]⟩
theorem heap_set {w : World} {b : Nat} {cs : Array Value} {t : TypeId} (h : w.heap[b]? = some (.cells cs t)) (j : Nat) (v : Value) : (w.setCell ⟨b, j, none⟩ v).heap[b]? = some (.cells (cs.setIfInBounds j v) t) := by
  have hlt := (Array.getElem?_eq_some_iff.1 h).1
  show (w.heap.modify b _)[b]? = _
  rw [Array.getElem?_eq_getElem (by rw [Array.size_modify]; exact hlt), Array.getElem_modify_self]
  have e := (Array.getElem?_eq_some_iff.1 h).2
  rw [e]
  rfl
theorem heap_set_other (w : World) (b c j : Nat) (v : Value) (h : c ≠ b) : (w.setCell ⟨b, j, none⟩ v).heap[c]? = w.heap[c]? := Below.heap_setCell w ⟨b, j, none⟩ v c h
theorem heap_lt {w : World} {b : Nat} {o : Obj} (h : w.heap[b]? = some o) : b < w.heap.size := (Array.getElem?_eq_some_iff.1 h).1

theorem below_drewN {B : Nat} {w w' : World} (h : Below B w w') (n : Nat) : Below B w (w'.drewN n) := ⟨h.1, h.2, h.3, h.4, h.5⟩
theorem ite_yes {c : Bool} {A B : Prop} (hc : c = true) (h : A) : if c = true then A else B := by rw [if_pos hc]; exact h
/-- An event: its Kind, its place, its text. -/
structure Ev where
  k : Int
  a : Int
  t : ByteArray
  deriving Inhabited
/-- Its three cells. -/
def Ev.vs (e : Ev) : Array Value := #[.int .i64 e.k, .int .i64 e.a, .string e.t]

theorem bb_self (s : ByteArray) : (s == s) = true := by rw [beq_toListBytes]; simp
theorem bb_eq {s t : ByteArray} (h : (s == t) = true) : s = t := by
  rw [beq_toListBytes, ByteArray.toList_eq, ByteArray.toList_eq] at h
  have h1 : s.data.toList = t.data.toList := by simpa using h
  exact ByteArray.ext (Array.toList_inj.1 h1)
/-- Are two events alike? -/
def Ev.same (e f : Ev) : Bool := e.k == f.k && e.a == f.a && e.t == f.t
theorem Ev.same_iff {e f : Ev} : e.same f = true ↔ e = f := by
  cases e; cases f
  simp only [Ev.same, Bool.and_eq_true, beq_iff_eq, Ev.mk.injEq]
  constructor
  · rintro ⟨⟨h1, h2⟩, h3⟩; exact ⟨h1, h2, bb_eq h3⟩
  · rintro ⟨h1, h2, h3⟩; subst h3; exact ⟨⟨h1, h2⟩, bb_self _⟩

/-- A list of events lies in memory. -/
def EvsAt (w : World) (pp : Option Addr) (l : List Ev) : Prop := l = [] ∨ ∃ b f, pp = some ⟨b, f, none⟩ ∧ b < w.heap.size ∧ ∀ (i : Nat) (hi : i < l.length),
  w.cell? ⟨b, f + i * 3, none⟩ = some (.int .i64 l[i].k) ∧ w.cell? ⟨b, f + i * 3 + 1, none⟩ = some (.int .i64 l[i].a) ∧ w.cell? ⟨b, f + i * 3 + 2, none⟩ = some (.string l[i].t)
theorem EvsAt.below {w w' : World} {B : Nat} {pp : Option Addr} {l : List Ev} (h : EvsAt w pp l) (hb : Below B w w') (hB : w.heap.size ≤ B) : EvsAt w' pp l := by
  rcases h with h | ⟨b, f, h1, h2, h3⟩
  · exact .inl h
  · refine .inr ⟨b, f, h1, Nat.lt_of_lt_of_le h2 hb.size, fun i hi => ?_⟩
    have hc : ∀ o, w'.cell? ⟨b, o, none⟩ = w.cell? ⟨b, o, none⟩ := fun o => hb.cell (p := ⟨b, o, none⟩) (Nat.lt_of_lt_of_le h2 hB)
    rw [hc, hc, hc]
    exact h3 i hi
theorem EvsAt.nonempty {w : World} {pp : Option Addr} {l : List Ev} (h : EvsAt w pp l) (hn : 0 < l.length) : ∃ b f, pp = some ⟨b, f, none⟩ ∧ b < w.heap.size ∧ ∀ (i : Nat) (hi : i < l.length),
  w.cell? ⟨b, f + i * 3, none⟩ = some (.int .i64 l[i].k) ∧ w.cell? ⟨b, f + i * 3 + 1, none⟩ = some (.int .i64 l[i].a) ∧ w.cell? ⟨b, f + i * 3 + 2, none⟩ = some (.string l[i].t) := by
  rcases h with h | h
  · subst h; cases hn
  · exact h
theorem EvsAt.take {w : World} {pp : Option Addr} {l : List Ev} (h : EvsAt w pp l) (n : Nat) : EvsAt w pp (l.take n) := by
  rcases h with h | ⟨b, f, h1, h2, h3⟩
  · exact .inl (by simp [h])
  · refine .inr ⟨b, f, h1, h2, fun i hi => ?_⟩
    have hi' : i < l.length := by simp at hi; omega
    simpa using h3 i hi'
end Go.Proofs.YtapakbibofnhkaaDoor
