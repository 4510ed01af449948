/-
  Trees as they lie in memory: a node's value, the memory that its Kids lie in, and what is told of trees: how many nodes, alike.
-/
import Derived.Below
import Derived.RowKit
namespace Go.Proofs.YthbnegggohegkaaGreatDoor
open Go.RowKit

/-- A tree, with the address and the room of its list of Kids. -/
inductive MT where
  | node (kind : Int) (text : ByteArray) (n at_ : Int) (p : Option Addr) (cap : Nat) (kids : List MT)

namespace MT
def kind : MT → Int | node k _ _ _ _ _ _ => k
def text : MT → ByteArray | node _ s _ _ _ _ _ => s
def num : MT → Int | node _ _ n _ _ _ _ => n
def at_ : MT → Int | node _ _ _ a _ _ _ => a
def ptr : MT → Option Addr | node _ _ _ _ p _ _ => p
def cap : MT → Nat | node _ _ _ _ _ c _ => c
def kids : MT → List MT | node _ _ _ _ _ _ ks => ks

theorem kind_node (k : Int) (s : ByteArray) (n a : Int) (p : Option Addr) (c : Nat) (ks : List MT) : (node k s n a p c ks).kind = k := rfl
theorem text_node (k : Int) (s : ByteArray) (n a : Int) (p : Option Addr) (c : Nat) (ks : List MT) : (node k s n a p c ks).text = s := rfl
theorem num_node (k : Int) (s : ByteArray) (n a : Int) (p : Option Addr) (c : Nat) (ks : List MT) : (node k s n a p c ks).num = n := rfl
theorem at_node (k : Int) (s : ByteArray) (n a : Int) (p : Option Addr) (c : Nat) (ks : List MT) : (node k s n a p c ks).at_ = a := rfl
theorem ptr_node (k : Int) (s : ByteArray) (n a : Int) (p : Option Addr) (c : Nat) (ks : List MT) : (node k s n a p c ks).ptr = p := rfl
theorem cap_node (k : Int) (s : ByteArray) (n a : Int) (p : Option Addr) (c : Nat) (ks : List MT) : (node k s n a p c ks).cap = c := rfl
theorem kids_node (k : Int) (s : ByteArray) (n a : Int) (p : Option Addr) (c : Nat) (ks : List MT) : (node k s n a p c ks).kids = ks := rfl

def row (t : MT) : Value := .slice t.ptr t.kids.length t.cap
def cells (t : MT) : Array Value := #[.int .i64 t.kind, .string t.text, .int .i64 t.num, .int .i64 t.at_, t.row]
def val (t : MT) : Value := .agg t.cells

/-- The five cells of a node. -/
structure CellsAt (w : World) (b o : Nat) (t : MT) : Prop where
  c0 : w.cell? ⟨b, o, none⟩ = some (.int .i64 t.kind)
  c1 : w.cell? ⟨b, o + 1, none⟩ = some (.string t.text)
  c2 : w.cell? ⟨b, o + 2, none⟩ = some (.int .i64 t.num)
  c3 : w.cell? ⟨b, o + 3, none⟩ = some (.int .i64 t.at_)
  c4 : w.cell? ⟨b, o + 4, none⟩ = some (.slice t.ptr t.kids.length t.cap)

mutual
/-- A tree's list of Kids lies in memory below B. -/
def In (B : Nat) (w : World) : MT → Prop
  | node _ s _ _ p c ks => s.size ≤ maxLen ∧ ks.length ≤ c ∧ c ≤ maxLen ∧ (ks = [] ∨ ∃ b o, p = some ⟨b, o, none⟩ ∧ b < B ∧ InL B w b o ks)
/-- Nodes behind one another. -/
def InL (B : Nat) (w : World) (b o : Nat) : List MT → Prop
  | [] => True
  | t :: ts => CellsAt w b o t ∧ In B w t ∧ InL B w b (o + 5) ts
end

theorem CellsAt.below {w w' : World} {B b o : Nat} {t : MT} (h : CellsAt w b o t) (hB : b < B) (hb : Below B w w') : CellsAt w' b o t :=
  ⟨(hb.cell (p := ⟨b, _, none⟩) hB).trans h.c0, (hb.cell (p := ⟨b, _, none⟩) hB).trans h.c1, (hb.cell (p := ⟨b, _, none⟩) hB).trans h.c2,
   (hb.cell (p := ⟨b, _, none⟩) hB).trans h.c3, (hb.cell (p := ⟨b, _, none⟩) hB).trans h.c4⟩

mutual
theorem In.below {B : Nat} {w w' : World} (hb : Below B w w') : ∀ (t : MT), In B w t → In B w' t
  | node _ s _ _ p c ks, h => by
    rw [In] at h ⊢
    obtain ⟨h1, h2, h3, h4⟩ := h
    refine ⟨h1, h2, h3, ?_⟩
    rcases h4 with h4 | ⟨b, o, hp, hlt, hl⟩
    · exact .inl h4
    · exact .inr ⟨b, o, hp, hlt, InL.below hb b o hlt ks hl⟩
theorem InL.below {B : Nat} {w w' : World} (hb : Below B w w') (b o : Nat) (hlt : b < B) : ∀ (ts : List MT), InL B w b o ts → InL B w' b o ts
  | [], _ => by rw [InL]; trivial
  | t :: ts, h => by
    rw [InL] at h ⊢
    exact ⟨h.1.below hlt hb, In.below hb t h.2.1, InL.below hb b (o + 5) hlt ts h.2.2⟩
end

mutual
theorem In.mono {B B' : Nat} {w : World} (hB : B ≤ B') : ∀ (t : MT), In B w t → In B' w t
  | node _ s _ _ p c ks, h => by
    rw [In] at h ⊢
    obtain ⟨h1, h2, h3, h4⟩ := h
    refine ⟨h1, h2, h3, ?_⟩
    rcases h4 with h4 | ⟨b, o, hp, hlt, hl⟩
    · exact .inl h4
    · exact .inr ⟨b, o, hp, by omega, InL.mono hB b o ks hl⟩
theorem InL.mono {B B' : Nat} {w : World} (hB : B ≤ B') (b o : Nat) : ∀ (ts : List MT), InL B w b o ts → InL B' w b o ts
  | [], _ => by rw [InL]; trivial
  | t :: ts, h => by
    rw [InL] at h ⊢
    exact ⟨h.1, In.mono hB t h.2.1, InL.mono hB b (o + 5) ts h.2.2⟩
end

theorem In.text_le {B : Nat} {w : World} {t : MT} (h : In B w t) : t.text.size ≤ maxLen := by cases t; rw [In] at h; exact h.1
theorem In.len_le {B : Nat} {w : World} {t : MT} (h : In B w t) : t.kids.length ≤ t.cap := by cases t; rw [In] at h; exact h.2.1
theorem In.cap_le {B : Nat} {w : World} {t : MT} (h : In B w t) : t.cap ≤ maxLen := by cases t; rw [In] at h; exact h.2.2.1
theorem In.kidsL {B : Nat} {w : World} {t : MT} (h : In B w t) : t.kids = [] ∨ ∃ b o, t.ptr = some ⟨b, o, none⟩ ∧ b < B ∧ InL B w b o t.kids := by cases t; rw [In] at h; exact h.2.2.2

theorem InL.get {B : Nat} {w : World} {b : Nat} : ∀ {ts : List MT} {o : Nat}, InL B w b o ts → ∀ (i : Nat) (hi : i < ts.length), CellsAt w b (o + i * 5) ts[i] ∧ In B w ts[i]
  | t :: ts, o, h, 0, _ => by rw [InL] at h; exact ⟨by simpa using h.1, h.2.1⟩
  | t :: ts, o, h, i + 1, hi => by
    rw [InL] at h
    have := InL.get h.2.2 i (by simpa using hi)
    rw [show o + 5 + i * 5 = o + (i + 1) * 5 by omega] at this
    simpa using this

theorem InL.drop {B : Nat} {w : World} {b : Nat} : ∀ {ts : List MT} {o : Nat}, InL B w b o ts → ∀ i, InL B w b (o + i * 5) (ts.drop i)
  | ts, o, h, 0 => by simpa using h
  | [], o, h, i + 1 => by simp [InL]
  | t :: ts, o, h, i + 1 => by
    rw [InL] at h
    have := InL.drop h.2.2 i
    rw [show o + 5 + i * 5 = o + (i + 1) * 5 by omega] at this
    simpa using this

mutual
/-- How many nodes there are. -/
def size : MT → Nat
  | node _ _ _ _ _ _ ks => 1 + sizeL ks
def sizeL : List MT → Nat
  | [] => 0
  | t :: ts => size t + sizeL ts
end

theorem size_eq (t : MT) : t.size = 1 + sizeL t.kids := by cases t; rw [size]; rfl
theorem size_pos (t : MT) : 1 ≤ t.size := by rw [size_eq]; omega
theorem sizeL_append (xs ys : List MT) : sizeL (xs ++ ys) = sizeL xs + sizeL ys := by
  induction xs with
  | nil => simp [sizeL]
  | cons x xs ih => simp [sizeL, ih]; omega
theorem sizeL_take_succ (ts : List MT) (i : Nat) (hi : i < ts.length) : sizeL (ts.take (i + 1)) = sizeL (ts.take i) + (ts[i]).size := by
  rw [List.take_succ_eq_append_getElem hi, sizeL_append]; simp [sizeL]
theorem sizeL_take_le (ts : List MT) (i : Nat) : sizeL (ts.take i) ≤ sizeL ts := by
  have := sizeL_append (ts.take i) (ts.drop i)
  rw [List.take_append_drop] at this; omega
theorem length_le_sizeL : ∀ ts : List MT, ts.length ≤ sizeL ts
  | [] => by simp [sizeL]
  | t :: ts => by have := length_le_sizeL ts; have := size_pos t; simp [sizeL]; omega

/-- Kind, Text, N and how many Kids are the same. -/
def like (a b : MT) : Bool := a.kind == b.kind && a.text.data.toList == b.text.data.toList && a.num == b.num && a.kids.length == b.kids.length

mutual
/-- The same, but for places. -/
def alike : MT → MT → Bool
  | node k s n _ _ _ ks, b => k == b.kind && s.data.toList == b.text.data.toList && n == b.num && ks.length == b.kids.length && alikeL ks b.kids
def alikeL : List MT → List MT → Bool
  | [], _ => true
  | _ :: _, [] => true
  | x :: xs, y :: ys => alike x y && alikeL xs ys
end
theorem alike_eq (a b : MT) : alike a b = (like a b && alikeL a.kids b.kids) := by cases a; rw [alike]; rfl

end MT
end Go.Proofs.YthbnegggohegkaaGreatDoor
