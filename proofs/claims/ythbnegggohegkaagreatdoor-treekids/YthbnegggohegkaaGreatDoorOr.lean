/-
  A tree's order, with depths; what tree.nodes still has to come to.
-/
import Derived.Test.YthbnegggohegkaaGreatDoorFr
namespace Go.Proofs.YthbnegggohegkaaGreatDoor
open Go.RowKit

mutual
/-- A tree's order: how deep, and the node. -/
def MT.ord (d : Nat) : MT → List (Nat × MT)
  | node k s n a p c ks => (d, node k s n a p c ks) :: MT.ordL (d + 1) ks
def MT.ordL (d : Nat) : List MT → List (Nat × MT)
  | [] => []
  | t :: ts => MT.ord d t ++ MT.ordL d ts
end

theorem MT.ord_eq (d : Nat) (t : MT) : MT.ord d t = (d, t) :: MT.ordL (d + 1) t.kids := by cases t; rw [MT.ord]; rfl
theorem MT.ordL_cons (d : Nat) (t : MT) (ts : List MT) : MT.ordL d (t :: ts) = MT.ord d t ++ MT.ordL d ts := by rw [MT.ordL]
theorem MT.ordL_nil (d : Nat) : MT.ordL d [] = [] := by rw [MT.ordL]

mutual
theorem MT.ord_length : ∀ (t : MT) (d : Nat), (MT.ord d t).length = t.size
  | node k s n a p c ks, d => by rw [MT.ord, MT.size, List.length_cons, MT.ordL_length ks (d + 1)]; omega
theorem MT.ordL_length : ∀ (ts : List MT) (d : Nat), (MT.ordL d ts).length = MT.sizeL ts
  | [], d => by rw [MT.ordL, MT.sizeL]; rfl
  | t :: ts, d => by rw [MT.ordL, MT.sizeL, List.length_append, MT.ord_length t d, MT.ordL_length ts d]
end

/-- A list that is still to come. -/
structure R1 where
  p : Option Addr
  c : Nat
  xs : List MT

def R1.cell (f : R1) : Value := .slice f.p f.xs.length f.c
/-- Its nodes lie below B, or in the block Bt. -/
def R1.In (B Bt : Nat) (w : World) (f : R1) : Prop :=
  f.xs.length ≤ f.c ∧ f.c ≤ maxLen ∧ (f.xs = [] ∨ ∃ b o, f.p = some ⟨b, o, none⟩ ∧ (b < B ∨ b = Bt) ∧ MT.InL B w b o f.xs)

theorem MT.CellsAt.keep {w w' : World} {b o : Nat} {t : MT} (h : MT.CellsAt w b o t) (hc : ∀ o, w'.cell? ⟨b, o, none⟩ = w.cell? ⟨b, o, none⟩) : MT.CellsAt w' b o t :=
  ⟨(hc _).trans h.c0, (hc _).trans h.c1, (hc _).trans h.c2, (hc _).trans h.c3, (hc _).trans h.c4⟩

mutual
theorem MT.In.keep {B : Nat} {w w' : World} (hc : ∀ k o, k < B → w'.cell? ⟨k, o, none⟩ = w.cell? ⟨k, o, none⟩) : ∀ (t : MT), MT.In B w t → MT.In B w' t
  | node _ s _ _ p c ks, h => by
    rw [MT.In] at h ⊢
    obtain ⟨h1, h2, h3, h4⟩ := h
    refine ⟨h1, h2, h3, ?_⟩
    rcases h4 with h4 | ⟨b, o, hp, hlt, hl⟩
    · exact .inl h4
    · exact .inr ⟨b, o, hp, hlt, MT.InL.keep hc b o (fun o => hc b o hlt) ks hl⟩
theorem MT.InL.keep {B : Nat} {w w' : World} (hc : ∀ k o, k < B → w'.cell? ⟨k, o, none⟩ = w.cell? ⟨k, o, none⟩) (b o : Nat) (hb : ∀ o, w'.cell? ⟨b, o, none⟩ = w.cell? ⟨b, o, none⟩) : ∀ (ts : List MT), MT.InL B w b o ts → MT.InL B w' b o ts
  | [], _ => by rw [MT.InL]; trivial
  | t :: ts, h => by
    rw [MT.InL] at h ⊢
    exact ⟨h.1.keep hb, MT.In.keep hc t h.2.1, MT.InL.keep hc b (o + 5) hb ts h.2.2⟩
end

theorem R1.In.keep {B Bt : Nat} {w w' : World} {f : R1} (h : f.In B Bt w) (hc : ∀ k o, k < B ∨ k = Bt → w'.cell? ⟨k, o, none⟩ = w.cell? ⟨k, o, none⟩) : f.In B Bt w' :=
  ⟨h.1, h.2.1, h.2.2.imp id fun ⟨b, o, hp, hlt, hl⟩ => ⟨b, o, hp, hlt, MT.InL.keep (fun k o hk => hc k o (.inl hk)) b o (fun o => hc b o hlt) f.xs hl⟩⟩

/-- What is to come, the lists by depth, the deepest first. -/
def remT : List R1 → List (Nat × MT)
  | [] => []
  | f :: gs => MT.ordL (gs.length + 1) f.xs ++ remT gs
def rem (fs : List R1) : List (Nat × MT) := remT fs.reverse
theorem rem_nil : rem [] = [] := rfl
theorem rem_snoc (gs : List R1) (f : R1) : rem (gs ++ [f]) = MT.ordL (gs.length + 1) f.xs ++ rem gs := by simp [rem, remT]

def sizes : List R1 → Nat
  | [] => 0
  | f :: fs => MT.sizeL f.xs + sizes fs
theorem sizes_append (fs gs : List R1) : sizes (fs ++ gs) = sizes fs + sizes gs := by
  induction fs with
  | nil => simp [sizes]
  | cons f fs ih => simp [sizes, ih]; omega
end Go.Proofs.YthbnegggohegkaaGreatDoor
