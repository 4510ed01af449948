/-
  What tree.Same still has to look at: two lists a row; rows in memory that the call owns, stored into, cut and grown.
  A tree's order, with depths; what tree.nodes still has to come to.
  The walk of tree.alike, at every two trees.
-/
import Derived.Test.YthbnegggohegkaaGreatDoorSyJ
import Derived.Laws.AppendOwn
namespace Go.Proofs.YthbnegggohegkaaGreatDoor
open Go.RowKit

/-- A list of nodes as a slice: it lies in memory below B. -/
def RowIn (B : Nat) (w : World) (p : Option Addr) (c : Nat) (xs : List MT) : Prop :=
  xs.length ≤ c ∧ c ≤ maxLen ∧ (xs = [] ∨ ∃ b o, p = some ⟨b, o, none⟩ ∧ b < B ∧ MT.InL B w b o xs)

theorem RowIn.below {B : Nat} {w w' : World} {p : Option Addr} {c : Nat} {xs : List MT} (h : RowIn B w p c xs) (hb : Below B w w') : RowIn B w' p c xs :=
  ⟨h.1, h.2.1, h.2.2.imp id fun ⟨b, o, hp, hlt, hl⟩ => ⟨b, o, hp, hlt, MT.InL.below hb b o hlt xs hl⟩⟩

theorem RowIn.mono {B B' : Nat} {w : World} {p : Option Addr} {c : Nat} {xs : List MT} (h : RowIn B w p c xs) (hB : B ≤ B') : RowIn B' w p c xs :=
  ⟨h.1, h.2.1, h.2.2.imp id fun ⟨b, o, hp, hlt, hl⟩ => ⟨b, o, hp, by omega, MT.InL.mono hB b o xs hl⟩⟩

theorem MT.In.row {B : Nat} {w : World} {t : MT} (h : t.In B w) : RowIn B w t.ptr t.cap t.kids := ⟨h.len_le, h.cap_le, h.kidsL⟩

/-- Two lists that are held against each other. -/
structure Fr where
  p : Option Addr
  c : Nat
  xs : List MT
  q : Option Addr
  d : Nat
  ys : List MT

def Fr.cells (f : Fr) : List Value := [.slice f.p f.xs.length f.c, .slice f.q f.ys.length f.d]
def Fr.In (B : Nat) (w : World) (f : Fr) : Prop := RowIn B w f.p f.c f.xs ∧ RowIn B w f.q f.d f.ys ∧ f.xs.length = f.ys.length
def flat (fs : List Fr) : List Value := fs.flatMap Fr.cells
def total : List Fr → Nat
  | [] => 0
  | f :: fs => MT.sizeL f.xs + total fs
def okAll : List Fr → Bool
  | [] => true
  | f :: fs => MT.alikeL f.xs f.ys && okAll fs

theorem flat_length (fs : List Fr) : (flat fs).length = fs.length * 2 := by
  induction fs with
  | nil => rfl
  | cons f fs ih => simp only [flat, List.flatMap_cons, List.length_append] at *; rw [ih]; simp [Fr.cells]; omega
theorem flat_append (fs gs : List Fr) : flat (fs ++ gs) = flat fs ++ flat gs := by simp [flat]
theorem flat_one (f : Fr) : flat [f] = f.cells := by simp [flat]
theorem total_append (fs gs : List Fr) : total (fs ++ gs) = total fs + total gs := by
  induction fs with
  | nil => simp [total]
  | cons f fs ih => simp [total, ih]; omega
theorem okAll_append (fs gs : List Fr) : okAll (fs ++ gs) = (okAll fs && okAll gs) := by
  induction fs with
  | nil => simp [okAll]
  | cons f fs ih => simp [okAll, ih, Bool.and_assoc]

theorem two_cases {α : Type} (l : List α) : l = [] ∨ ∃ gs f, l = gs ++ [f] := by
  cases h : l.reverse with
  | nil => left; simpa using congrArg List.reverse h
  | cons f gs => right; exact ⟨gs.reverse, f, by simpa using congrArg List.reverse h⟩

theorem cell_two_sets (w : World) (g B i j o : Nat) (u v : Value) (h : B ≠ g) : (((w.setCell ⟨g, i, none⟩ u).setCell ⟨g, j, none⟩ v).drew).cell? ⟨B, o, none⟩ = w.cell? ⟨B, o, none⟩ := by
  show ((w.setCell ⟨g, i, none⟩ u).setCell ⟨g, j, none⟩ v).cell? ⟨B, o, none⟩ = w.cell? ⟨B, o, none⟩
  rw [World.cell?_setCell_other _ _ _ _ (fun e => h (by cases e; rfl)), World.cell?_setCell_other _ _ _ _ (fun e => h (by cases e; rfl))]

/-! ### Rows that the call owns -/
section
variable {w : World} {base : Nat} {e : TypeId} {size n : Nat} {g cap : Nat} {xs : List Value}

/-- A cell of such a row. -/
theorem own_cell (h : w.ownsRow base e size (.slice (some ⟨g, 0, none⟩) n cap) n xs) (j : Nat) (v : Value) (hj : xs[j]? = some v) : w.cell? ⟨g, j, none⟩ = some v ∧ w.frozen? ⟨g, j, none⟩ = false := by
  rcases h.2 with ⟨h0, _⟩ | ⟨g', cap', cur, hv, hb, hg, hn, hm, hs, ht⟩
  · cases h0
  · cases hv
    have hjl : j < xs.length := (List.getElem?_eq_some_iff.1 hj).1
    have hc : cur[j]? = some v := by
      rw [← ht] at hj
      rw [List.getElem?_take_of_lt (by rw [h.1] at hjl; exact hjl)] at hj
      simpa using hj
    refine ⟨?_, ?_⟩
    · simp [World.cell?, hg, hc]
    · simp [World.frozen?, hg]

/-- A store into it. -/
theorem own_set (h : w.ownsRow base e size (.slice (some ⟨g, 0, none⟩) n cap) n xs) (j : Nat) (v : Value) : (w.setCell ⟨g, j, none⟩ v).ownsRow base e size (.slice (some ⟨g, 0, none⟩) n cap) n (xs.set j v) := by
  rcases h.2 with ⟨h0, _⟩ | ⟨g', cap', cur, hv, hb, hg, hn, hm, hs, ht⟩
  · cases h0
  · cases hv
    refine ⟨by simpa using h.1, .inr ⟨g, cap, cur.setIfInBounds j v, rfl, hb, ?_, hn, hm, by simpa using hs, ?_⟩⟩
    · have hlt := (Array.getElem?_eq_some_iff.1 hg).1
      show (w.heap.modify g _)[g]? = _
      rw [Array.getElem?_eq_getElem (by rw [Array.size_modify]; exact hlt), Array.getElem_modify_self]
      have := (Array.getElem?_eq_some_iff.1 hg).2
      rw [this]
      rfl
    · rw [Array.toList_setIfInBounds, List.take_set, ht]

/-- The row cut shorter. -/
theorem own_cut (h : w.ownsRow base e size (.slice (some ⟨g, 0, none⟩) n cap) n xs) (m : Nat) (hm : m ≤ n) : w.ownsRow base e size (.slice (some ⟨g, 0, none⟩) m cap) m (xs.take (m * size)) := by
  rcases h.2 with ⟨h0, _⟩ | ⟨g', cap', cur, hv, hb, hg, hn, hmx, hs, ht⟩
  · cases h0
  · cases hv
    have hle : m * size ≤ n * size := Nat.mul_le_mul_right _ hm
    refine ⟨by rw [List.length_take, h.1]; omega, .inr ⟨g, cap, cur, rfl, hb, hg, by omega, hmx, hs, ?_⟩⟩
    rw [← ht, List.take_take, Nat.min_eq_left hle]
end
end Go.Proofs.YthbnegggohegkaaGreatDoor
namespace Go.Proofs.YthbnegggohegkaaGreatDoor
open Go.RowKit

mutual
/-- A tree's order: how deep, and the node. -/
def MT.ord (d : Nat) : MT → List (Nat × MT)
  | node k s n a p c ks => (d, node k s n a p c ks) :: MT.ordL (d + 1) ks
def MT.ordL (d : Nat) : List MT → List (Nat × MT)
  | [] => []
  | t :: ts => MT.ord d t ++ MT.ordL d ts
end

theorem MT.ord_eq (d : Nat) (t : MT) : MT.ord d t = (d, t) :: MT.ordL (d + 1) t.kids := by cases t; rw [MT.ord]; rfl
theorem MT.ordL_cons (d : Nat) (t : MT) (ts : List MT) : MT.ordL d (t :: ts) = MT.ord d t ++ MT.ordL d ts := by rw [MT.ordL]
theorem MT.ordL_nil (d : Nat) : MT.ordL d [] = [] := by rw [MT.ordL]

mutual
theorem MT.ord_length : ∀ (t : MT) (d : Nat), (MT.ord d t).length = t.size
  | node k s n a p c ks, d => by rw [MT.ord, MT.size, List.length_cons, MT.ordL_length ks (d + 1)]; omega
theorem MT.ordL_length : ∀ (ts : List MT) (d : Nat), (MT.ordL d ts).length = MT.sizeL ts
  | [], d => by rw [MT.ordL, MT.sizeL]; rfl
  | t :: ts, d => by rw [MT.ordL, MT.sizeL, List.length_append, MT.ord_length t d, MT.ordL_length ts d]
end

/-- A list that is still to come. -/
structure R1 where
  p : Option Addr
  c : Nat
  xs : List MT

def R1.cell (f : R1) : Value := .slice f.p f.xs.length f.c
/-- Its nodes lie below B, or in the block Bt. -/
def R1.In (B Bt : Nat) (w : World) (f : R1) : Prop :=
  f.xs.length ≤ f.c ∧ f.c ≤ maxLen ∧ (f.xs = [] ∨ ∃ b o, f.p = some ⟨b, o, none⟩ ∧ (b < B ∨ b = Bt) ∧ MT.InL B w b o f.xs)

theorem MT.CellsAt.keep {w w' : World} {b o : Nat} {t : MT} (h : MT.CellsAt w b o t) (hc : ∀ o, w'.cell? ⟨b, o, none⟩ = w.cell? ⟨b, o, none⟩) : MT.CellsAt w' b o t :=
  ⟨(hc _).trans h.c0, (hc _).trans h.c1, (hc _).trans h.c2, (hc _).trans h.c3, (hc _).trans h.c4⟩

mutual
theorem MT.In.keep {B : Nat} {w w' : World} (hc : ∀ k o, k < B → w'.cell? ⟨k, o, none⟩ = w.cell? ⟨k, o, none⟩) : ∀ (t : MT), MT.In B w t → MT.In B w' t
  | node _ s _ _ p c ks, h => by
    rw [MT.In] at h ⊢
    obtain ⟨h1, h2, h3, h4⟩ := h
    refine ⟨h1, h2, h3, ?_⟩
    rcases h4 with h4 | ⟨b, o, hp, hlt, hl⟩
    · exact .inl h4
    · exact .inr ⟨b, o, hp, hlt, MT.InL.keep hc b o (fun o => hc b o hlt) ks hl⟩
theorem MT.InL.keep {B : Nat} {w w' : World} (hc : ∀ k o, k < B → w'.cell? ⟨k, o, none⟩ = w.cell? ⟨k, o, none⟩) (b o : Nat) (hb : ∀ o, w'.cell? ⟨b, o, none⟩ = w.cell? ⟨b, o, none⟩) : ∀ (ts : List MT), MT.InL B w b o ts → MT.InL B w' b o ts
  | [], _ => by rw [MT.InL]; trivial
  | t :: ts, h => by
    rw [MT.InL] at h ⊢
    exact ⟨h.1.keep hb, MT.In.keep hc t h.2.1, MT.InL.keep hc b (o + 5) hb ts h.2.2⟩
end

theorem R1.In.keep {B Bt : Nat} {w w' : World} {f : R1} (h : f.In B Bt w) (hc : ∀ k o, k < B ∨ k = Bt → w'.cell? ⟨k, o, none⟩ = w.cell? ⟨k, o, none⟩) : f.In B Bt w' :=
  ⟨h.1, h.2.1, h.2.2.imp id fun ⟨b, o, hp, hlt, hl⟩ => ⟨b, o, hp, hlt, MT.InL.keep (fun k o hk => hc k o (.inl hk)) b o (fun o => hc b o hlt) f.xs hl⟩⟩

/-- What is to come, the lists by depth, the deepest first. -/
def remT : List R1 → List (Nat × MT)
  | [] => []
  | f :: gs => MT.ordL (gs.length + 1) f.xs ++ remT gs
def rem (fs : List R1) : List (Nat × MT) := remT fs.reverse
theorem rem_nil : rem [] = [] := rfl
theorem rem_snoc (gs : List R1) (f : R1) : rem (gs ++ [f]) = MT.ordL (gs.length + 1) f.xs ++ rem gs := by simp [rem, remT]

def sizes : List R1 → Nat
  | [] => 0
  | f :: fs => MT.sizeL f.xs + sizes fs
theorem sizes_append (fs gs : List R1) : sizes (fs ++ gs) = sizes fs + sizes gs := by
  induction fs with
  | nil => simp [sizes]
  | cons f fs ih => simp [sizes, ih]; omega
end Go.Proofs.YthbnegggohegkaaGreatDoor
namespace Go.Proofs.YthbnegggohegkaaGreatDoor
open Go.RowKit

set_option maxHeartbeats 1000000 in
theorem alike_any (a b : MT) (w : World) :
    Calls Tryz.prog 35 #[nodeV a, nodeV b] w fun e w' => ∃ r : Bool, e = .returned (.bool r) ∧ Hid (r = MT.like a b) ∧ Below w.heap.size w w' := by
  obtain ⟨b1, e1⟩ : ∃ x, (a.kind == b.kind) = x := ⟨_, rfl⟩
  obtain ⟨b2, e2⟩ : ∃ x, (a.text.toList == b.text.toList) = x := ⟨_, rfl⟩
  obtain ⟨b3, e3⟩ : ∃ x, (a.num == b.num) = x := ⟨_, rfl⟩
  obtain ⟨b4, e4⟩ : ∃ x, ((a.kids.length : Int) == b.kids.length) = x := ⟨_, rfl⟩
  have HL : Hid (MT.like a b = (b1 && b2 && b3 && b4)) := by
    show _ = _
    rw [← e1, ← e2, ← e3, ← e4, MT.like, ByteArray.toList_eq, ByteArray.toList_eq]
    congr 1
    rw [Bool.eq_iff_iff]; simp; omega
  go_enter Tryz.func35, Tryz.ntmps35
  cases b1 <;> cases b2 <;> cases b3 <;> cases b4
  all_goals go_wp2_with fail
  all_goals go_ret
  all_goals exact ⟨_, rfl, HL.out.symm, ((Below.refl _ _).alloc (Nat.le_refl _) _).alloc (by simp) _⟩

end Go.Proofs.YthbnegggohegkaaGreatDoor
