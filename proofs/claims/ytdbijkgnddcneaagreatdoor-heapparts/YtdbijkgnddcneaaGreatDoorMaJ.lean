/-
  .
  .
-/
import Derived.Test.YtdbijkgnddcneaaGreatDoorCoJ
import Derived.Deep.Slices
namespace Go.Proofs.YtdbijkgnddcneaaGreatDoor
open Go.ChangeShapes Go.WideShapes Go.RowKit Go.Deep
structure Hd where
 k : Int
 t : ByteArray
 n : Int
 f : Int
 s : ByteArray
 r0 : Int
 r1 : Int
 r2 : Int
 r3 : Int
 pp : Option Addr
 path : List Int
 pc : Nat
structure MD where
 h : Hd
 ip : Option Addr
 ic : Nat
 items : List MD
namespace MD
def val (d : MD) : Value := D d.h.k d.h.t d.h.n d.h.f d.h.s d.h.r0 d.h.r1 d.h.r2 d.h.r3 (.slice d.h.pp d.h.path.length d.h.pc) (.slice d.ip d.items.length d.ic)
def cells (d : MD) : Array Value := #[.int .i64 d.h.k, .string d.h.t, .int .i64 d.h.n, .int .u64 d.h.f, .string d.h.s, .int .i64 d.h.r0, .int .i64 d.h.r1, .int .i64 d.h.r2, .int .i64 d.h.r3, .slice d.h.pp d.h.path.length d.h.pc, .slice d.ip d.items.length d.ic]
theorem val_eq (d : MD) : d.val = .agg d.cells := rfl
def CellsAt (w : World) (b o : Nat) (d : MD) : Prop := ∀ j, j < 11 → w.cell? ⟨b, o + j, none⟩ = d.cells[j]?
structure Fine (h : Hd) : Prop where
 k0 : -9223372036854775808 ≤ h.k
 k1 : h.k ≤ 9223372036854775807
 n0 : -9223372036854775808 ≤ h.n
 n1 : h.n ≤ 9223372036854775807
 f0 : 0 ≤ h.f
 f1 : h.f ≤ 18446744073709551615
 o0 : -9223372036854775808 ≤ h.r0
 o1 : h.r0 ≤ 9223372036854775807
 a0 : -9223372036854775808 ≤ h.r1
 a1 : h.r1 ≤ 9223372036854775807
 b0 : -9223372036854775808 ≤ h.r2
 b1 : h.r2 ≤ 9223372036854775807
 c0 : -9223372036854775808 ≤ h.r3
 c1 : h.r3 ≤ 9223372036854775807
 t0 : h.t.size ≤ maxLen
 s0 : h.s.size ≤ maxLen
 pl : h.path.length ≤ h.pc
 pm : h.pc ≤ maxLen
def PathIn (B : Nat) (w : World) (h : Hd) : Prop :=
 (∀ x ∈ h.path, -9223372036854775808 ≤ x ∧ x ≤ 9223372036854775807) ∧
 (h.path = [] ∨ ∃ b o, h.pp = some ⟨b, o, none⟩ ∧ b < B ∧ ∀ (i : Nat) (hi : i < h.path.length), w.cell? ⟨b, o + i, none⟩ = some (.int .i64 h.path[i]))
def In (B : Nat) (w : World) : Nat → MD → Prop
 | 0, _ => False
 | n + 1, d => Fine d.h ∧ PathIn B w d.h ∧ d.items.length ≤ d.ic ∧ d.ic ≤ maxLen ∧
   (d.items = [] ∨ ∃ b o, d.ip = some ⟨b, o, none⟩ ∧ b < B ∧ ∀ (i : Nat) (hi : i < d.items.length), CellsAt w b (o + i * 11) d.items[i] ∧ In B w n d.items[i])
theorem CellsAt.below {w w' : World} {B b o : Nat} {d : MD} (h : CellsAt w b o d) (hB : b < B) (hb : Below B w w') : CellsAt w' b o d := fun j hj =>
 (hb.cell (p := ⟨b, o + j, none⟩) hB).trans (h j hj)
theorem PathIn.below {B : Nat} {w w' : World} {h : Hd} (hp : PathIn B w h) (hb : Below B w w') : PathIn B w' h := by
 refine ⟨hp.1, ?_⟩
 rcases hp.2 with e | ⟨b, o, h1, h2, h3⟩
 ·exact .inl e
 ·exact .inr ⟨b, o, h1, h2, fun i hi => (hb.cell (p := ⟨b, o + i, none⟩) h2).trans (h3 i hi)⟩
theorem PathIn.mono {B B' : Nat} {w : World} {h : Hd} (hp : PathIn B w h) (hB : B ≤ B') : PathIn B' w h := by
 refine ⟨hp.1, ?_⟩
 rcases hp.2 with e | ⟨b, o, h1, h2, h3⟩
 ·exact .inl e
 ·exact .inr ⟨b, o, h1, by omega, h3⟩
theorem In.below {B : Nat} {w w' : World} (hb : Below B w w') : ∀ (n : Nat) (d : MD), In B w n d → In B w' n d
 | 0, _, h => h
 | n + 1, d, h => by
  obtain ⟨h1, h2, h3, h4, h5⟩ := h
  refine ⟨h1, h2.below hb, h3, h4, ?_⟩
  rcases h5 with e | ⟨b, o, e1, e2, e3⟩
  ·exact .inl e
  ·exact .inr ⟨b, o, e1, e2, fun i hi => ⟨(e3 i hi).1.below e2 hb, In.below hb n _ (e3 i hi).2⟩⟩
theorem In.mono {B B' : Nat} {w : World} (hB : B ≤ B') : ∀ (n : Nat) (d : MD), In B w n d → In B' w n d
 | 0, _, h => h
 | n + 1, d, h => by
  obtain ⟨h1, h2, h3, h4, h5⟩ := h
  refine ⟨h1, h2.mono hB, h3, h4, ?_⟩
  rcases h5 with e | ⟨b, o, e1, e2, e3⟩
  ·exact .inl e
  ·exact .inr ⟨b, o, e1, by omega, fun i hi => ⟨(e3 i hi).1, In.mono hB n _ (e3 i hi).2⟩⟩
theorem In.more {B : Nat} {w : World} : ∀ (n m : Nat) (d : MD), n ≤ m → In B w n d → In B w m d
 | 0, _, _, _, h => h.elim
 | n + 1, 0, _, hm, _ => by omega
 | n + 1, m + 1, d, hm, h => by
  obtain ⟨h1, h2, h3, h4, h5⟩ := h
  refine ⟨h1, h2, h3, h4, ?_⟩
  rcases h5 with e | ⟨b, o, e1, e2, e3⟩
  ·exact .inl e
  ·exact .inr ⟨b, o, e1, e2, fun i hi => ⟨(e3 i hi).1, In.more n m _ (by omega) (e3 i hi).2⟩⟩
theorem In.later {B : Nat} {w w' : World} {n : Nat} {d : MD} (h : In B w n d) (hB : B ≤ w.heap.size) (hb : Below w.heap.size w w') : In w'.heap.size w' n d :=
 In.mono (Nat.le_trans hB hb.size) n d (In.below (hb.mono hB) n d h)
theorem PathIn.later {B : Nat} {w w' : World} {h : Hd} (hp : PathIn B w h) (hB : B ≤ w.heap.size) (hb : Below w.heap.size w w') : PathIn w'.heap.size w' h :=
 (hp.below (hb.mono hB)).mono (Nat.le_trans hB hb.size)
theorem In.fine {B : Nat} {w : World} : ∀ {n : Nat} {d : MD}, In B w n d → Fine d.h
 | _ + 1, _, h => h.1
theorem In.path {B : Nat} {w : World} : ∀ {n : Nat} {d : MD}, In B w n d → PathIn B w d.h
 | _ + 1, _, h => h.2.1
theorem In.len {B : Nat} {w : World} : ∀ {n : Nat} {d : MD}, In B w n d → d.items.length ≤ d.ic ∧ d.ic ≤ maxLen
 | _ + 1, _, h => ⟨h.2.2.1, h.2.2.2.1⟩
end MD
theorem cells28 : Tryz.prog.cellsOf 32 = 11 := by kernel_rfl
theorem cells9 : Tryz.prog.cellsOf 9 = 1 := by kernel_rfl
theorem cells3 : Tryz.prog.cellsOf 3 = 1 := by kernel_rfl
theorem spot_of_cell {w : World} {a : Addr} {v : Value} (h : w.cell? a = some v) : a = ⟨a.block, a.off, none⟩ := by
 obtain ⟨b, o, sp⟩ := a
 cases sp with
 | none => rfl
 | some x =>
  unfold World.cell? at h
  split at h
  ·simp at h
  ·cases h
theorem block_of_cell {w : World} {a : Addr} {v : Value} (h : w.cell? a = some v) : a.block < w.heap.size := by
 unfold World.cell? at h
 split at h
 ·rename_i h1; exact (Array.getElem?_eq_some_iff.1 h1).1
 ·cases h
end Go.Proofs.YtdbijkgnddcneaaGreatDoor
namespace Go.Proofs.YtdbijkgnddcneaaGreatDoor
open Go.RowKit
def up {α : Type} (f : Nat → α) (a : Nat) (v : α) : Nat → α := fun x => if x = a then v else f x
theorem up_at {α : Type} (f : Nat → α) (a : Nat) (v : α) : up f a v a = v := by simp [up]
theorem up_ne {α : Type} (f : Nat → α) {a x : Nat} (v : α) (h : x ≠ a) : up f a v x = f x := by simp [up, h]
def Lk (nx : Nat → Option Nat) : Option Nat → List Nat → Prop
 | o, [] => o = none
 | o, b :: r => o = some b ∧ Lk nx (nx b) r
theorem Lk.congr {nx nx' : Nat → Option Nat} : ∀ (l : List Nat) (o : Option Nat), (∀ b ∈ l, nx' b = nx b) → Lk nx o l → Lk nx' o l
 | [], _, _, h => h
 | b :: r, o, hc, h => by
  refine ⟨h.1, ?_⟩
  rw [hc b (by simp)]
  exact Lk.congr r _ (fun x hx => hc x (by simp [hx])) h.2
theorem Lk.hang {nx : Nat → Option Nat} {o : Option Nat} {l : List Nat} (b : Nat) (h : Lk nx o l) (hb : b ∉ l) : Lk (up nx b o) (some b) (b :: l) := by
 refine ⟨rfl, ?_⟩
 rw [up_at]
 exact Lk.congr l o (fun x hx => up_ne _ _ (fun e => hb (e ▸ hx))) h
def Adj (bf bh : Nat → Nat) : List Nat → Prop
 | [] => True
 | [_] => True
 | x :: y :: r => bh x = y ∧ bf y = x ∧ Adj bf bh (y :: r)
theorem Adj.congr {bf bh bf' bh' : Nat → Nat} : ∀ (l : List Nat) (x : Nat), (∀ b ∈ (x :: l).dropLast, bh' b = bh b) → (∀ b ∈ l, bf' b = bf b) → Adj bf bh (x :: l) → Adj bf' bh' (x :: l)
 | [], _, _, _, _ => trivial
 | y :: r, x, h1, h2, h => ⟨(h1 x (by simp)).trans h.1, (h2 y (by simp)).trans h.2.1, Adj.congr r y (fun b hb => h1 b (by simp [List.dropLast] at hb ⊢; exact .inr hb)) (fun b hb => h2 b (by simp [hb])) h.2.2⟩
theorem Adj.app {bf bh : Nat → Nat} {y : Nat} : ∀ (l : List Nat) {l2 : List Nat}, Adj bf bh (l ++ y :: l2) ↔ Adj bf bh (l ++ [y]) ∧ Adj bf bh (y :: l2)
 | [], l2 => by simp [Adj]
 | [x], l2 => by simp [Adj, and_assoc]
 | x :: z :: r, l2 => by
  have := Adj.app (z :: r) (y := y) (l2 := l2) (bf := bf) (bh := bh)
  simp only [List.cons_append] at this ⊢
  simp only [Adj]
  rw [this]
  simp [and_assoc]
theorem Adj.keep {bf bh bf' bh' : Nat → Nat} (l : List Nat) (h1 : ∀ b ∈ l.dropLast, bh' b = bh b) (h2 : ∀ b ∈ l.tail, bf' b = bf b) (h : Adj bf bh l) : Adj bf' bh' l := by
 cases l with
 | nil => trivial
 | cons x r => exact Adj.congr r x h1 h2 h
theorem Adj.cut {bf bh : Nat → Nat} {x e y : Nat} {l1 l2 : List Nat} (h : Adj bf bh (l1 ++ x :: e :: y :: l2)) (h1 : (l1 ++ x :: e :: y :: l2).dropLast.Nodup) (h2 : (l1 ++ x :: e :: y :: l2).tail.Nodup) :
  Adj (up bf y x) (up bh x y) (l1 ++ x :: y :: l2) := by
 rw [Adj.app] at h ⊢
 obtain ⟨ha, hb⟩ := h
 have e1 : (l1 ++ x :: e :: y :: l2).dropLast = l1 ++ x :: e :: (y :: l2).dropLast := by
  rw [List.dropLast_append_of_ne_nil (by simp)]
  rfl
 have e2 : (l1 ++ x :: e :: y :: l2).tail = (l1 ++ [x]).tail ++ e :: y :: l2 := by cases l1 <;> simp
 rw [e1] at h1
 rw [e2] at h2
 rw [List.nodup_append] at h1 h2
 simp only [List.nodup_cons, List.mem_cons, not_or] at h1 h2
 refine ⟨Adj.keep _ (fun b hb' => up_ne _ _ fun he => ?_) (fun b hb' => up_ne _ _ fun he => ?_) ha, up_at _ _ _, up_at _ _ _, Adj.keep _ (fun b hb' => up_ne _ _ fun he => ?_) (fun b hb' => up_ne _ _ fun he => ?_) hb.2.2.2.2⟩
 ·subst he
  simp at hb'
  exact h1.2.2 b hb' b (by simp) rfl
 ·subst he
  exact h2.2.2 b hb' b (by simp) rfl
 ·subst he
  exact h1.2.1.1.2 hb'
 ·subst he
  simp at hb'
  exact h2.2.1.2.1 hb'
theorem Adj.put {bf bh : Nat → Nat} {x e y : Nat} {l1 l2 : List Nat} (h : Adj bf bh (l1 ++ x :: y :: l2)) (he : e ∉ l1 ++ x :: y :: l2) (h1 : (l1 ++ x :: y :: l2).dropLast.Nodup) (h2 : (l1 ++ x :: y :: l2).tail.Nodup) :
  Adj (up (up bf e x) y e) (up (up bh e y) x e) (l1 ++ x :: e :: y :: l2) := by
 rw [Adj.app] at h ⊢
 obtain ⟨ha, hb⟩ := h
 have e1 : (l1 ++ x :: y :: l2).dropLast = l1 ++ x :: (y :: l2).dropLast := by
  rw [List.dropLast_append_of_ne_nil (by simp)]
  rfl
 have e2 : (l1 ++ x :: y :: l2).tail = (l1 ++ [x]).tail ++ y :: l2 := by cases l1 <;> simp
 rw [e1] at h1
 rw [e2] at h2
 rw [List.nodup_append] at h1 h2
 simp only [List.nodup_cons, List.mem_cons, not_or, List.mem_append] at h1 h2 he
 refine ⟨Adj.keep _ (fun b hb' => ?_) (fun b hb' => ?_) ha, up_at _ _ _, ?_, ?_, up_at _ _ _, Adj.keep _ (fun b hb' => ?_) (fun b hb' => ?_) hb.2.2⟩
 ·simp at hb'
  rw [up_ne _ _ (fun q => by subst q; exact h1.2.2 b hb' b (by simp) rfl), up_ne _ _ (fun q => by subst q; exact he.1 hb')]
 ·have hm : b ∈ l1 ++ [x] := List.mem_of_mem_tail hb'
  simp at hm
  rw [up_ne _ _ (fun q => by subst q; exact h2.2.2 b hb' b (by simp) rfl), up_ne _ _ (fun q => by subst q; rcases hm with hm | hm; exact he.1 hm; exact he.2.1 hm)]
 ·rw [up_ne _ _ he.2.2.1, up_at]
 ·rw [up_ne _ _ he.2.1, up_at]
 ·have hm := List.dropLast_subset _ hb'
  rw [up_ne _ _ (fun q => by subst q; exact h1.2.1.1 hb'), up_ne _ _ (fun q => by subst q; simp at hm; rcases hm with hm | hm; exact he.2.2.1 hm; exact he.2.2.2 hm)]
 ·simp at hb'
  rw [up_ne _ _ (fun q => by subst q; exact h2.2.1.1 hb'), up_ne _ _ (fun q => by subst q; exact he.2.2.2 hb')]
end Go.Proofs.YtdbijkgnddcneaaGreatDoor
