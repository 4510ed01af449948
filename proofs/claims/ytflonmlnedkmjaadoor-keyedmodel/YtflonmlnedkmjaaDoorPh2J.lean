/-
  Data as they lie in memory: a datum's value, the memory that its Path and its Items lie in.
  Chains and rings, as numbers of blocks.
  Which of n things.
  From the reading of an argument to a list of numbers that lies in memory.
-/
import Derived.Test.YtflonmlnedkmjaaDoorCoJ
import Derived.Deep.Slices
namespace Go.Proofs.YtflonmlnedkmjaaDoor
open Go.ChangeShapes Go.WideShapes Go.RowKit Go.Deep

/-- A datum but for its Items; pp, pc: where its Path lies, and its room. -/
structure Hd where
  k : Int
  t : ByteArray
  n : Int
  f : Int
  s : ByteArray
  r0 : Int
  r1 : Int
  r2 : Int
  r3 : Int
  pp : Option Addr
  path : List Int
  pc : Nat

/-- A datum, with where its Items lie, and their room. -/
structure MD where
  h : Hd
  ip : Option Addr
  ic : Nat
  items : List MD

namespace MD
/-- Its value. -/
def val (d : MD) : Value := D d.h.k d.h.t d.h.n d.h.f d.h.s d.h.r0 d.h.r1 d.h.r2 d.h.r3 (.slice d.h.pp d.h.path.length d.h.pc) (.slice d.ip d.items.length d.ic)
def cells (d : MD) : Array Value := #[.int .i64 d.h.k, .string d.h.t, .int .i64 d.h.n, .int .u64 d.h.f, .string d.h.s, .int .i64 d.h.r0, .int .i64 d.h.r1, .int .i64 d.h.r2, .int .i64 d.h.r3, .slice d.h.pp d.h.path.length d.h.pc, .slice d.ip d.items.length d.ic]
theorem val_eq (d : MD) : d.val = .agg d.cells := rfl

/-- The eleven cells of a datum. -/
def CellsAt (w : World) (b o : Nat) (d : MD) : Prop := ∀ j, j < 11 → w.cell? ⟨b, o + j, none⟩ = d.cells[j]?

/-- What the numbers and texts of a datum keep to. -/
structure Fine (h : Hd) : Prop where
  k0 : -9223372036854775808 ≤ h.k
  k1 : h.k ≤ 9223372036854775807
  n0 : -9223372036854775808 ≤ h.n
  n1 : h.n ≤ 9223372036854775807
  f0 : 0 ≤ h.f
  f1 : h.f ≤ 18446744073709551615
  o0 : -9223372036854775808 ≤ h.r0
  o1 : h.r0 ≤ 9223372036854775807
  a0 : -9223372036854775808 ≤ h.r1
  a1 : h.r1 ≤ 9223372036854775807
  b0 : -9223372036854775808 ≤ h.r2
  b1 : h.r2 ≤ 9223372036854775807
  c0 : -9223372036854775808 ≤ h.r3
  c1 : h.r3 ≤ 9223372036854775807
  t0 : h.t.size ≤ maxLen
  s0 : h.s.size ≤ maxLen
  pl : h.path.length ≤ h.pc
  pm : h.pc ≤ maxLen

/-- A path lies in memory below B. -/
def PathIn (B : Nat) (w : World) (h : Hd) : Prop :=
  (∀ x ∈ h.path, -9223372036854775808 ≤ x ∧ x ≤ 9223372036854775807) ∧
  (h.path = [] ∨ ∃ b o, h.pp = some ⟨b, o, none⟩ ∧ b < B ∧ ∀ (i : Nat) (hi : i < h.path.length), w.cell? ⟨b, o + i, none⟩ = some (.int .i64 h.path[i]))

/-- A datum of at most n levels lies in memory below B. -/
def In (B : Nat) (w : World) : Nat → MD → Prop
  | 0, _ => False
  | n + 1, d => Fine d.h ∧ PathIn B w d.h ∧ d.items.length ≤ d.ic ∧ d.ic ≤ maxLen ∧
      (d.items = [] ∨ ∃ b o, d.ip = some ⟨b, o, none⟩ ∧ b < B ∧ ∀ (i : Nat) (hi : i < d.items.length), CellsAt w b (o + i * 11) d.items[i] ∧ In B w n d.items[i])

theorem CellsAt.below {w w' : World} {B b o : Nat} {d : MD} (h : CellsAt w b o d) (hB : b < B) (hb : Below B w w') : CellsAt w' b o d := fun j hj =>
  (hb.cell (p := ⟨b, o + j, none⟩) hB).trans (h j hj)
theorem PathIn.below {B : Nat} {w w' : World} {h : Hd} (hp : PathIn B w h) (hb : Below B w w') : PathIn B w' h := by
  refine ⟨hp.1, ?_⟩
  rcases hp.2 with e | ⟨b, o, h1, h2, h3⟩
  · exact .inl e
  · exact .inr ⟨b, o, h1, h2, fun i hi => (hb.cell (p := ⟨b, o + i, none⟩) h2).trans (h3 i hi)⟩
theorem PathIn.mono {B B' : Nat} {w : World} {h : Hd} (hp : PathIn B w h) (hB : B ≤ B') : PathIn B' w h := by
  refine ⟨hp.1, ?_⟩
  rcases hp.2 with e | ⟨b, o, h1, h2, h3⟩
  · exact .inl e
  · exact .inr ⟨b, o, h1, by omega, h3⟩

theorem In.below {B : Nat} {w w' : World} (hb : Below B w w') : ∀ (n : Nat) (d : MD), In B w n d → In B w' n d
  | 0, _, h => h
  | n + 1, d, h => by
    obtain ⟨h1, h2, h3, h4, h5⟩ := h
    refine ⟨h1, h2.below hb, h3, h4, ?_⟩
    rcases h5 with e | ⟨b, o, e1, e2, e3⟩
    · exact .inl e
    · exact .inr ⟨b, o, e1, e2, fun i hi => ⟨(e3 i hi).1.below e2 hb, In.below hb n _ (e3 i hi).2⟩⟩
theorem In.mono {B B' : Nat} {w : World} (hB : B ≤ B') : ∀ (n : Nat) (d : MD), In B w n d → In B' w n d
  | 0, _, h => h
  | n + 1, d, h => by
    obtain ⟨h1, h2, h3, h4, h5⟩ := h
    refine ⟨h1, h2.mono hB, h3, h4, ?_⟩
    rcases h5 with e | ⟨b, o, e1, e2, e3⟩
    · exact .inl e
    · exact .inr ⟨b, o, e1, by omega, fun i hi => ⟨(e3 i hi).1, In.mono hB n _ (e3 i hi).2⟩⟩
/-- More levels may be told. -/
theorem In.more {B : Nat} {w : World} : ∀ (n m : Nat) (d : MD), n ≤ m → In B w n d → In B w m d
  | 0, _, _, _, h => h.elim
  | n + 1, 0, _, hm, _ => by omega
  | n + 1, m + 1, d, hm, h => by
    obtain ⟨h1, h2, h3, h4, h5⟩ := h
    refine ⟨h1, h2, h3, h4, ?_⟩
    rcases h5 with e | ⟨b, o, e1, e2, e3⟩
    · exact .inl e
    · exact .inr ⟨b, o, e1, e2, fun i hi => ⟨(e3 i hi).1, In.more n m _ (by omega) (e3 i hi).2⟩⟩
theorem In.later {B : Nat} {w w' : World} {n : Nat} {d : MD} (h : In B w n d) (hB : B ≤ w.heap.size) (hb : Below w.heap.size w w') : In w'.heap.size w' n d :=
  In.mono (Nat.le_trans hB hb.size) n d (In.below (hb.mono hB) n d h)
theorem PathIn.later {B : Nat} {w w' : World} {h : Hd} (hp : PathIn B w h) (hB : B ≤ w.heap.size) (hb : Below w.heap.size w w') : PathIn w'.heap.size w' h :=
  (hp.below (hb.mono hB)).mono (Nat.le_trans hB hb.size)
theorem In.fine {B : Nat} {w : World} : ∀ {n : Nat} {d : MD}, In B w n d → Fine d.h
  | _ + 1, _, h => h.1
theorem In.path {B : Nat} {w : World} : ∀ {n : Nat} {d : MD}, In B w n d → PathIn B w d.h
  | _ + 1, _, h => h.2.1
theorem In.len {B : Nat} {w : World} : ∀ {n : Nat} {d : MD}, In B w n d → d.items.length ≤ d.ic ∧ d.ic ≤ maxLen
  | _ + 1, _, h => ⟨h.2.2.1, h.2.2.2.1⟩
end MD

theorem cells28 : Tryd.prog.cellsOf 39 = 11 := by kernel_rfl
theorem cells9 : Tryd.prog.cellsOf 9 = 1 := by kernel_rfl
theorem cells3 : Tryd.prog.cellsOf 3 = 1 := by kernel_rfl

theorem spot_of_cell {w : World} {a : Addr} {v : Value} (h : w.cell? a = some v) : a = ⟨a.block, a.off, none⟩ := by
  obtain ⟨b, o, sp⟩ := a
  cases sp with
  | none => rfl
  | some x =>
    unfold World.cell? at h
    split at h
    · simp at h
    · cases h
theorem block_of_cell {w : World} {a : Addr} {v : Value} (h : w.cell? a = some v) : a.block < w.heap.size := by
  unfold World.cell? at h
  split at h
  · rename_i h1; exact (Array.getElem?_eq_some_iff.1 h1).1
  · cases h
end Go.Proofs.YtflonmlnedkmjaaDoor
namespace Go.Proofs.YtflonmlnedkmjaaDoor
open Go.RowKit
/-- A function, told anew at one place. -/
def up {α : Type} (f : Nat → α) (a : Nat) (v : α) : Nat → α := fun x => if x = a then v else f x
theorem up_at {α : Type} (f : Nat → α) (a : Nat) (v : α) : up f a v a = v := by simp [up]
theorem up_ne {α : Type} (f : Nat → α) {a x : Nat} (v : α) (h : x ≠ a) : up f a v x = f x := by simp [up, h]

/-- A chain: what o leads to, one after another. -/
def Lk (nx : Nat → Option Nat) : Option Nat → List Nat → Prop
  | o, [] => o = none
  | o, b :: r => o = some b ∧ Lk nx (nx b) r
theorem Lk.congr {nx nx' : Nat → Option Nat} : ∀ (l : List Nat) (o : Option Nat), (∀ b ∈ l, nx' b = nx b) → Lk nx o l → Lk nx' o l
  | [], _, _, h => h
  | b :: r, o, hc, h => by
    refine ⟨h.1, ?_⟩
    rw [hc b (by simp)]
    exact Lk.congr r _ (fun x hx => hc x (by simp [hx])) h.2
theorem Lk.hang {nx : Nat → Option Nat} {o : Option Nat} {l : List Nat} (b : Nat) (h : Lk nx o l) (hb : b ∉ l) : Lk (up nx b o) (some b) (b :: l) := by
  refine ⟨rfl, ?_⟩
  rw [up_at]
  exact Lk.congr l o (fun x hx => up_ne _ _ (fun e => hb (e ▸ hx))) h
theorem Lk.mid {nx : Nat → Option Nat} : ∀ (l1 : List Nat) {l2 : List Nat} {o : Option Nat}, Lk nx o (l1 ++ l2) → ∃ q, Lk nx q l2 ∧ (l1 = [] → q = o) ∧ ∀ l0 x, l1 = l0 ++ [x] → q = nx x
  | [], l2, o, h => ⟨o, h, fun _ => rfl, fun l0 x e => by simp at e⟩
  | b :: r, l2, o, h => by
    obtain ⟨q, h1, h2, h3⟩ := Lk.mid r h.2
    refine ⟨q, h1, fun e => by simp at e, fun l0 x e => ?_⟩
    cases l0 with
    | nil => simp at e; obtain ⟨rfl, rfl⟩ := e; exact h2 rfl
    | cons y l0 => simp at e; obtain ⟨rfl, rfl⟩ := e; exact h3 l0 x rfl
/-- What comes behind one is taken out of its chain. -/
theorem Lk.cut {nx : Nat → Option Nat} {x b : Nat} {l2 : List Nat} : ∀ (l0 : List Nat) {o : Option Nat}, Lk nx o (l0 ++ x :: b :: l2) → (l0 ++ x :: b :: l2).Nodup → Lk (up nx x (nx b)) o (l0 ++ x :: l2)
  | [], o, h, hn => by
    obtain ⟨h1, h2, h3⟩ := h
    refine ⟨h1, ?_⟩
    rw [up_at]
    refine Lk.congr l2 _ (fun y hy => up_ne _ _ (fun e => ?_)) h3
    subst e
    simp at hn
    exact hn.1.2 hy
  | y :: r, o, h, hn => by
    refine ⟨h.1, ?_⟩
    have hy : y ≠ x := fun e => by subst e; simp at hn
    rw [up_ne _ _ hy]
    exact Lk.cut r h.2 (by simp at hn ⊢; exact hn.2)

/-- A ring: each stands before the next one, and behind that one ahead. -/
def Adj (bf bh : Nat → Nat) : List Nat → Prop
  | [] => True
  | [_] => True
  | x :: y :: r => bh x = y ∧ bf y = x ∧ Adj bf bh (y :: r)
theorem Adj.congr {bf bh bf' bh' : Nat → Nat} : ∀ (l : List Nat) (x : Nat), (∀ b ∈ (x :: l).dropLast, bh' b = bh b) → (∀ b ∈ l, bf' b = bf b) → Adj bf bh (x :: l) → Adj bf' bh' (x :: l)
  | [], _, _, _, _ => trivial
  | y :: r, x, h1, h2, h => ⟨(h1 x (by simp)).trans h.1, (h2 y (by simp)).trans h.2.1, Adj.congr r y (fun b hb => h1 b (by simp [List.dropLast] at hb ⊢; exact .inr hb)) (fun b hb => h2 b (by simp [hb])) h.2.2⟩
theorem Adj.app {bf bh : Nat → Nat} {y : Nat} : ∀ (l : List Nat) {l2 : List Nat}, Adj bf bh (l ++ y :: l2) ↔ Adj bf bh (l ++ [y]) ∧ Adj bf bh (y :: l2)
  | [], l2 => by simp [Adj]
  | [x], l2 => by simp [Adj, and_assoc]
  | x :: z :: r, l2 => by
    have := Adj.app (z :: r) (y := y) (l2 := l2) (bf := bf) (bh := bh)
    simp only [List.cons_append] at this ⊢
    simp only [Adj]
    rw [this]
    simp [and_assoc]
theorem Adj.keep {bf bh bf' bh' : Nat → Nat} (l : List Nat) (h1 : ∀ b ∈ l.dropLast, bh' b = bh b) (h2 : ∀ b ∈ l.tail, bf' b = bf b) (h : Adj bf bh l) : Adj bf' bh' l := by
  cases l with
  | nil => trivial
  | cons x r => exact Adj.congr r x h1 h2 h
/-- One is taken out of a ring. -/
theorem Adj.cut {bf bh : Nat → Nat} {x e y : Nat} {l1 l2 : List Nat} (h : Adj bf bh (l1 ++ x :: e :: y :: l2)) (h1 : (l1 ++ x :: e :: y :: l2).dropLast.Nodup) (h2 : (l1 ++ x :: e :: y :: l2).tail.Nodup) :
    Adj (up bf y x) (up bh x y) (l1 ++ x :: y :: l2) := by
  rw [Adj.app] at h ⊢
  obtain ⟨ha, hb⟩ := h
  have e1 : (l1 ++ x :: e :: y :: l2).dropLast = l1 ++ x :: e :: (y :: l2).dropLast := by
    rw [List.dropLast_append_of_ne_nil (by simp)]
    rfl
  have e2 : (l1 ++ x :: e :: y :: l2).tail = (l1 ++ [x]).tail ++ e :: y :: l2 := by cases l1 <;> simp
  rw [e1] at h1
  rw [e2] at h2
  rw [List.nodup_append] at h1 h2
  simp only [List.nodup_cons, List.mem_cons, not_or] at h1 h2
  refine ⟨Adj.keep _ (fun b hb' => up_ne _ _ fun he => ?_) (fun b hb' => up_ne _ _ fun he => ?_) ha, up_at _ _ _, up_at _ _ _, Adj.keep _ (fun b hb' => up_ne _ _ fun he => ?_) (fun b hb' => up_ne _ _ fun he => ?_) hb.2.2.2.2⟩
  · subst he
    simp at hb'
    exact h1.2.2 b hb' b (by simp) rfl
  · subst he
    exact h2.2.2 b hb' b (by simp) rfl
  · subst he
    exact h1.2.1.1.2 hb'
  · subst he
    simp at hb'
    exact h2.2.1.2.1 hb'
/-- One comes into a ring, between x and y. -/
theorem Adj.put {bf bh : Nat → Nat} {x e y : Nat} {l1 l2 : List Nat} (h : Adj bf bh (l1 ++ x :: y :: l2)) (he : e ∉ l1 ++ x :: y :: l2) (h1 : (l1 ++ x :: y :: l2).dropLast.Nodup) (h2 : (l1 ++ x :: y :: l2).tail.Nodup) :
    Adj (up (up bf e x) y e) (up (up bh e y) x e) (l1 ++ x :: e :: y :: l2) := by
  rw [Adj.app] at h ⊢
  obtain ⟨ha, hb⟩ := h
  have e1 : (l1 ++ x :: y :: l2).dropLast = l1 ++ x :: (y :: l2).dropLast := by
    rw [List.dropLast_append_of_ne_nil (by simp)]
    rfl
  have e2 : (l1 ++ x :: y :: l2).tail = (l1 ++ [x]).tail ++ y :: l2 := by cases l1 <;> simp
  rw [e1] at h1
  rw [e2] at h2
  rw [List.nodup_append] at h1 h2
  simp only [List.nodup_cons, List.mem_cons, not_or, List.mem_append] at h1 h2 he
  refine ⟨Adj.keep _ (fun b hb' => ?_) (fun b hb' => ?_) ha, up_at _ _ _, ?_, ?_, up_at _ _ _, Adj.keep _ (fun b hb' => ?_) (fun b hb' => ?_) hb.2.2⟩
  · simp at hb'
    rw [up_ne _ _ (fun q => by subst q; exact h1.2.2 b hb' b (by simp) rfl), up_ne _ _ (fun q => by subst q; exact he.1 hb')]
  · have hm : b ∈ l1 ++ [x] := List.mem_of_mem_tail hb'
    simp at hm
    rw [up_ne _ _ (fun q => by subst q; exact h2.2.2 b hb' b (by simp) rfl), up_ne _ _ (fun q => by subst q; rcases hm with hm | hm; exact he.1 hm; exact he.2.1 hm)]
  · rw [up_ne _ _ he.2.2.1, up_at]
  · rw [up_ne _ _ he.2.1, up_at]
  · have hm := List.dropLast_subset _ hb'
    rw [up_ne _ _ (fun q => by subst q; exact h1.2.1.1 hb'), up_ne _ _ (fun q => by subst q; simp at hm; rcases hm with hm | hm; exact he.2.2.1 hm; exact he.2.2.2 hm)]
  · simp at hb'
    rw [up_ne _ _ (fun q => by subst q; exact h2.2.1.1 hb'), up_ne _ _ (fun q => by subst q; exact he.2.2.2 hb')]
end Go.Proofs.YtflonmlnedkmjaaDoor
namespace Go.Proofs.YtflonmlnedkmjaaDoor
open Go.RowKit
/-- Which of n things a raw number speaks of. -/
def pickN (c : Int) (n : Nat) : Nat := (if c < 0 then -(c + 1) else c).toNat % n
theorem pick900 (c : Int) (w : World) (h0 : -9223372036854775808 ≤ c) (h1 : c ≤ 9223372036854775807) : Calls Tryd.prog 7 #[.int .i64 c, .int .i64 900] w fun r w' => r = .returned (.int .i64 (pickN c 900 : Nat)) ∧ w' = w := by
  have e1 : c < 0 → ((pickN c 900 : Nat) : Int) = -((c + 1).tmod 900) := fun h => by
    rw [← Int.neg_tmod, Int.tmod_eq_emod_of_nonneg (by omega)]; unfold pickN; rw [if_pos h]; omega
  have e2 : ¬ c < 0 → ((pickN c 900 : Nat) : Int) = c.tmod 900 := fun h => by
    rw [Int.tmod_eq_emod_of_nonneg (by omega)]; unfold pickN; rw [if_neg h]; omega
  generalize ((pickN c 900 : Nat) : Int) = q at e1 e2 ⊢
  have HE : Hid ((c < 0 → q = -((c + 1).tmod 900)) ∧ (¬ c < 0 → q = c.tmod 900)) := ⟨e1, e2⟩
  clear e1 e2
  go_enter Tryd.func7, Tryd.ntmps7
  go_wp2
  · go_ret
    rw [HE.out.1 (by assumption)]
    exact ⟨rfl, rfl⟩
  · go_ret
    rw [HE.out.2 (by omega)]
    refine ⟨?_, rfl⟩
    rw [Int.tmod_eq_emod_of_nonneg (by omega)]
    rfl
theorem pick4 (c : Int) (w : World) (h0 : -9223372036854775808 ≤ c) (h1 : c ≤ 9223372036854775807) : Calls Tryd.prog 7 #[.int .i64 c, .int .i64 4] w fun r w' => r = .returned (.int .i64 (pickN c 4 : Nat)) ∧ w' = w := by
  have e1 : c < 0 → ((pickN c 4 : Nat) : Int) = -((c + 1).tmod 4) := fun h => by
    rw [← Int.neg_tmod, Int.tmod_eq_emod_of_nonneg (by omega)]; unfold pickN; rw [if_pos h]; omega
  have e2 : ¬ c < 0 → ((pickN c 4 : Nat) : Int) = c.tmod 4 := fun h => by
    rw [Int.tmod_eq_emod_of_nonneg (by omega)]; unfold pickN; rw [if_neg h]; omega
  generalize ((pickN c 4 : Nat) : Int) = q at e1 e2 ⊢
  have HE : Hid ((c < 0 → q = -((c + 1).tmod 4)) ∧ (¬ c < 0 → q = c.tmod 4)) := ⟨e1, e2⟩
  clear e1 e2
  go_enter Tryd.func7, Tryd.ntmps7
  go_wp2
  · go_ret
    rw [HE.out.1 (by assumption)]
    exact ⟨rfl, rfl⟩
  · go_ret
    rw [HE.out.2 (by omega)]
    refine ⟨?_, rfl⟩
    rw [Int.tmod_eq_emod_of_nonneg (by omega)]
    rfl
theorem pick_key {n : Nat} (hn : n < 900) (w : World) : Calls Tryd.prog 7 #[.int .i64 (n : Nat), .int .i64 900] w fun r w' => r = .returned (.int .i64 (n : Nat)) ∧ w' = w := by
  have := pick900 (n : Int) w (by omega) (by omega)
  have e : pickN (n : Int) 900 = n := by unfold pickN; rw [if_neg (by omega)]; omega
  rw [e] at this
  exact this
end Go.Proofs.YtflonmlnedkmjaaDoor
namespace Go.Proofs.YtflonmlnedkmjaaDoor
open Go.ChangeShapes Go.WideShapes Go.RowKit Go.Deep

theorem wf_i64 {n : Int} (h : (Lit.int .i64 n).wf = true) : -9223372036854775808 ≤ n ∧ n ≤ 9223372036854775807 := by
  simp [Lit.wf, show IntKind.i64.min = -9223372036854775808 by decide, show IntKind.i64.max = 9223372036854775807 by decide] at h; exact h
theorem add_flat {W : World} {a : Addr} {k : Nat} {v : Value} (h : W.cell? (a.add k) = some v) : W.cell? ⟨a.block, a.off + k, none⟩ = some v := by
  by_cases h0 : k = 0
  · have e : a.add k = a := by unfold Addr.add; rw [if_pos h0]
    rw [e] at h
    have hsp := spot_of_cell h
    rw [hsp] at h
    rw [h0]
    exact h
  · have e : a.add k = ⟨a.block, a.off + k, none⟩ := by unfold Addr.add; rw [if_neg h0]
    rw [e] at h
    exact h

/-- What reads as a list of numbers is one. -/
theorem open_row {H : Type} {enc : TypeId × Value → H} {W : World} {base : Nat} {spare : Nat → Bool} {held : Bool} {fuel : Nat} {cs : List Value} {x : DataW H × List MemPlace}
    (h : DataW.trod enc Tryd.prog W base spare held fuel 27 cs = some x) : ∃ (pp : Option Addr) (zs : List Int) (c : Nat), cs = [.slice pp zs.length c] ∧ zs.length ≤ c ∧ c ≤ maxLen ∧
      (∀ z ∈ zs, -9223372036854775808 ≤ z ∧ z ≤ 9223372036854775807) ∧
      (zs = [] ∨ ∃ b o, pp = some ⟨b, o, none⟩ ∧ b < W.heap.size ∧ ∀ (i : Nat) (hi : i < zs.length), W.cell? ⟨b, o + i, none⟩ = some (.int .i64 zs[i])) := by
  rcases DataW.trod_slice Tryd.underlying27 h with ⟨hv, _⟩ | ⟨a, len, cap, elems, rest, m, hm, hcs, _, _, hl, hcap, hel, hall, _, _⟩
  · exact ⟨none, [], 0, hv, Nat.le_refl _, Nat.zero_le _, fun z hz => (by cases hz), .inl rfl⟩
  · have each : ∀ i, i < len → ∃ z : Int, W.cell? ⟨a.block, a.off + i, none⟩ = some (.int .i64 z) ∧ (-9223372036854775808 ≤ z ∧ z ≤ 9223372036854775807) ∧ (i = 0 → a = ⟨a.block, a.off, none⟩ ∧ a.block < W.heap.size) := by
      intro i hi
      have key := hall i hi
      rw [List.getElem?_eq_getElem (by omega), cells3] at key
      obtain ⟨cs', h1, h2⟩ := Option.bind_eq_some_iff.1 key
      obtain ⟨z, rfl, _, hz⟩ := DataW.trod_int Tryd.underlying3 h2
      obtain ⟨_, _, hcell⟩ := World.cells?_some h1
      have e0 := hcell 0 (by omega)
      rw [add_add] at e0
      simp only [Nat.mul_one, Nat.add_zero, List.getElem?_cons_zero] at e0
      refine ⟨z, add_flat e0, wf_i64 hz, fun h0 => ?_⟩
      subst h0
      have e1 : a.add 0 = a := by unfold Addr.add; rw [if_pos rfl]
      rw [e1] at e0
      exact ⟨spot_of_cell e0, block_of_cell e0⟩
    obtain ⟨f, hf⟩ := choose_lt each
    refine ⟨some a, (List.range len).map f, cap, by simpa using hcs, by simpa using hl, hcap, fun z hz => ?_, ?_⟩
    · obtain ⟨i, hi, rfl⟩ := List.mem_map.1 hz
      exact (hf i (List.mem_range.1 hi)).2.1
    · rcases Nat.eq_zero_or_pos len with h0 | h0
      · subst h0; exact .inl rfl
      · obtain ⟨hs0, hb0⟩ := (hf 0 h0).2.2 rfl
        refine .inr ⟨a.block, a.off, by rw [← hs0], hb0, fun i hi => ?_⟩
        have hi' : i < len := by simpa using hi
        simpa using (hf i hi').1

set_option maxRecDepth 100000 in
theorem open_nums {H : Type} {enc : TypeId × Value → H} {W : World} {base : Nat} {spare : Nat → Bool} {held : Bool} {v : Value} {x : DataW H} {ps : List MemPlace} {r : Reach} {b0 : Nat} (hval : Value.okWide Tryd.prog W r b0 27 v)
    (h : DataW.Trod enc Tryd.prog W base spare held 27 v x ps) : ∃ (pp : Option Addr) (zs : List Int) (c : Nat), v = .slice pp zs.length c ∧ zs.length ≤ c ∧ c ≤ maxLen ∧ (∀ z ∈ zs, -9223372036854775808 ≤ z ∧ z ≤ 9223372036854775807) ∧
      (zs = [] ∨ ∃ b o, pp = some ⟨b, o, none⟩ ∧ b < W.heap.size ∧ ∀ (i : Nat) (hi : i < zs.length), W.cell? ⟨b, o + i, none⟩ = some (.int .i64 zs[i])) := by
  obtain ⟨fuel, hf⟩ := h
  obtain ⟨pp, zs, c, hv, h1, h2, h3, h4⟩ := open_row hf
  refine ⟨pp, zs, c, ?_, h1, h2, h3, h4⟩
  obtain ⟨ad, len, cap, rfl⟩ := okWide_slice Tryd.underlying27 hval
  simpa [Value.cells] using hv
end Go.Proofs.YtflonmlnedkmjaaDoor
