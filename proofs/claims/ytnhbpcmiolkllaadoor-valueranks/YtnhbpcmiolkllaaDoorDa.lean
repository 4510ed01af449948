/-
  Data as they lie in memory: a datum's value, the memory that its Path and its Items lie in.
-/
import Derived.Test.YtnhbpcmiolkllaaDoorB
import Derived.Deep.Slices
namespace Go.Proofs.YtnhbpcmiolkllaaDoor
open Go.ChangeShapes Go.WideShapes Go.RowKit Go.Deep

/-- A datum but for its Items; pp, pc: where its Path lies, and its room. -/
structure Hd where
  k : Int
  t : ByteArray
  n : Int
  f : Int
  s : ByteArray
  r0 : Int
  r1 : Int
  r2 : Int
  r3 : Int
  pp : Option Addr
  path : List Int
  pc : Nat

/-- A datum, with where its Items lie, and their room. -/
structure MD where
  h : Hd
  ip : Option Addr
  ic : Nat
  items : List MD

namespace MD
/-- Its value. -/
def val (d : MD) : Value := D d.h.k d.h.t d.h.n d.h.f d.h.s d.h.r0 d.h.r1 d.h.r2 d.h.r3 (.slice d.h.pp d.h.path.length d.h.pc) (.slice d.ip d.items.length d.ic)
def cells (d : MD) : Array Value := #[.int .i64 d.h.k, .string d.h.t, .int .i64 d.h.n, .int .u64 d.h.f, .string d.h.s, .int .i64 d.h.r0, .int .i64 d.h.r1, .int .i64 d.h.r2, .int .i64 d.h.r3, .slice d.h.pp d.h.path.length d.h.pc, .slice d.ip d.items.length d.ic]
theorem val_eq (d : MD) : d.val = .agg d.cells := rfl

/-- The eleven cells of a datum. -/
def CellsAt (w : World) (b o : Nat) (d : MD) : Prop := ∀ j, j < 11 → w.cell? ⟨b, o + j, none⟩ = d.cells[j]?

/-- What the numbers and texts of a datum keep to. -/
structure Fine (h : Hd) : Prop where
  k0 : -9223372036854775808 ≤ h.k
  k1 : h.k ≤ 9223372036854775807
  n0 : -9223372036854775808 ≤ h.n
  n1 : h.n ≤ 9223372036854775807
  f0 : 0 ≤ h.f
  f1 : h.f ≤ 18446744073709551615
  o0 : -9223372036854775808 ≤ h.r0
  o1 : h.r0 ≤ 9223372036854775807
  a0 : -9223372036854775808 ≤ h.r1
  a1 : h.r1 ≤ 9223372036854775807
  b0 : -9223372036854775808 ≤ h.r2
  b1 : h.r2 ≤ 9223372036854775807
  c0 : -9223372036854775808 ≤ h.r3
  c1 : h.r3 ≤ 9223372036854775807
  t0 : h.t.size ≤ maxLen
  s0 : h.s.size ≤ maxLen
  pl : h.path.length ≤ h.pc
  pm : h.pc ≤ maxLen

/-- A path lies in memory below B. -/
def PathIn (B : Nat) (w : World) (h : Hd) : Prop :=
  (∀ x ∈ h.path, -9223372036854775808 ≤ x ∧ x ≤ 9223372036854775807) ∧
  (h.path = [] ∨ ∃ b o, h.pp = some ⟨b, o, none⟩ ∧ b < B ∧ ∀ (i : Nat) (hi : i < h.path.length), w.cell? ⟨b, o + i, none⟩ = some (.int .i64 h.path[i]))

/-- A datum of at most n levels lies in memory below B. -/
def In (B : Nat) (w : World) : Nat → MD → Prop
  | 0, _ => False
  | n + 1, d => Fine d.h ∧ PathIn B w d.h ∧ d.items.length ≤ d.ic ∧ d.ic ≤ maxLen ∧
      (d.items = [] ∨ ∃ b o, d.ip = some ⟨b, o, none⟩ ∧ b < B ∧ ∀ (i : Nat) (hi : i < d.items.length), CellsAt w b (o + i * 11) d.items[i] ∧ In B w n d.items[i])

theorem CellsAt.below {w w' : World} {B b o : Nat} {d : MD} (h : CellsAt w b o d) (hB : b < B) (hb : Below B w w') : CellsAt w' b o d := fun j hj =>
  (hb.cell (p := ⟨b, o + j, none⟩) hB).trans (h j hj)
theorem PathIn.below {B : Nat} {w w' : World} {h : Hd} (hp : PathIn B w h) (hb : Below B w w') : PathIn B w' h := by
  refine ⟨hp.1, ?_⟩
  rcases hp.2 with e | ⟨b, o, h1, h2, h3⟩
  · exact .inl e
  · exact .inr ⟨b, o, h1, h2, fun i hi => (hb.cell (p := ⟨b, o + i, none⟩) h2).trans (h3 i hi)⟩
theorem PathIn.mono {B B' : Nat} {w : World} {h : Hd} (hp : PathIn B w h) (hB : B ≤ B') : PathIn B' w h := by
  refine ⟨hp.1, ?_⟩
  rcases hp.2 with e | ⟨b, o, h1, h2, h3⟩
  · exact .inl e
  · exact .inr ⟨b, o, h1, by omega, h3⟩

theorem In.below {B : Nat} {w w' : World} (hb : Below B w w') : ∀ (n : Nat) (d : MD), In B w n d → In B w' n d
  | 0, _, h => h
  | n + 1, d, h => by
    obtain ⟨h1, h2, h3, h4, h5⟩ := h
    refine ⟨h1, h2.below hb, h3, h4, ?_⟩
    rcases h5 with e | ⟨b, o, e1, e2, e3⟩
    · exact .inl e
    · exact .inr ⟨b, o, e1, e2, fun i hi => ⟨(e3 i hi).1.below e2 hb, In.below hb n _ (e3 i hi).2⟩⟩
theorem In.mono {B B' : Nat} {w : World} (hB : B ≤ B') : ∀ (n : Nat) (d : MD), In B w n d → In B' w n d
  | 0, _, h => h
  | n + 1, d, h => by
    obtain ⟨h1, h2, h3, h4, h5⟩ := h
    refine ⟨h1, h2.mono hB, h3, h4, ?_⟩
    rcases h5 with e | ⟨b, o, e1, e2, e3⟩
    · exact .inl e
    · exact .inr ⟨b, o, e1, by omega, fun i hi => ⟨(e3 i hi).1, In.mono hB n _ (e3 i hi).2⟩⟩
/-- More levels may be told. -/
theorem In.more {B : Nat} {w : World} : ∀ (n m : Nat) (d : MD), n ≤ m → In B w n d → In B w m d
  | 0, _, _, _, h => h.elim
  | n + 1, 0, _, hm, _ => by omega
  | n + 1, m + 1, d, hm, h => by
    obtain ⟨h1, h2, h3, h4, h5⟩ := h
    refine ⟨h1, h2, h3, h4, ?_⟩
    rcases h5 with e | ⟨b, o, e1, e2, e3⟩
    · exact .inl e
    · exact .inr ⟨b, o, e1, e2, fun i hi => ⟨(e3 i hi).1, In.more n m _ (by omega) (e3 i hi).2⟩⟩
theorem In.later {B : Nat} {w w' : World} {n : Nat} {d : MD} (h : In B w n d) (hB : B ≤ w.heap.size) (hb : Below w.heap.size w w') : In w'.heap.size w' n d :=
  In.mono (Nat.le_trans hB hb.size) n d (In.below (hb.mono hB) n d h)
theorem PathIn.later {B : Nat} {w w' : World} {h : Hd} (hp : PathIn B w h) (hB : B ≤ w.heap.size) (hb : Below w.heap.size w w') : PathIn w'.heap.size w' h :=
  (hp.below (hb.mono hB)).mono (Nat.le_trans hB hb.size)
theorem In.fine {B : Nat} {w : World} : ∀ {n : Nat} {d : MD}, In B w n d → Fine d.h
  | _ + 1, _, h => h.1
theorem In.path {B : Nat} {w : World} : ∀ {n : Nat} {d : MD}, In B w n d → PathIn B w d.h
  | _ + 1, _, h => h.2.1
theorem In.len {B : Nat} {w : World} : ∀ {n : Nat} {d : MD}, In B w n d → d.items.length ≤ d.ic ∧ d.ic ≤ maxLen
  | _ + 1, _, h => ⟨h.2.2.1, h.2.2.2.1⟩
end MD

theorem cells28 : Tryd.prog.cellsOf 28 = 11 := by kernel_rfl
theorem cells9 : Tryd.prog.cellsOf 9 = 1 := by kernel_rfl
theorem cells3 : Tryd.prog.cellsOf 3 = 1 := by kernel_rfl

theorem spot_of_cell {w : World} {a : Addr} {v : Value} (h : w.cell? a = some v) : a = ⟨a.block, a.off, none⟩ := by
  obtain ⟨b, o, sp⟩ := a
  cases sp with
  | none => rfl
  | some x =>
    unfold World.cell? at h
    split at h
    · simp at h
    · cases h
theorem block_of_cell {w : World} {a : Addr} {v : Value} (h : w.cell? a = some v) : a.block < w.heap.size := by
  unfold World.cell? at h
  split at h
  · rename_i h1; exact (Array.getElem?_eq_some_iff.1 h1).1
  · cases h
end Go.Proofs.YtnhbpcmiolkllaaDoor
