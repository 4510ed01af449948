/-
  Data as they lie in memory: a datum's value, the memory that its Path and its Items lie in.
  From the reading of an argument to a list of numbers that lies in memory.
-/
import Derived.Test.YtnhbpcmiolkllabDoorB
import Derived.Deep.Slices
namespace Go.Proofs.YtnhbpcmiolkllabDoor
open Go.ChangeShapes Go.WideShapes Go.RowKit Go.Deep

/-- A datum but for its Items; pp, pc: where its Path lies, and its room. -/
structure Hd where
  k : Int
  t : ByteArray
  n : Int
  f : Int
  s : ByteArray
  r0 : Int
  r1 : Int
  r2 : Int
  r3 : Int
  pp : Option Addr
  path : List Int
  pc : Nat

/-- A datum, with where its Items lie, and their room. -/
structure MD where
  h : Hd
  ip : Option Addr
  ic : Nat
  items : List MD

namespace MD
/-- Its value. -/
def val (d : MD) : Value := D d.h.k d.h.t d.h.n d.h.f d.h.s d.h.r0 d.h.r1 d.h.r2 d.h.r3 (.slice d.h.pp d.h.path.length d.h.pc) (.slice d.ip d.items.length d.ic)
def cells (d : MD) : Array Value := #[.int .i64 d.h.k, .string d.h.t, .int .i64 d.h.n, .int .u64 d.h.f, .string d.h.s, .int .i64 d.h.r0, .int .i64 d.h.r1, .int .i64 d.h.r2, .int .i64 d.h.r3, .slice d.h.pp d.h.path.length d.h.pc, .slice d.ip d.items.length d.ic]
theorem val_eq (d : MD) : d.val = .agg d.cells := rfl

/-- The eleven cells of a datum. -/
def CellsAt (w : World) (b o : Nat) (d : MD) : Prop := ∀ j, j < 11 → w.cell? ⟨b, o + j, none⟩ = d.cells[j]?

/-- What the numbers and texts of a datum keep to. -/
structure Fine (h : Hd) : Prop where
  k0 : -9223372036854775808 ≤ h.k
  k1 : h.k ≤ 9223372036854775807
  n0 : -9223372036854775808 ≤ h.n
  n1 : h.n ≤ 9223372036854775807
  f0 : 0 ≤ h.f
  f1 : h.f ≤ 18446744073709551615
  o0 : -9223372036854775808 ≤ h.r0
  o1 : h.r0 ≤ 9223372036854775807
  a0 : -9223372036854775808 ≤ h.r1
  a1 : h.r1 ≤ 9223372036854775807
  b0 : -9223372036854775808 ≤ h.r2
  b1 : h.r2 ≤ 9223372036854775807
  c0 : -9223372036854775808 ≤ h.r3
  c1 : h.r3 ≤ 9223372036854775807
  t0 : h.t.size ≤ maxLen
  s0 : h.s.size ≤ maxLen
  pl : h.path.length ≤ h.pc
  pm : h.pc ≤ maxLen

/-- A path lies in memory below B. -/
def PathIn (B : Nat) (w : World) (h : Hd) : Prop :=
  (∀ x ∈ h.path, -9223372036854775808 ≤ x ∧ x ≤ 9223372036854775807) ∧
  (h.path = [] ∨ ∃ b o, h.pp = some ⟨b, o, none⟩ ∧ b < B ∧ ∀ (i : Nat) (hi : i < h.path.length), w.cell? ⟨b, o + i, none⟩ = some (.int .i64 h.path[i]))

/-- A datum of at most n levels lies in memory below B. -/
def In (B : Nat) (w : World) : Nat → MD → Prop
  | 0, _ => False
  | n + 1, d => Fine d.h ∧ PathIn B w d.h ∧ d.items.length ≤ d.ic ∧ d.ic ≤ maxLen ∧
      (d.items = [] ∨ ∃ b o, d.ip = some ⟨b, o, none⟩ ∧ b < B ∧ ∀ (i : Nat) (hi : i < d.items.length), CellsAt w b (o + i * 11) d.items[i] ∧ In B w n d.items[i])

theorem CellsAt.below {w w' : World} {B b o : Nat} {d : MD} (h : CellsAt w b o d) (hB : b < B) (hb : Below B w w') : CellsAt w' b o d := fun j hj =>
  (hb.cell (p := ⟨b, o + j, none⟩) hB).trans (h j hj)
theorem PathIn.below {B : Nat} {w w' : World} {h : Hd} (hp : PathIn B w h) (hb : Below B w w') : PathIn B w' h := by
  refine ⟨hp.1, ?_⟩
  rcases hp.2 with e | ⟨b, o, h1, h2, h3⟩
  · exact .inl e
  · exact .inr ⟨b, o, h1, h2, fun i hi => (hb.cell (p := ⟨b, o + i, none⟩) h2).trans (h3 i hi)⟩
theorem PathIn.mono {B B' : Nat} {w : World} {h : Hd} (hp : PathIn B w h) (hB : B ≤ B') : PathIn B' w h := by
  refine ⟨hp.1, ?_⟩
  rcases hp.2 with e | ⟨b, o, h1, h2, h3⟩
  · exact .inl e
  · exact .inr ⟨b, o, h1, by omega, h3⟩

theorem In.below {B : Nat} {w w' : World} (hb : Below B w w') : ∀ (n : Nat) (d : MD), In B w n d → In B w' n d
  | 0, _, h => h
  | n + 1, d, h => by
    obtain ⟨h1, h2, h3, h4, h5⟩ := h
    refine ⟨h1, h2.below hb, h3, h4, ?_⟩
    rcases h5 with e | ⟨b, o, e1, e2, e3⟩
    · exact .inl e
    · exact .inr ⟨b, o, e1, e2, fun i hi => ⟨(e3 i hi).1.below e2 hb, In.below hb n _ (e3 i hi).2⟩⟩
theorem In.mono {B B' : Nat} {w : World} (hB : B ≤ B') : ∀ (n : Nat) (d : MD), In B w n d → In B' w n d
  | 0, _, h => h
  | n + 1, d, h => by
    obtain ⟨h1, h2, h3, h4, h5⟩ := h
    refine ⟨h1, h2.mono hB, h3, h4, ?_⟩
    rcases h5 with e | ⟨b, o, e1, e2, e3⟩
    · exact .inl e
    · exact .inr ⟨b, o, e1, by omega, fun i hi => ⟨(e3 i hi).1, In.mono hB n _ (e3 i hi).2⟩⟩
/-- More levels may be told. -/
theorem In.more {B : Nat} {w : World} : ∀ (n m : Nat) (d : MD), n ≤ m → In B w n d → In B w m d
  | 0, _, _, _, h => h.elim
  | n + 1, 0, _, hm, _ => by omega
  | n + 1, m + 1, d, hm, h => by
    obtain ⟨h1, h2, h3, h4, h5⟩ := h
    refine ⟨h1, h2, h3, h4, ?_⟩
    rcases h5 with e | ⟨b, o, e1, e2, e3⟩
    · exact .inl e
    · exact .inr ⟨b, o, e1, e2, fun i hi => ⟨(e3 i hi).1, In.more n m _ (by omega) (e3 i hi).2⟩⟩
theorem In.later {B : Nat} {w w' : World} {n : Nat} {d : MD} (h : In B w n d) (hB : B ≤ w.heap.size) (hb : Below w.heap.size w w') : In w'.heap.size w' n d :=
  In.mono (Nat.le_trans hB hb.size) n d (In.below (hb.mono hB) n d h)
theorem PathIn.later {B : Nat} {w w' : World} {h : Hd} (hp : PathIn B w h) (hB : B ≤ w.heap.size) (hb : Below w.heap.size w w') : PathIn w'.heap.size w' h :=
  (hp.below (hb.mono hB)).mono (Nat.le_trans hB hb.size)
theorem In.fine {B : Nat} {w : World} : ∀ {n : Nat} {d : MD}, In B w n d → Fine d.h
  | _ + 1, _, h => h.1
theorem In.path {B : Nat} {w : World} : ∀ {n : Nat} {d : MD}, In B w n d → PathIn B w d.h
  | _ + 1, _, h => h.2.1
theorem In.len {B : Nat} {w : World} : ∀ {n : Nat} {d : MD}, In B w n d → d.items.length ≤ d.ic ∧ d.ic ≤ maxLen
  | _ + 1, _, h => ⟨h.2.2.1, h.2.2.2.1⟩
end MD

theorem cells28 : Tryd.prog.cellsOf 32 = 11 := by kernel_rfl
theorem cells9 : Tryd.prog.cellsOf 9 = 1 := by kernel_rfl
theorem cells3 : Tryd.prog.cellsOf 3 = 1 := by kernel_rfl

theorem spot_of_cell {w : World} {a : Addr} {v : Value} (h : w.cell? a = some v) : a = ⟨a.block, a.off, none⟩ := by
  obtain ⟨b, o, sp⟩ := a
  cases sp with
  | none => rfl
  | some x =>
    unfold World.cell? at h
    split at h
    · simp at h
    · cases h
theorem block_of_cell {w : World} {a : Addr} {v : Value} (h : w.cell? a = some v) : a.block < w.heap.size := by
  unfold World.cell? at h
  split at h
  · rename_i h1; exact (Array.getElem?_eq_some_iff.1 h1).1
  · cases h
end Go.Proofs.YtnhbpcmiolkllabDoor
namespace Go.Proofs.YtnhbpcmiolkllabDoor
open Go.ChangeShapes Go.WideShapes Go.RowKit Go.Deep

theorem wf_i64 {n : Int} (h : (Lit.int .i64 n).wf = true) : -9223372036854775808 ≤ n ∧ n ≤ 9223372036854775807 := by
  simp [Lit.wf, show IntKind.i64.min = -9223372036854775808 by decide, show IntKind.i64.max = 9223372036854775807 by decide] at h; exact h
theorem add_flat {W : World} {a : Addr} {k : Nat} {v : Value} (h : W.cell? (a.add k) = some v) : W.cell? ⟨a.block, a.off + k, none⟩ = some v := by
  by_cases h0 : k = 0
  · have e : a.add k = a := by unfold Addr.add; rw [if_pos h0]
    rw [e] at h
    have hsp := spot_of_cell h
    rw [hsp] at h
    rw [h0]
    exact h
  · have e : a.add k = ⟨a.block, a.off + k, none⟩ := by unfold Addr.add; rw [if_neg h0]
    rw [e] at h
    exact h

/-- What reads as a list of numbers is one. -/
theorem open_row {H : Type} {enc : TypeId × Value → H} {W : World} {base : Nat} {spare : Nat → Bool} {held : Bool} {fuel : Nat} {cs : List Value} {x : DataW H × List MemPlace}
    (h : DataW.trod enc Tryd.prog W base spare held fuel 22 cs = some x) : ∃ (pp : Option Addr) (zs : List Int) (c : Nat), cs = [.slice pp zs.length c] ∧ zs.length ≤ c ∧ c ≤ maxLen ∧
      (∀ z ∈ zs, -9223372036854775808 ≤ z ∧ z ≤ 9223372036854775807) ∧
      (zs = [] ∨ ∃ b o, pp = some ⟨b, o, none⟩ ∧ b < W.heap.size ∧ ∀ (i : Nat) (hi : i < zs.length), W.cell? ⟨b, o + i, none⟩ = some (.int .i64 zs[i])) := by
  rcases DataW.trod_slice Tryd.underlying22 h with ⟨hv, _⟩ | ⟨a, len, cap, elems, rest, m, hm, hcs, _, _, hl, hcap, hel, hall, _, _⟩
  · exact ⟨none, [], 0, hv, Nat.le_refl _, Nat.zero_le _, fun z hz => (by cases hz), .inl rfl⟩
  · have each : ∀ i, i < len → ∃ z : Int, W.cell? ⟨a.block, a.off + i, none⟩ = some (.int .i64 z) ∧ (-9223372036854775808 ≤ z ∧ z ≤ 9223372036854775807) ∧ (i = 0 → a = ⟨a.block, a.off, none⟩ ∧ a.block < W.heap.size) := by
      intro i hi
      have key := hall i hi
      rw [List.getElem?_eq_getElem (by omega), cells3] at key
      obtain ⟨cs', h1, h2⟩ := Option.bind_eq_some_iff.1 key
      obtain ⟨z, rfl, _, hz⟩ := DataW.trod_int Tryd.underlying3 h2
      obtain ⟨_, _, hcell⟩ := World.cells?_some h1
      have e0 := hcell 0 (by omega)
      rw [add_add] at e0
      simp only [Nat.mul_one, Nat.add_zero, List.getElem?_cons_zero] at e0
      refine ⟨z, add_flat e0, wf_i64 hz, fun h0 => ?_⟩
      subst h0
      have e1 : a.add 0 = a := by unfold Addr.add; rw [if_pos rfl]
      rw [e1] at e0
      exact ⟨spot_of_cell e0, block_of_cell e0⟩
    obtain ⟨f, hf⟩ := choose_lt each
    refine ⟨some a, (List.range len).map f, cap, by simpa using hcs, by simpa using hl, hcap, fun z hz => ?_, ?_⟩
    · obtain ⟨i, hi, rfl⟩ := List.mem_map.1 hz
      exact (hf i (List.mem_range.1 hi)).2.1
    · rcases Nat.eq_zero_or_pos len with h0 | h0
      · subst h0; exact .inl rfl
      · obtain ⟨hs0, hb0⟩ := (hf 0 h0).2.2 rfl
        refine .inr ⟨a.block, a.off, by rw [← hs0], hb0, fun i hi => ?_⟩
        have hi' : i < len := by simpa using hi
        simpa using (hf i hi').1

set_option maxRecDepth 100000 in
theorem open_nums {H : Type} {enc : TypeId × Value → H} {W : World} {base : Nat} {spare : Nat → Bool} {held : Bool} {v : Value} {x : DataW H} {ps : List MemPlace} {r : Reach} {b0 : Nat} (hval : Value.okWide Tryd.prog W r b0 22 v)
    (h : DataW.Trod enc Tryd.prog W base spare held 22 v x ps) : ∃ (pp : Option Addr) (zs : List Int) (c : Nat), v = .slice pp zs.length c ∧ zs.length ≤ c ∧ c ≤ maxLen ∧ (∀ z ∈ zs, -9223372036854775808 ≤ z ∧ z ≤ 9223372036854775807) ∧
      (zs = [] ∨ ∃ b o, pp = some ⟨b, o, none⟩ ∧ b < W.heap.size ∧ ∀ (i : Nat) (hi : i < zs.length), W.cell? ⟨b, o + i, none⟩ = some (.int .i64 zs[i])) := by
  obtain ⟨fuel, hf⟩ := h
  obtain ⟨pp, zs, c, hv, h1, h2, h3, h4⟩ := open_row hf
  refine ⟨pp, zs, c, ?_, h1, h2, h3, h4⟩
  obtain ⟨ad, len, cap, rfl⟩ := okWide_slice Tryd.underlying22 hval
  simpa [Value.cells] using hv
end Go.Proofs.YtnhbpcmiolkllabDoor
