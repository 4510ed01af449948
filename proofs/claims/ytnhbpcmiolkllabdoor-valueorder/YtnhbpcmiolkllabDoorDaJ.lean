/-
  A float's bits, made.
  Data as they lie in memory: a datum's value, the memory that its Path and its Items lie in.
-/
import Derived.Test.YtnhbpcmiolkllabDoorFlJ
import Derived.Laws.Bits64
import Derived.Test.YtnhbpcmiolkllabDoorB
import Derived.Deep.Slices
namespace Go.Proofs.YtnhbpcmiolkllabDoor
open Go.RowKit

theorem and2047 (x : Int) (h0 : 0 ≤ x) (h1 : x ≤ 18446744073709551615) : bits .and .u64 x 2047 = x % 2048 := by
  obtain ⟨n, rfl⟩ : ∃ n : Nat, x = n := ⟨x.toNat, by omega⟩
  show IntKind.u64.wrap ((BitVec.ofInt 64 (n : Int) &&& BitVec.ofInt 64 2047).toNat : Int) = _
  have e1 : BitVec.ofInt 64 2047 = BitVec.ofNat 64 (2 ^ 11 - 1) := by decide
  rw [e1, BitVec.toNat_and, BitVec.toNat_ofInt, BitVec.toNat_ofNat]
  have e2 : ((n : Int) % ((2 ^ 64 : Nat) : Int)).toNat = n := by
    have : (n : Int) % ((2 ^ 64 : Nat) : Int) = n := by rw [show ((2 ^ 64 : Nat) : Int) = 18446744073709551616 by decide]; omega
    rw [this]; rfl
  rw [e2, Nat.mod_eq_of_lt (by decide : 2 ^ 11 - 1 < 2 ^ 64), Nat.and_two_pow_sub_one_eq_mod]
  simp [IntKind.wrap, IntKind.bits, IntKind.signed]
  omega

theorem and62 (x : Int) (h0 : 0 ≤ x) (h1 : x ≤ 18446744073709551615) : bits .and .u64 x 4611686018427387903 = x % 4611686018427387904 := by
  obtain ⟨n, rfl⟩ : ∃ n : Nat, x = n := ⟨x.toNat, by omega⟩
  show IntKind.u64.wrap ((BitVec.ofInt 64 (n : Int) &&& BitVec.ofInt 64 4611686018427387903).toNat : Int) = _
  have e1 : BitVec.ofInt 64 4611686018427387903 = BitVec.ofNat 64 (2 ^ 62 - 1) := by decide
  rw [e1, BitVec.toNat_and, BitVec.toNat_ofInt, BitVec.toNat_ofNat]
  have e2 : ((n : Int) % ((2 ^ 64 : Nat) : Int)).toNat = n := by
    have : (n : Int) % ((2 ^ 64 : Nat) : Int) = n := by rw [show ((2 ^ 64 : Nat) : Int) = 18446744073709551616 by decide]; omega
    rw [this]; rfl
  rw [e2, Nat.mod_eq_of_lt (by decide : 2 ^ 62 - 1 < 2 ^ 64), Nat.and_two_pow_sub_one_eq_mod]
  simp [IntKind.wrap, IntKind.bits, IntKind.signed]
  omega

/-- A float that may be. -/
def flOK (f : Int) : Bool := f == 9221120237041090561 || !isNan f.toNat
def nineU : Array Value := #[.int .u64 0, .int .u64 9223372036854775808, .int .u64 4607182418800017408, .int .u64 13830554455654793216, .int .u64 9218868437227405312, .int .u64 18442240474082181120, .int .u64 9221120237041090561, .int .u64 1, .int .u64 4613937818241073152]
theorem nineU_get (m : Nat) (h : m < 9) : ∃ v : Int, nineU[m]? = some (.int .u64 v) ∧ 0 ≤ v ∧ v ≤ 18446744073709551615 ∧ flOK v = true := by
  match m, h with
  | 0, _ => exact ⟨_, rfl, by decide, by decide, by decide⟩
  | 1, _ => exact ⟨_, rfl, by decide, by decide, by decide⟩
  | 2, _ => exact ⟨_, rfl, by decide, by decide, by decide⟩
  | 3, _ => exact ⟨_, rfl, by decide, by decide, by decide⟩
  | 4, _ => exact ⟨_, rfl, by decide, by decide, by decide⟩
  | 5, _ => exact ⟨_, rfl, by decide, by decide, by decide⟩
  | 6, _ => exact ⟨_, rfl, by decide, by decide, by decide⟩
  | 7, _ => exact ⟨_, rfl, by decide, by decide, by decide⟩
  | 8, _ => exact ⟨_, rfl, by decide, by decide, by decide⟩
theorem uwr (z : Int) : 0 ≤ IntKind.u64.wrap z ∧ IntKind.u64.wrap z ≤ 18446744073709551615 := by
  rw [IntKind.wrap_u64]; omega
theorem bits_range (op : BinOp) (x y : Int) : 0 ≤ bits op .u64 x y ∧ bits op .u64 x y ≤ 18446744073709551615 := uwr _
def FloatP (kb : Nat) (rp : Option Addr) (raw : List Int) (rc at_ : Nat) (w : World) (r : Ending) (w' : World) : Prop := ∃ (f : Int) (a' : Nat), r = .returned (.int .u64 f) ∧ 0 ≤ f ∧ f ≤ 18446744073709551615 ∧ flOK f = true ∧ a' ≤ at_ + 2 ∧ MakerAt w' kb rp raw rc a' ∧ Moved kb w w'
set_option maxRecDepth 100000 in
set_option maxHeartbeats 2000000 in
theorem float_any (kb : Nat) (rp : Option Addr) (raw : List Int) (rc at_ : Nat) (w : World) (hM : MakerAt w kb rp raw rc at_) (ha : at_ ≤ 99000) :
    Calls Tryd.prog 31 #[.pointer (some ⟨kb, 0, none⟩)] w (FloatP kb rp raw rc at_ w) := by
  have hk : kb < w.heap.size := (Array.getElem?_eq_some_iff.1 hM.row).1
  have HM : Hid (MakerAt w kb rp raw rc at_) := hM
  clear hM
  go_enter Tryd.func31, Tryd.ntmps31
  go_wp2_with fail
  refine (next_any kb rp raw rc at_ 12 _ (HM.out.below (below1 _ _)) (by omega) (by decide) (by decide)).mono ?_
  rintro r w2 ⟨c, rfl, c0, c1, hM2, hv2⟩
  obtain ⟨m, rfl⟩ : ∃ m : Nat, c = m := ⟨c.toNat, by omega⟩
  have hr2 : w2.heap[w.heap.size]? = some (.cells nineU 27 (0, 0)) := (hv2.block _ (by simp) (by omega)).trans (heap_alloc_new _ _)
  have HV : Hid (MakerAt w2 kb rp raw rc (at_ + 1) ∧ Moved kb w w2) := ⟨hM2, (Moved.of_below (below1 _ _)).trans hv2⟩
  clear hM2 hv2
  by_cases hlt : m < 9
  · have i1 : (m : Int) < 9 := by omega
    obtain ⟨v, hv, v0, v1, v2⟩ := nineU_get m hlt
    have hc := (row_at hr2 m).trans hv
    clear hr2 hv
    go_wp2_with fail
    go_ret
    exact ⟨v, at_ + 1, rfl, v0, v1, v2, by omega, HV.out.1, HV.out.2⟩
  · have i1 : ¬ (m : Int) < 9 := by omega
    clear hr2
    go_wp2_with fail
    refine (raw_any kb rp raw rc (at_ + 1) w2 HV.out.1 (by omega)).mono ?_
    rintro r w3 ⟨c2, rfl, d0, d1, hM3, hv3⟩
    have HV3 : Hid (MakerAt w3 kb rp raw rc (at_ + 1 + 1) ∧ Moved kb w w3) := ⟨hM3, HV.out.2.trans hv3⟩
    clear hM3 hv3
    go_wp2_with fail
    · go_ret
      refine ⟨_, at_ + 1 + 1, rfl, (bits_range _ _ _).1, (bits_range _ _ _).2, ?_, by omega, HV3.out.1, HV3.out.2⟩
      have hz := uwr c2
      rw [and62 _ (by omega) (by omega)]
      unfold flOK isNan
      simp only [Bool.or_eq_true, Bool.not_eq_true', decide_eq_false_iff_not]
      right; omega
    · have hq : (bits BinOp.and IntKind.u64 (IntKind.u64.wrap c2 / 4503599627370496) 2047 == 2047) = false := by assumption
      go_ret
      refine ⟨_, at_ + 1 + 1, rfl, (uwr _).1, (uwr _).2, ?_, by omega, HV3.out.1, HV3.out.2⟩
      have hz := uwr c2
      rw [and2047 _ (by omega) (by omega)] at hq
      have hq' : IntKind.u64.wrap c2 / 4503599627370496 % 2048 ≠ 2047 := by simpa using hq
      unfold flOK isNan
      simp only [Bool.or_eq_true, Bool.not_eq_true', decide_eq_false_iff_not]
      right; omega
end Go.Proofs.YtnhbpcmiolkllabDoor
namespace Go.Proofs.YtnhbpcmiolkllabDoor
open Go.ChangeShapes Go.WideShapes Go.RowKit Go.Deep

/-- A datum but for its Items; pp, pc: where its Path lies, and its room. -/
structure Hd where
  k : Int
  t : ByteArray
  n : Int
  f : Int
  s : ByteArray
  r0 : Int
  r1 : Int
  r2 : Int
  r3 : Int
  pp : Option Addr
  path : List Int
  pc : Nat

/-- A datum, with where its Items lie, and their room. -/
structure MD where
  h : Hd
  ip : Option Addr
  ic : Nat
  items : List MD

namespace MD
/-- Its value. -/
def val (d : MD) : Value := D d.h.k d.h.t d.h.n d.h.f d.h.s d.h.r0 d.h.r1 d.h.r2 d.h.r3 (.slice d.h.pp d.h.path.length d.h.pc) (.slice d.ip d.items.length d.ic)
def cells (d : MD) : Array Value := #[.int .i64 d.h.k, .string d.h.t, .int .i64 d.h.n, .int .u64 d.h.f, .string d.h.s, .int .i64 d.h.r0, .int .i64 d.h.r1, .int .i64 d.h.r2, .int .i64 d.h.r3, .slice d.h.pp d.h.path.length d.h.pc, .slice d.ip d.items.length d.ic]
theorem val_eq (d : MD) : d.val = .agg d.cells := rfl

/-- The eleven cells of a datum. -/
def CellsAt (w : World) (b o : Nat) (d : MD) : Prop := ∀ j, j < 11 → w.cell? ⟨b, o + j, none⟩ = d.cells[j]?

/-- What the numbers and texts of a datum keep to. -/
structure Fine (h : Hd) : Prop where
  k0 : -9223372036854775808 ≤ h.k
  k1 : h.k ≤ 9223372036854775807
  n0 : -9223372036854775808 ≤ h.n
  n1 : h.n ≤ 9223372036854775807
  f0 : 0 ≤ h.f
  f1 : h.f ≤ 18446744073709551615
  o0 : -9223372036854775808 ≤ h.r0
  o1 : h.r0 ≤ 9223372036854775807
  a0 : -9223372036854775808 ≤ h.r1
  a1 : h.r1 ≤ 9223372036854775807
  b0 : -9223372036854775808 ≤ h.r2
  b1 : h.r2 ≤ 9223372036854775807
  c0 : -9223372036854775808 ≤ h.r3
  c1 : h.r3 ≤ 9223372036854775807
  t0 : h.t.size ≤ maxLen
  s0 : h.s.size ≤ maxLen
  pl : h.path.length ≤ h.pc
  pm : h.pc ≤ maxLen

/-- A path lies in memory below B. -/
def PathIn (B : Nat) (w : World) (h : Hd) : Prop :=
  (∀ x ∈ h.path, -9223372036854775808 ≤ x ∧ x ≤ 9223372036854775807) ∧
  (h.path = [] ∨ ∃ b o, h.pp = some ⟨b, o, none⟩ ∧ b < B ∧ ∀ (i : Nat) (hi : i < h.path.length), w.cell? ⟨b, o + i, none⟩ = some (.int .i64 h.path[i]))

/-- A datum of at most n levels lies in memory below B. -/
def In (B : Nat) (w : World) : Nat → MD → Prop
  | 0, _ => False
  | n + 1, d => Fine d.h ∧ PathIn B w d.h ∧ d.items.length ≤ d.ic ∧ d.ic ≤ maxLen ∧
      (d.items = [] ∨ ∃ b o, d.ip = some ⟨b, o, none⟩ ∧ b < B ∧ ∀ (i : Nat) (hi : i < d.items.length), CellsAt w b (o + i * 11) d.items[i] ∧ In B w n d.items[i])

theorem CellsAt.below {w w' : World} {B b o : Nat} {d : MD} (h : CellsAt w b o d) (hB : b < B) (hb : Below B w w') : CellsAt w' b o d := fun j hj =>
  (hb.cell (p := ⟨b, o + j, none⟩) hB).trans (h j hj)
theorem PathIn.below {B : Nat} {w w' : World} {h : Hd} (hp : PathIn B w h) (hb : Below B w w') : PathIn B w' h := by
  refine ⟨hp.1, ?_⟩
  rcases hp.2 with e | ⟨b, o, h1, h2, h3⟩
  · exact .inl e
  · exact .inr ⟨b, o, h1, h2, fun i hi => (hb.cell (p := ⟨b, o + i, none⟩) h2).trans (h3 i hi)⟩
theorem PathIn.mono {B B' : Nat} {w : World} {h : Hd} (hp : PathIn B w h) (hB : B ≤ B') : PathIn B' w h := by
  refine ⟨hp.1, ?_⟩
  rcases hp.2 with e | ⟨b, o, h1, h2, h3⟩
  · exact .inl e
  · exact .inr ⟨b, o, h1, by omega, h3⟩

theorem In.below {B : Nat} {w w' : World} (hb : Below B w w') : ∀ (n : Nat) (d : MD), In B w n d → In B w' n d
  | 0, _, h => h
  | n + 1, d, h => by
    obtain ⟨h1, h2, h3, h4, h5⟩ := h
    refine ⟨h1, h2.below hb, h3, h4, ?_⟩
    rcases h5 with e | ⟨b, o, e1, e2, e3⟩
    · exact .inl e
    · exact .inr ⟨b, o, e1, e2, fun i hi => ⟨(e3 i hi).1.below e2 hb, In.below hb n _ (e3 i hi).2⟩⟩
theorem In.mono {B B' : Nat} {w : World} (hB : B ≤ B') : ∀ (n : Nat) (d : MD), In B w n d → In B' w n d
  | 0, _, h => h
  | n + 1, d, h => by
    obtain ⟨h1, h2, h3, h4, h5⟩ := h
    refine ⟨h1, h2.mono hB, h3, h4, ?_⟩
    rcases h5 with e | ⟨b, o, e1, e2, e3⟩
    · exact .inl e
    · exact .inr ⟨b, o, e1, by omega, fun i hi => ⟨(e3 i hi).1, In.mono hB n _ (e3 i hi).2⟩⟩
/-- More levels may be told. -/
theorem In.more {B : Nat} {w : World} : ∀ (n m : Nat) (d : MD), n ≤ m → In B w n d → In B w m d
  | 0, _, _, _, h => h.elim
  | n + 1, 0, _, hm, _ => by omega
  | n + 1, m + 1, d, hm, h => by
    obtain ⟨h1, h2, h3, h4, h5⟩ := h
    refine ⟨h1, h2, h3, h4, ?_⟩
    rcases h5 with e | ⟨b, o, e1, e2, e3⟩
    · exact .inl e
    · exact .inr ⟨b, o, e1, e2, fun i hi => ⟨(e3 i hi).1, In.more n m _ (by omega) (e3 i hi).2⟩⟩
theorem In.later {B : Nat} {w w' : World} {n : Nat} {d : MD} (h : In B w n d) (hB : B ≤ w.heap.size) (hb : Below w.heap.size w w') : In w'.heap.size w' n d :=
  In.mono (Nat.le_trans hB hb.size) n d (In.below (hb.mono hB) n d h)
theorem PathIn.later {B : Nat} {w w' : World} {h : Hd} (hp : PathIn B w h) (hB : B ≤ w.heap.size) (hb : Below w.heap.size w w') : PathIn w'.heap.size w' h :=
  (hp.below (hb.mono hB)).mono (Nat.le_trans hB hb.size)
theorem In.fine {B : Nat} {w : World} : ∀ {n : Nat} {d : MD}, In B w n d → Fine d.h
  | _ + 1, _, h => h.1
theorem In.path {B : Nat} {w : World} : ∀ {n : Nat} {d : MD}, In B w n d → PathIn B w d.h
  | _ + 1, _, h => h.2.1
theorem In.len {B : Nat} {w : World} : ∀ {n : Nat} {d : MD}, In B w n d → d.items.length ≤ d.ic ∧ d.ic ≤ maxLen
  | _ + 1, _, h => ⟨h.2.2.1, h.2.2.2.1⟩
end MD

theorem cells28 : Tryd.prog.cellsOf 32 = 11 := by kernel_rfl
theorem cells9 : Tryd.prog.cellsOf 9 = 1 := by kernel_rfl
theorem cells3 : Tryd.prog.cellsOf 3 = 1 := by kernel_rfl

theorem spot_of_cell {w : World} {a : Addr} {v : Value} (h : w.cell? a = some v) : a = ⟨a.block, a.off, none⟩ := by
  obtain ⟨b, o, sp⟩ := a
  cases sp with
  | none => rfl
  | some x =>
    unfold World.cell? at h
    split at h
    · simp at h
    · cases h
theorem block_of_cell {w : World} {a : Addr} {v : Value} (h : w.cell? a = some v) : a.block < w.heap.size := by
  unfold World.cell? at h
  split at h
  · rename_i h1; exact (Array.getElem?_eq_some_iff.1 h1).1
  · cases h
end Go.Proofs.YtnhbpcmiolkllabDoor
