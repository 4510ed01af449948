/-
  Data as they lie in memory: a datum's value, the memory that its Path and its Items lie in.
  Floats by their bits: which are no numbers, and their order (plain facts).
  The small walks beneath right: types' names, what a kind has, refs, NaNs.
  What a kind has of its own; a pointer's ref; when two heads are the same.
-/
import Derived.Test.YtnhbpcmiolkllaaDoorB
import Derived.Deep.Slices
import Derived.Laws.BitsAllLaws
import Derived.Test.YtnhbpcmiolkllaaDoorEJ
import Derived.Test.YtnhbpcmiolkllaaDoorG
import Derived.Laws.Cover2
namespace Go.Proofs.YtnhbpcmiolkllaaDoor
open Go.ChangeShapes Go.WideShapes Go.RowKit Go.Deep

/-- A datum but for its Items; pp, pc: where its Path lies, and its room. -/
structure Hd where
  k : Int
  t : ByteArray
  n : Int
  f : Int
  s : ByteArray
  r0 : Int
  r1 : Int
  r2 : Int
  r3 : Int
  pp : Option Addr
  path : List Int
  pc : Nat

/-- A datum, with where its Items lie, and their room. -/
structure MD where
  h : Hd
  ip : Option Addr
  ic : Nat
  items : List MD

namespace MD
/-- Its value. -/
def val (d : MD) : Value := D d.h.k d.h.t d.h.n d.h.f d.h.s d.h.r0 d.h.r1 d.h.r2 d.h.r3 (.slice d.h.pp d.h.path.length d.h.pc) (.slice d.ip d.items.length d.ic)
def cells (d : MD) : Array Value := #[.int .i64 d.h.k, .string d.h.t, .int .i64 d.h.n, .int .u64 d.h.f, .string d.h.s, .int .i64 d.h.r0, .int .i64 d.h.r1, .int .i64 d.h.r2, .int .i64 d.h.r3, .slice d.h.pp d.h.path.length d.h.pc, .slice d.ip d.items.length d.ic]
theorem val_eq (d : MD) : d.val = .agg d.cells := rfl

/-- The eleven cells of a datum. -/
def CellsAt (w : World) (b o : Nat) (d : MD) : Prop := ∀ j, j < 11 → w.cell? ⟨b, o + j, none⟩ = d.cells[j]?

/-- What the numbers and texts of a datum keep to. -/
structure Fine (h : Hd) : Prop where
  k0 : -9223372036854775808 ≤ h.k
  k1 : h.k ≤ 9223372036854775807
  n0 : -9223372036854775808 ≤ h.n
  n1 : h.n ≤ 9223372036854775807
  f0 : 0 ≤ h.f
  f1 : h.f ≤ 18446744073709551615
  o0 : -9223372036854775808 ≤ h.r0
  o1 : h.r0 ≤ 9223372036854775807
  a0 : -9223372036854775808 ≤ h.r1
  a1 : h.r1 ≤ 9223372036854775807
  b0 : -9223372036854775808 ≤ h.r2
  b1 : h.r2 ≤ 9223372036854775807
  c0 : -9223372036854775808 ≤ h.r3
  c1 : h.r3 ≤ 9223372036854775807
  t0 : h.t.size ≤ maxLen
  s0 : h.s.size ≤ maxLen
  pl : h.path.length ≤ h.pc
  pm : h.pc ≤ maxLen

/-- A path lies in memory below B. -/
def PathIn (B : Nat) (w : World) (h : Hd) : Prop :=
  (∀ x ∈ h.path, -9223372036854775808 ≤ x ∧ x ≤ 9223372036854775807) ∧
  (h.path = [] ∨ ∃ b o, h.pp = some ⟨b, o, none⟩ ∧ b < B ∧ ∀ (i : Nat) (hi : i < h.path.length), w.cell? ⟨b, o + i, none⟩ = some (.int .i64 h.path[i]))

/-- A datum of at most n levels lies in memory below B. -/
def In (B : Nat) (w : World) : Nat → MD → Prop
  | 0, _ => False
  | n + 1, d => Fine d.h ∧ PathIn B w d.h ∧ d.items.length ≤ d.ic ∧ d.ic ≤ maxLen ∧
      (d.items = [] ∨ ∃ b o, d.ip = some ⟨b, o, none⟩ ∧ b < B ∧ ∀ (i : Nat) (hi : i < d.items.length), CellsAt w b (o + i * 11) d.items[i] ∧ In B w n d.items[i])

theorem CellsAt.below {w w' : World} {B b o : Nat} {d : MD} (h : CellsAt w b o d) (hB : b < B) (hb : Below B w w') : CellsAt w' b o d := fun j hj =>
  (hb.cell (p := ⟨b, o + j, none⟩) hB).trans (h j hj)
theorem PathIn.below {B : Nat} {w w' : World} {h : Hd} (hp : PathIn B w h) (hb : Below B w w') : PathIn B w' h := by
  refine ⟨hp.1, ?_⟩
  rcases hp.2 with e | ⟨b, o, h1, h2, h3⟩
  · exact .inl e
  · exact .inr ⟨b, o, h1, h2, fun i hi => (hb.cell (p := ⟨b, o + i, none⟩) h2).trans (h3 i hi)⟩
theorem PathIn.mono {B B' : Nat} {w : World} {h : Hd} (hp : PathIn B w h) (hB : B ≤ B') : PathIn B' w h := by
  refine ⟨hp.1, ?_⟩
  rcases hp.2 with e | ⟨b, o, h1, h2, h3⟩
  · exact .inl e
  · exact .inr ⟨b, o, h1, by omega, h3⟩

theorem In.below {B : Nat} {w w' : World} (hb : Below B w w') : ∀ (n : Nat) (d : MD), In B w n d → In B w' n d
  | 0, _, h => h
  | n + 1, d, h => by
    obtain ⟨h1, h2, h3, h4, h5⟩ := h
    refine ⟨h1, h2.below hb, h3, h4, ?_⟩
    rcases h5 with e | ⟨b, o, e1, e2, e3⟩
    · exact .inl e
    · exact .inr ⟨b, o, e1, e2, fun i hi => ⟨(e3 i hi).1.below e2 hb, In.below hb n _ (e3 i hi).2⟩⟩
theorem In.mono {B B' : Nat} {w : World} (hB : B ≤ B') : ∀ (n : Nat) (d : MD), In B w n d → In B' w n d
  | 0, _, h => h
  | n + 1, d, h => by
    obtain ⟨h1, h2, h3, h4, h5⟩ := h
    refine ⟨h1, h2.mono hB, h3, h4, ?_⟩
    rcases h5 with e | ⟨b, o, e1, e2, e3⟩
    · exact .inl e
    · exact .inr ⟨b, o, e1, by omega, fun i hi => ⟨(e3 i hi).1, In.mono hB n _ (e3 i hi).2⟩⟩
/-- More levels may be told. -/
theorem In.more {B : Nat} {w : World} : ∀ (n m : Nat) (d : MD), n ≤ m → In B w n d → In B w m d
  | 0, _, _, _, h => h.elim
  | n + 1, 0, _, hm, _ => by omega
  | n + 1, m + 1, d, hm, h => by
    obtain ⟨h1, h2, h3, h4, h5⟩ := h
    refine ⟨h1, h2, h3, h4, ?_⟩
    rcases h5 with e | ⟨b, o, e1, e2, e3⟩
    · exact .inl e
    · exact .inr ⟨b, o, e1, e2, fun i hi => ⟨(e3 i hi).1, In.more n m _ (by omega) (e3 i hi).2⟩⟩
theorem In.later {B : Nat} {w w' : World} {n : Nat} {d : MD} (h : In B w n d) (hB : B ≤ w.heap.size) (hb : Below w.heap.size w w') : In w'.heap.size w' n d :=
  In.mono (Nat.le_trans hB hb.size) n d (In.below (hb.mono hB) n d h)
theorem PathIn.later {B : Nat} {w w' : World} {h : Hd} (hp : PathIn B w h) (hB : B ≤ w.heap.size) (hb : Below w.heap.size w w') : PathIn w'.heap.size w' h :=
  (hp.below (hb.mono hB)).mono (Nat.le_trans hB hb.size)
theorem In.fine {B : Nat} {w : World} : ∀ {n : Nat} {d : MD}, In B w n d → Fine d.h
  | _ + 1, _, h => h.1
theorem In.path {B : Nat} {w : World} : ∀ {n : Nat} {d : MD}, In B w n d → PathIn B w d.h
  | _ + 1, _, h => h.2.1
theorem In.len {B : Nat} {w : World} : ∀ {n : Nat} {d : MD}, In B w n d → d.items.length ≤ d.ic ∧ d.ic ≤ maxLen
  | _ + 1, _, h => ⟨h.2.2.1, h.2.2.2.1⟩
end MD

theorem cells28 : Tryd.prog.cellsOf 28 = 11 := by kernel_rfl
theorem cells9 : Tryd.prog.cellsOf 9 = 1 := by kernel_rfl
theorem cells3 : Tryd.prog.cellsOf 3 = 1 := by kernel_rfl

theorem spot_of_cell {w : World} {a : Addr} {v : Value} (h : w.cell? a = some v) : a = ⟨a.block, a.off, none⟩ := by
  obtain ⟨b, o, sp⟩ := a
  cases sp with
  | none => rfl
  | some x =>
    unfold World.cell? at h
    split at h
    · simp at h
    · cases h
theorem block_of_cell {w : World} {a : Addr} {v : Value} (h : w.cell? a = some v) : a.block < w.heap.size := by
  unfold World.cell? at h
  split at h
  · rename_i h1; exact (Array.getElem?_eq_some_iff.1 h1).1
  · cases h
end Go.Proofs.YtnhbpcmiolkllaaDoor
namespace Go.Proofs.YtnhbpcmiolkllaaDoor
section
open Ieee

/-- Is it a NaN, by its bits? -/
def isNan (x : Nat) : Bool := decide (9218868437227405312 < x % 9223372036854775808)

theorem read_double (x : Nat) : double.read x =
    if x % 9223372036854775808 < 4503599627370496 then .number (x / 9223372036854775808 % 2 == 1) (x % 9223372036854775808) (-1074)
    else if x % 9223372036854775808 < 9218868437227405312 then
      .number (x / 9223372036854775808 % 2 == 1) (4503599627370496 + x % 9223372036854775808 % 4503599627370496) (-1074 + (x % 9223372036854775808 / 4503599627370496 - 1 : Nat))
    else if x % 9223372036854775808 = 9218868437227405312 then .infinity (x / 9223372036854775808 % 2 == 1)
    else .nan (x / 9223372036854775808 % 2 == 1) (x % 9223372036854775808 - 9218868437227405312) := rfl

theorem read_isNan (x : Nat) : (double.read x).isNaN = isNan x := by
  rw [read_double]; unfold isNan
  split
  · simp [Datum.isNaN]; omega
  · split
    · simp [Datum.isNaN]; omega
    · split
      · simp [Datum.isNaN]; omega
      · simp [Datum.isNaN]; omega

theorem compare_swap_int (a b : Int) : compare b a = (compare a b).swap := by
  simp only [compare, compareOfLessAndEq]
  by_cases h1 : a < b
  · have : ¬ b < a := by omega
    have h3 : ¬ b = a := by omega
    simp [h1, this, h3]
  · by_cases h2 : a = b
    · subst h2; simp
    · have : b < a := by omega
      simp [h1, h2, this]

theorem order_swap_datum (d e : Datum) : e.order d = (d.order e).map Ordering.swap := by
  cases d with
  | nan s f => cases e <;> rfl
  | infinity s =>
    cases e with
    | nan => rfl
    | infinity t => cases s <;> cases t <;> rfl
    | number t n j => cases s <;> rfl
  | number s m i =>
    cases e with
    | nan => rfl
    | infinity t => cases t <;> rfl
    | number t n j =>
      simp only [Datum.order, Option.map_some, Option.some.injEq]
      rw [Int.min_comm j i]
      exact compare_swap_int _ _

theorem order_none_datum (d e : Datum) : d.order e = none ↔ d.isNaN = true ∨ e.isNaN = true := by
  cases d <;> cases e <;> simp [Datum.order, Datum.isNaN]

theorem order_swap (x y : Nat) : double.order y x = (double.order x y).map Ordering.swap := order_swap_datum _ _

theorem order_none (x y : Nat) : double.order x y = none ↔ isNan x = true ∨ isNan y = true := by
  rw [← read_isNan, ← read_isNan]; exact order_none_datum _ _

end
end Go.Proofs.YtnhbpcmiolkllaaDoor
namespace Go.Proofs.YtnhbpcmiolkllaaDoor
open Go.RowKit
attribute [local go_sem] refold2 cell3_0 cell3_1 b28_0 b28_01

theorem x56 (n : Int) (W : World) : (callFunc 56 #[.int .u64 n]).run Tryd.prog W = .ok (.value (.float .f64 n.toNat)) W :=
  (@run_callFunc_extern Tryd.prog 56 _ Extern.MathFloatBits.float64frombits Tryd.func56 (by kernel_rfl) (by kernel_rfl) (by kernel_rfl) (by kernel_rfl) _ W).trans rfl
attribute [local go_sem] x56

/-- The float of some bits is no number. -/
theorem mathIsNaN_any (x : Nat) (w : World) : Calls Tryd.prog 55 #[.float .f64 x] w fun r w' => r = .returned (.bool (isNan x)) ∧ w' = w := by
  have h : (FloatKind.f64.format.order x x != some .eq) = isNan x := by
    have h1 := order_none x x
    have h2 := order_swap x x
    show (Ieee.double.order x x != some .eq) = _
    cases ho : Ieee.double.order x x with
    | none => have := h1.1 ho; simp at this; rw [this]; rfl
    | some o =>
      rw [ho] at h1 h2
      have : isNan x = false := by cases hx : isNan x with
        | false => rfl
        | true => have := h1.2 (.inl hx); cases this
      rw [this]
      cases o <;> simp [Ordering.swap] at h2 ⊢
  go_enter Tryd.func55, Tryd.ntmps55
  go_wp2
  go_ret
  exact ⟨rfl, rfl⟩

theorem and2047 (x : Int) (h0 : 0 ≤ x) (h1 : x ≤ 18446744073709551615) : bits .and .u64 x 2047 = x % 2048 := by
  obtain ⟨n, rfl⟩ : ∃ n : Nat, x = n := ⟨x.toNat, by omega⟩
  show IntKind.u64.wrap ((BitVec.ofInt 64 (n : Int) &&& BitVec.ofInt 64 2047).toNat : Int) = _
  have e1 : BitVec.ofInt 64 2047 = BitVec.ofNat 64 (2 ^ 11 - 1) := by decide
  rw [e1, BitVec.toNat_and, BitVec.toNat_ofInt, BitVec.toNat_ofNat]
  have e2 : ((n : Int) % ((2 ^ 64 : Nat) : Int)).toNat = n := by
    have : (n : Int) % ((2 ^ 64 : Nat) : Int) = n := by rw [show ((2 ^ 64 : Nat) : Int) = 18446744073709551616 by decide]; omega
    rw [this]; rfl
  rw [e2, Nat.mod_eq_of_lt (by decide : 2 ^ 11 - 1 < 2 ^ 64), Nat.and_two_pow_sub_one_eq_mod]
  simp [IntKind.wrap, IntKind.bits, IntKind.signed]
  omega

theorem wrap4096 (f : Int) : IntKind.u64.wrap (f * 4096) = f * 4096 % 18446744073709551616 := by simp [IntKind.wrap, IntKind.bits, IntKind.signed]

theorem refIsNaN_any (f : Int) (w : World) (h0 : 0 ≤ f) (h1 : f ≤ 18446744073709551615) : Calls Tryd.prog 46 #[.int .u64 f] w fun r w' => r = .returned (.bool (isNan f.toNat)) ∧ w' = w := by
  have e1 := and2047 (f / 4503599627370496) (by omega) (by omega)
  have e2 := wrap4096 f
  have e3 : isNan f.toNat = ((f / 4503599627370496 % 2048 == 2047) && (f * 4096 % 18446744073709551616 != 0)) := by
    unfold isNan
    rw [Bool.eq_iff_iff]
    simp
    omega
  have E1 : Hid _ := e1
  have E2 : Hid _ := e2
  clear e1 e2
  rw [e3]
  clear e3
  go_enter Tryd.func46, Tryd.ntmps46
  go_wp2
  · have hq : bits BinOp.and IntKind.u64 (f / 4503599627370496) 2047 = 2047 := by assumption
    rw [E1.out] at hq
    go_ret
    rw [hq, E2.out]
    exact ⟨rfl, rfl⟩
  · have hq : ¬ bits BinOp.and IntKind.u64 (f / 4503599627370496) 2047 = 2047 := by assumption
    rw [E1.out] at hq
    have hb : (f / 4503599627370496 % 2048 == 2047) = false := by simpa using hq
    go_ret
    rw [hb]
    exact ⟨rfl, rfl⟩

/-- May an object's number be so? -/
def objB (n : Int) : Bool := decide (0 ≤ n) && decide (n ≤ 2147483647)
set_option maxHeartbeats 1000000 in
theorem rightObject_any (n : Int) (w : World) : Calls Tryd.prog 58 #[.int .i64 n] w fun r w' => r = .returned (.bool (objB n)) ∧ w' = w := by
  unfold objB
  go_enter Tryd.func58, Tryd.ntmps58
  go_wp2
  all_goals (go_ret; refine ⟨?_, rfl⟩; simp_all)
  all_goals omega

/-- May a list's ref be so? -/
def pieceB (r0 r1 r2 r3 : Int) : Bool := if r0 = 0 then r1 == 0 && r2 == 0 && r3 == 0 else objB r0 && decide (0 ≤ r1) && decide (0 ≤ r2) && decide (r2 ≤ r3) && decide (r3 ≤ 1048576) && decide (r1 ≤ 1048576 - r3)
set_option maxHeartbeats 4000000 in
theorem rightPiece_any (r0 r1 r2 r3 : Int) (p : Option Addr) (m c : Nat) (w : World) (h0 : -9223372036854775808 ≤ r3) (h1 : r3 ≤ 9223372036854775807) :
    Calls Tryd.prog 57 #[.agg #[.int .i64 r0, .int .i64 r1, .int .i64 r2, .int .i64 r3, .slice p m c]] w fun r w' => r = .returned (.bool (pieceB r0 r1 r2 r3)) ∧ Below w.heap.size w w' := by
  by_cases hr : r0 = 0
  · unfold pieceB
    rw [if_pos hr]
    subst hr
    go_enter Tryd.func57, Tryd.ntmps57
    go_wp2
    all_goals (go_ret; refine ⟨?_, below1 _ _⟩; simp_all)
  · have e : pieceB r0 r1 r2 r3 = (objB r0 && decide (0 ≤ r1) && decide (0 ≤ r2) && decide (r2 ≤ r3) && decide (r3 ≤ 1048576) && decide (r1 ≤ 1048576 - r3)) := by unfold pieceB; rw [if_neg hr]
    rw [e]
    clear e
    obtain ⟨x, hx⟩ : ∃ x, x = objB r0 := ⟨_, rfl⟩
    have HO : Hid (∀ W, Calls Tryd.prog 58 #[.int .i64 r0] W fun r w' => r = .returned (.bool x) ∧ w' = W) := fun W => by rw [hx]; exact rightObject_any r0 W
    rw [← hx]
    clear hx
    cases x with
    | false =>
      go_enter Tryd.func57, Tryd.ntmps57
      go_wp2_with (go_at_call 58; refine (HO.out _).mono ?_; rintro r w' ⟨rfl, rfl⟩)
      all_goals (go_ret; refine ⟨?_, below1 _ _⟩; simp)
    | true =>
      go_enter Tryd.func57, Tryd.ntmps57
      go_wp2_with (go_at_call 58; refine (HO.out _).mono ?_; rintro r w' ⟨rfl, rfl⟩)
      all_goals (go_ret; refine ⟨?_, below1 _ _⟩; simp_all)
      all_goals omega

/-- May a pointer's ref be so? -/
def targetB (r0 : Int) (path : List Int) : Bool := objB r0 && decide (path.length ≤ 100) && !(r0 == 0 && decide (0 < path.length)) && path.all (fun z => decide (0 ≤ z) && decide (z < 30))
end Go.Proofs.YtnhbpcmiolkllaaDoor
namespace Go.Proofs.YtnhbpcmiolkllaaDoor
open Go.RowKit
attribute [local go_sem] refold2 cell3_0 cell3_1 b28_0 b28_01

set_option maxHeartbeats 1000000 in
theorem ownOf_bool (t : ByteArray) (a f : Int) (s : ByteArray) (r0 r1 r2 r3 : Int) (p : Value) (ip : Option Addr) (il ic : Nat) (w : World) :
    Calls Tryd.prog 54 #[D 1 t a f s r0 r1 r2 r3 p (.slice ip il ic)] w fun r w' => r = .returned (dat 1 t a 0 ⟨#[]⟩) ∧ Below w.heap.size w w' := by
  simp only [dat, D]
  go_enter Tryd.func54, Tryd.ntmps54
  go_wp2
  refine bodyPost_ret (v := dat 1 t a 0 ⟨#[]⟩) (by simp [results, Tryd.results54, go_sem, dat, D]) rfl ⟨rfl, ?_⟩
  exact below3 _ _ _ _

set_option maxHeartbeats 1000000 in
theorem ownOf_float (t : ByteArray) (a f : Int) (s : ByteArray) (r0 r1 r2 r3 : Int) (p : Value) (ip : Option Addr) (il ic : Nat) (w : World) :
    Calls Tryd.prog 54 #[D 3 t a f s r0 r1 r2 r3 p (.slice ip il ic)] w fun r w' => r = .returned (dat 3 t 0 f ⟨#[]⟩) ∧ Below w.heap.size w w' := by
  simp only [dat, D]
  go_enter Tryd.func54, Tryd.ntmps54
  go_wp2
  refine bodyPost_ret (v := dat 3 t 0 f ⟨#[]⟩) (by simp [results, Tryd.results54, go_sem, dat, D]) rfl ⟨rfl, ?_⟩
  exact below3 _ _ _ _

set_option maxHeartbeats 1000000 in
theorem ownOf_text (t : ByteArray) (a f : Int) (s : ByteArray) (r0 r1 r2 r3 : Int) (p : Value) (ip : Option Addr) (il ic : Nat) (w : World) :
    Calls Tryd.prog 54 #[D 4 t a f s r0 r1 r2 r3 p (.slice ip il ic)] w fun r w' => r = .returned (dat 4 t 0 0 s) ∧ Below w.heap.size w w' := by
  simp only [dat, D]
  go_enter Tryd.func54, Tryd.ntmps54
  go_wp2
  refine bodyPost_ret (v := dat 4 t 0 0 s) (by simp [results, Tryd.results54, go_sem, dat, D]) rfl ⟨rfl, ?_⟩
  exact below3 _ _ _ _

set_option maxHeartbeats 1000000 in
theorem ownOf_struct (t : ByteArray) (a f : Int) (s : ByteArray) (r0 r1 r2 r3 : Int) (p : Value) (ip : Option Addr) (il ic : Nat) (w : World) :
    Calls Tryd.prog 54 #[D 8 t a f s r0 r1 r2 r3 p (.slice ip il ic)] w fun r w' => r = .returned (D 8 t 0 0 ⟨#[]⟩ 0 0 0 0 (.slice none 0 0) (.slice ip il ic)) ∧ Below w.heap.size w w' := by
  simp only [D]
  go_enter Tryd.func54, Tryd.ntmps54
  go_wp2
  refine bodyPost_ret (v := D 8 t 0 0 ⟨#[]⟩ 0 0 0 0 (.slice none 0 0) (.slice ip il ic)) (by simp [results, Tryd.results54, go_sem, D]) rfl ⟨rfl, ?_⟩
  exact below3 _ _ _ _

/-- Two heads, field by field. -/
def headB (n f : Int) (s : ByteArray) (r0 r1 r2 r3 : Int) (m i : Nat) (n' f' : Int) (s' : ByteArray) (r0' r1' r2' r3' : Int) (m' i' : Nat) : Bool :=
  n == n' && f == f' && s.toList == s'.toList && r0 == r0' && r1 == r1' && r2 == r2' && r3 == r3' && (m : Int) == m' && (i : Int) == i'

set_option maxRecDepth 100000 in
set_option maxHeartbeats 2000000 in
theorem head_neq (k : Int) (t : ByteArray) (n f : Int) (s : ByteArray) (r0 r1 r2 r3 : Int) (m i : Nat) (n' f' : Int) (s' : ByteArray) (r0' r1' r2' r3' : Int) (m' i' : Nat) (w : World) :
    (binOp .neq 109 (.agg #[.int .i64 k, .string t, .int .i64 n, .int .u64 f, .string s, .int .i64 r0, .int .i64 r1, .int .i64 r2, .int .i64 r3, .int .i64 m, .int .i64 i]) (.agg #[.int .i64 k, .string t, .int .i64 n', .int .u64 f', .string s', .int .i64 r0', .int .i64 r1', .int .i64 r2', .int .i64 r3', .int .i64 m', .int .i64 i'])).run Tryd.prog w
      = .ok (.bool (!headB n f s r0 r1 r2 r3 m i n' f' s' r0' r1' r2' r3' m' i')) w := by
  unfold headB
  by_cases h1 : n = n'
  · by_cases h2 : f = f'
    · by_cases h3 : s.toList = s'.toList
      · by_cases h4 : r0 = r0'
        · by_cases h5 : r1 = r1'
          · by_cases h6 : r2 = r2'
            · by_cases h7 : r3 = r3'
              · by_cases h8 : (m : Int) = m'
                · by_cases h9 : (i : Int) = i'
                  · simp [go_sem, h1, h2, h3, h4, h5, h6, h7, h8, h9]
                  · simp [go_sem, h1, h2, h3, h4, h5, h6, h7, h8, h9]
                · simp [go_sem, h1, h2, h3, h4, h5, h6, h7, h8]
              · simp [go_sem, h1, h2, h3, h4, h5, h6, h7]
            · simp [go_sem, h1, h2, h3, h4, h5, h6]
          · simp [go_sem, h1, h2, h3, h4, h5]
        · simp [go_sem, h1, h2, h3, h4]
      · simp [go_sem, h1, h2, h3]
    · simp [go_sem, h1, h2]
  · simp [go_sem, h1]
end Go.Proofs.YtnhbpcmiolkllaaDoor
