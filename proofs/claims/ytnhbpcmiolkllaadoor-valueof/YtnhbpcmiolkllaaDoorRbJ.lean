/-
  value's copy of any right datum.
  Of, of data without Items.
  The document's small questions of a datum: none, plain, typed, leads.
-/
import Derived.Test.YtnhbpcmiolkllaaDoorKb2
import Derived.Test.YtnhbpcmiolkllaaDoorHJ
import Derived.Test.YtnhbpcmiolkllaaDoorI
import Derived.Test.YtnhbpcmiolkllaaDoorRa
namespace Go.Proofs.YtnhbpcmiolkllaaDoor
open Go.RowKit

def VCopyC (n : Nat) : Prop := ∀ (d : MD) (w : World), MD.In w.heap.size w n d → MD.full n d = true → Calls Tryd.prog 35 #[d.val] w (CopyP n d w)
theorem copiedV_any (n : Nat) : VCopyC n := fun d w hin hf => (copiedG_any n d w hin hf).mono fun _ _ ⟨d', e, h1, h2, h3, h4, _⟩ => ⟨d', e, h1, h2, h3, h4⟩
end Go.Proofs.YtnhbpcmiolkllaaDoor
namespace Go.Proofs.YtnhbpcmiolkllaaDoor
open Go.RowKit
attribute [local go_sem] refold2 cell3_0 cell3_1 b28_0 b28_01
theorem taR2 (v : Value) (w : World) : (Instr.typeAssert (.iface 124 v) 34 73 true).run Tryd.prog w = .ok (.tuple #[.agg #[.pointer none], .bool false]) w := by kernel_rfl
theorem taR5 (v : Value) (w : World) : (Instr.typeAssert (.iface 129 v) 34 73 true).run Tryd.prog w = .ok (.tuple #[.agg #[.pointer none], .bool false]) w := by kernel_rfl
theorem taR6 (v : Value) (w : World) : (Instr.typeAssert (.iface 130 v) 34 73 true).run Tryd.prog w = .ok (.tuple #[.agg #[.pointer none], .bool false]) w := by kernel_rfl
theorem taR7 (v : Value) (w : World) : (Instr.typeAssert (.iface 131 v) 34 73 true).run Tryd.prog w = .ok (.tuple #[.agg #[.pointer none], .bool false]) w := by kernel_rfl
theorem taR9 (v : Value) (w : World) : (Instr.typeAssert (.iface 132 v) 34 73 true).run Tryd.prog w = .ok (.tuple #[.agg #[.pointer none], .bool false]) w := by kernel_rfl
attribute [local go_sem] taR2 taR5 taR6 taR7 taR9

set_option maxRecDepth 100000 in
set_option maxHeartbeats 2000000 in
theorem Of_int (t : ByteArray) (a : Int) (w : World) (hN : NamesAt w) (ht : t.size ≤ 140737488351232) (hr : (t.toList == [105, 110, 116] || declB t) = true) :
    Calls Tryd.prog 14 #[dat 2 t a 0 ⟨#[]⟩] w fun r w' => ∃ b, r = .returned (.tuple #[.iface 124 (.agg #[.pointer (some ⟨b, 0, none⟩)]), .nilIface]) ∧ w.heap.size ≤ b ∧ w'.heap[b]? = some (.cells #[.int .i64 2, .string t, .int .i64 a, .int .u64 0, .string ⟨#[]⟩, .int .i64 0, .int .i64 0, .int .i64 0, .int .i64 0, .slice none 0 0, .slice none 0 0] 28 (0, 0)) ∧ Below w.heap.size w w' := by
  have HR : Hid (∀ W, NamesAt W → Calls Tryd.prog 10 #[dat 2 t a 0 ⟨#[]⟩] W fun r w' => r = .returned (.bool true) ∧ Below W.heap.size W w') := fun W h => by rw [← hr]; exact Right_int t a W h
  have HC : Hid (∀ W, Calls Tryd.prog 35 #[dat 2 t a 0 ⟨#[]⟩] W fun r w' => r = .returned (dat 2 t a 0 ⟨#[]⟩) ∧ Below W.heap.size W w') := fun W => copied_flat 2 t a 0 ⟨#[]⟩ 0 0 0 0 W ht (by decide)
  clear hr ht
  simp only [dat, D] at HR HC ⊢
  go_enter Tryd.func14, Tryd.ntmps14
  go_wp2_with fail
  refine (HR.out _ (hN.kept (below1 _ _))).mono ?_
  rintro r w1 ⟨rfl, b1⟩
  have e1 : ∀ j, w1.cell? ⟨w.heap.size, j, none⟩ = (#[.int .i64 2, .string t, .int .i64 a, .int .u64 0, .string ⟨#[]⟩, .int .i64 0, .int .i64 0, .int .i64 0, .int .i64 0, .slice none 0 0, .slice none 0 0] : Array Value)[j]? := fun j => by rw [b1.cell (p := ⟨w.heap.size, j, none⟩) (by simp), World.cell?_alloc_new]
  have q1 : Below w.heap.size w w1 := (below1 _ _).trans (b1.mono (by simp))
  have z1 : w.heap.size < w1.heap.size := by have := b1.size; simp at this; omega
  go_wp2_with fail
  refine (HC.out _).mono ?_
  rintro r w2 ⟨rfl, b2⟩
  have q2 : Below w.heap.size w w2 := q1.trans (b2.mono q1.size)
  have z2 := b2.size
  clear e1
  go_wp2_with fail
  refine (behind_2 w2.heap.size _ (by rw [World.cell?_alloc_new]; rfl) (by simp)).mono ?_
  rintro r w3 ⟨rfl, b3⟩
  have q3 : Below w.heap.size w w3 := (q2.alloc q2.size _).trans (b3.mono (by simp; omega))
  have hr3 : Hid (w3.heap[w2.heap.size]? = some (.cells #[.int .i64 2, .string t, .int .i64 a, .int .u64 0, .string ⟨#[]⟩, .int .i64 0, .int .i64 0, .int .i64 0, .int .i64 0, .slice none 0 0, .slice none 0 0] 28 (0, 0))) := (b3.block w2.heap.size (by simp)).trans (heap_alloc_new _ _)
  go_wp2_with fail
  refine bodyPost_ret (v := .tuple #[.iface 124 (.agg #[.pointer (some ⟨w2.heap.size, 0, none⟩)]), .nilIface]) (by simp [results, Tryd.results14, go_sem]) rfl ⟨_, rfl, q2.size, (Below.heap_alloc _ _ _ (row_ltT hr3.out)).trans hr3.out, q3.alloc q3.size _⟩

theorem taRn (w : World) : (Instr.typeAssert .nilIface 34 73 true).run Tryd.prog w = .ok (.tuple #[.agg #[.pointer none], .bool false]) w := by kernel_rfl
attribute [local go_sem] taRn
end Go.Proofs.YtnhbpcmiolkllaaDoor
namespace Go.Proofs.YtnhbpcmiolkllaaDoor
open Go.RowKit
attribute [local go_sem] refold2 cell3_0 cell3_1 b28_0 b28_01

theorem kept1 {w W : World} {c : Array Value} {t : TypeId} (b : Below (w.alloc (.cells c t)).heap.size (w.alloc (.cells c t)) W) : Below w.heap.size w W ∧ ∀ j, W.cell? ⟨w.heap.size, j, none⟩ = c[j]? :=
  ⟨(below1 w _).trans (b.mono (by simp)), fun j => by rw [b.cell (p := ⟨w.heap.size, j, none⟩) (by simp)]; exact row_at (heap_alloc_new _ _) j⟩
/-- A ref of noughts? -/
def noneB (r0 r1 r2 r3 : Int) (m : Nat) : Bool := r0 == 0 && r1 == 0 && r2 == 0 && r3 == 0 && (m : Int) == 0
set_option maxHeartbeats 1000000 in
theorem refNone_any (r0 r1 r2 r3 : Int) (p : Option Addr) (m c : Nat) (w : World) :
    Calls Tryd.prog 73 #[.agg #[.int .i64 r0, .int .i64 r1, .int .i64 r2, .int .i64 r3, .slice p m c]] w fun r w' => r = .returned (.bool (noneB r0 r1 r2 r3 m)) ∧ Below w.heap.size w w' := by
  unfold noneB
  go_enter Tryd.func73, Tryd.ntmps73
  go_wp2
  all_goals (go_ret; refine ⟨?_, below1 _ _⟩; simp_all)

/-- Is all zero that only other kinds have? -/
def plainB (bn bf bs br bi : Bool) (n f : Int) (s : ByteArray) (r0 r1 r2 r3 : Int) (m i : Nat) : Bool := (bn || n == 0) && (bf || f == 0) && (bs || s.toList == []) && (br || noneB r0 r1 r2 r3 m) && (bi || (i : Int) == 0)

set_option maxRecDepth 100000 in
set_option maxHeartbeats 4000000 in
theorem refPlain_nil (k : Int) (t : ByteArray) (n f : Int) (s : ByteArray) (r0 r1 r2 r3 : Int) (pp : Option Addr) (m c : Nat) (ip : Option Addr) (il ic : Nat) (w : World) :
    Calls Tryd.prog 61 #[D k t n f s r0 r1 r2 r3 (.slice pp m c) (.slice ip il ic), .bool false, .bool false, .bool false, .bool false, .bool false] w fun r w' => r = .returned (.bool (plainB false false false false false n f s r0 r1 r2 r3 m il)) ∧ Below w.heap.size w w' := by
  unfold plainB
  have HN : Hid (∀ W, Calls Tryd.prog 73 #[.agg #[.int .i64 r0, .int .i64 r1, .int .i64 r2, .int .i64 r3, .slice pp m c]] W fun r w' => r = .returned (.bool (noneB r0 r1 r2 r3 m)) ∧ Below W.heap.size W w') := fun W => refNone_any r0 r1 r2 r3 pp m c W
  generalize noneB r0 r1 r2 r3 m = nb at HN ⊢
  simp only [D]
  cases nb
  all_goals go_enter Tryd.func61, Tryd.ntmps61
  all_goals go_wp2_with (go_at_call 73; refine (HN.out _).mono ?_; rintro r w2 ⟨rfl, b2⟩; have hb2 := (kept1 b2).1; have hc2 := (kept1 b2).2; clear b2)
  all_goals (go_ret; refine ⟨?_, by first | exact below1 _ _ | assumption⟩; simp_all)

set_option maxRecDepth 100000 in
set_option maxHeartbeats 4000000 in
theorem refPlain_n (k : Int) (t : ByteArray) (n f : Int) (s : ByteArray) (r0 r1 r2 r3 : Int) (pp : Option Addr) (m c : Nat) (ip : Option Addr) (il ic : Nat) (w : World) :
    Calls Tryd.prog 61 #[D k t n f s r0 r1 r2 r3 (.slice pp m c) (.slice ip il ic), .bool true, .bool false, .bool false, .bool false, .bool false] w fun r w' => r = .returned (.bool (plainB true false false false false n f s r0 r1 r2 r3 m il)) ∧ Below w.heap.size w w' := by
  unfold plainB
  have HN : Hid (∀ W, Calls Tryd.prog 73 #[.agg #[.int .i64 r0, .int .i64 r1, .int .i64 r2, .int .i64 r3, .slice pp m c]] W fun r w' => r = .returned (.bool (noneB r0 r1 r2 r3 m)) ∧ Below W.heap.size W w') := fun W => refNone_any r0 r1 r2 r3 pp m c W
  generalize noneB r0 r1 r2 r3 m = nb at HN ⊢
  simp only [D]
  cases nb
  all_goals go_enter Tryd.func61, Tryd.ntmps61
  all_goals go_wp2_with (go_at_call 73; refine (HN.out _).mono ?_; rintro r w2 ⟨rfl, b2⟩; have hb2 := (kept1 b2).1; have hc2 := (kept1 b2).2; clear b2)
  all_goals (go_ret; refine ⟨?_, by first | exact below1 _ _ | assumption⟩; simp_all)

set_option maxRecDepth 100000 in
set_option maxHeartbeats 4000000 in
theorem refPlain_f (k : Int) (t : ByteArray) (n f : Int) (s : ByteArray) (r0 r1 r2 r3 : Int) (pp : Option Addr) (m c : Nat) (ip : Option Addr) (il ic : Nat) (w : World) :
    Calls Tryd.prog 61 #[D k t n f s r0 r1 r2 r3 (.slice pp m c) (.slice ip il ic), .bool false, .bool true, .bool false, .bool false, .bool false] w fun r w' => r = .returned (.bool (plainB false true false false false n f s r0 r1 r2 r3 m il)) ∧ Below w.heap.size w w' := by
  unfold plainB
  have HN : Hid (∀ W, Calls Tryd.prog 73 #[.agg #[.int .i64 r0, .int .i64 r1, .int .i64 r2, .int .i64 r3, .slice pp m c]] W fun r w' => r = .returned (.bool (noneB r0 r1 r2 r3 m)) ∧ Below W.heap.size W w') := fun W => refNone_any r0 r1 r2 r3 pp m c W
  generalize noneB r0 r1 r2 r3 m = nb at HN ⊢
  simp only [D]
  cases nb
  all_goals go_enter Tryd.func61, Tryd.ntmps61
  all_goals go_wp2_with (go_at_call 73; refine (HN.out _).mono ?_; rintro r w2 ⟨rfl, b2⟩; have hb2 := (kept1 b2).1; have hc2 := (kept1 b2).2; clear b2)
  all_goals (go_ret; refine ⟨?_, by first | exact below1 _ _ | assumption⟩; simp_all)

set_option maxRecDepth 100000 in
set_option maxHeartbeats 4000000 in
theorem refPlain_s (k : Int) (t : ByteArray) (n f : Int) (s : ByteArray) (r0 r1 r2 r3 : Int) (pp : Option Addr) (m c : Nat) (ip : Option Addr) (il ic : Nat) (w : World) :
    Calls Tryd.prog 61 #[D k t n f s r0 r1 r2 r3 (.slice pp m c) (.slice ip il ic), .bool false, .bool false, .bool true, .bool false, .bool false] w fun r w' => r = .returned (.bool (plainB false false true false false n f s r0 r1 r2 r3 m il)) ∧ Below w.heap.size w w' := by
  unfold plainB
  have HN : Hid (∀ W, Calls Tryd.prog 73 #[.agg #[.int .i64 r0, .int .i64 r1, .int .i64 r2, .int .i64 r3, .slice pp m c]] W fun r w' => r = .returned (.bool (noneB r0 r1 r2 r3 m)) ∧ Below W.heap.size W w') := fun W => refNone_any r0 r1 r2 r3 pp m c W
  generalize noneB r0 r1 r2 r3 m = nb at HN ⊢
  simp only [D]
  cases nb
  all_goals go_enter Tryd.func61, Tryd.ntmps61
  all_goals go_wp2_with (go_at_call 73; refine (HN.out _).mono ?_; rintro r w2 ⟨rfl, b2⟩; have hb2 := (kept1 b2).1; have hc2 := (kept1 b2).2; clear b2)
  all_goals (go_ret; refine ⟨?_, by first | exact below1 _ _ | assumption⟩; simp_all)

set_option maxRecDepth 100000 in
set_option maxHeartbeats 4000000 in
theorem refPlain_r (k : Int) (t : ByteArray) (n f : Int) (s : ByteArray) (r0 r1 r2 r3 : Int) (pp : Option Addr) (m c : Nat) (ip : Option Addr) (il ic : Nat) (w : World) :
    Calls Tryd.prog 61 #[D k t n f s r0 r1 r2 r3 (.slice pp m c) (.slice ip il ic), .bool false, .bool false, .bool false, .bool true, .bool false] w fun r w' => r = .returned (.bool (plainB false false false true false n f s r0 r1 r2 r3 m il)) ∧ Below w.heap.size w w' := by
  unfold plainB
  have HN : Hid (∀ W, Calls Tryd.prog 73 #[.agg #[.int .i64 r0, .int .i64 r1, .int .i64 r2, .int .i64 r3, .slice pp m c]] W fun r w' => r = .returned (.bool (noneB r0 r1 r2 r3 m)) ∧ Below W.heap.size W w') := fun W => refNone_any r0 r1 r2 r3 pp m c W
  generalize noneB r0 r1 r2 r3 m = nb at HN ⊢
  simp only [D]
  cases nb
  all_goals go_enter Tryd.func61, Tryd.ntmps61
  all_goals go_wp2_with (go_at_call 73; refine (HN.out _).mono ?_; rintro r w2 ⟨rfl, b2⟩; have hb2 := (kept1 b2).1; have hc2 := (kept1 b2).2; clear b2)
  all_goals (go_ret; refine ⟨?_, by first | exact below1 _ _ | assumption⟩; simp_all)

set_option maxRecDepth 100000 in
set_option maxHeartbeats 4000000 in
theorem refPlain_i (k : Int) (t : ByteArray) (n f : Int) (s : ByteArray) (r0 r1 r2 r3 : Int) (pp : Option Addr) (m c : Nat) (ip : Option Addr) (il ic : Nat) (w : World) :
    Calls Tryd.prog 61 #[D k t n f s r0 r1 r2 r3 (.slice pp m c) (.slice ip il ic), .bool false, .bool false, .bool false, .bool false, .bool true] w fun r w' => r = .returned (.bool (plainB false false false false true n f s r0 r1 r2 r3 m il)) ∧ Below w.heap.size w w' := by
  unfold plainB
  have HN : Hid (∀ W, Calls Tryd.prog 73 #[.agg #[.int .i64 r0, .int .i64 r1, .int .i64 r2, .int .i64 r3, .slice pp m c]] W fun r w' => r = .returned (.bool (noneB r0 r1 r2 r3 m)) ∧ Below W.heap.size W w') := fun W => refNone_any r0 r1 r2 r3 pp m c W
  generalize noneB r0 r1 r2 r3 m = nb at HN ⊢
  simp only [D]
  cases nb
  all_goals go_enter Tryd.func61, Tryd.ntmps61
  all_goals go_wp2_with (go_at_call 73; refine (HN.out _).mono ?_; rintro r w2 ⟨rfl, b2⟩; have hb2 := (kept1 b2).1; have hc2 := (kept1 b2).2; clear b2)
  all_goals (go_ret; refine ⟨?_, by first | exact below1 _ _ | assumption⟩; simp_all)

set_option maxRecDepth 100000 in
set_option maxHeartbeats 1000000 in
theorem refTyped_1 (t : ByteArray) (w : World) : Calls Tryd.prog 62 #[.int .i64 1, .string t] w fun r w' => r = .returned (.bool (tyB 1 t)) ∧ Below w.heap.size w w' := by
  have e : tyB 1 t = (declB t || t.toList == [98, 111, 111, 108]) := by rw [Bool.or_comm]; rfl
  rw [e]
  have HD : Hid (∀ W, Calls Tryd.prog 65 #[.string t] W fun r w' => r = .returned (.bool (declB t)) ∧ Below W.heap.size W w') := fun W => refDeclared_any t W
  generalize declB t = nb at HD ⊢
  have HK : Hid (∀ W, Below (w.alloc (.cells #[.string ⟨#[98, 111, 111, 108]⟩, .string ⟨#[105, 110, 116]⟩, .string ⟨#[102, 108, 111, 97, 116]⟩, .string ⟨#[116, 101, 120, 116]⟩, .string ⟨#[108, 105, 115, 116]⟩, .string ⟨#[109, 97, 112]⟩, .string ⟨#[102, 117, 110, 99]⟩] 9)).heap.size (w.alloc (.cells #[.string ⟨#[98, 111, 111, 108]⟩, .string ⟨#[105, 110, 116]⟩, .string ⟨#[102, 108, 111, 97, 116]⟩, .string ⟨#[116, 101, 120, 116]⟩, .string ⟨#[108, 105, 115, 116]⟩, .string ⟨#[109, 97, 112]⟩, .string ⟨#[102, 117, 110, 99]⟩] 9)) W → Below w.heap.size w W ∧ W.cell? ⟨w.heap.size, 0, none⟩ = some (.string ⟨#[98, 111, 111, 108]⟩)) := fun W hW =>
    ⟨(below1 w _).trans (hW.mono (by simp)), by rw [hW.cell (p := ⟨w.heap.size, 0, none⟩) (by simp)]; exact row_at (heap_alloc_new _ _) 0⟩
  clear e
  cases nb
  all_goals go_enter Tryd.func62, Tryd.ntmps62
  all_goals go_wp2_with (first | (go_at_call 74; refine (refOwn_any _).mono ?_; rintro r w' ⟨rfl, rfl⟩) | (go_at_call 65; refine (HD.out _).mono ?_; rintro r w2 ⟨rfl, b2⟩; have hb2 := (HK.out _ b2).1; have hc2 := (HK.out _ b2).2; clear b2))
  all_goals (go_ret; refine ⟨?_, by assumption⟩; simp_all)

set_option maxRecDepth 100000 in
set_option maxHeartbeats 1000000 in
theorem refTyped_2 (t : ByteArray) (w : World) : Calls Tryd.prog 62 #[.int .i64 2, .string t] w fun r w' => r = .returned (.bool (tyB 2 t)) ∧ Below w.heap.size w w' := by
  have e : tyB 2 t = (declB t || t.toList == [105, 110, 116]) := by rw [Bool.or_comm]; rfl
  rw [e]
  have HD : Hid (∀ W, Calls Tryd.prog 65 #[.string t] W fun r w' => r = .returned (.bool (declB t)) ∧ Below W.heap.size W w') := fun W => refDeclared_any t W
  generalize declB t = nb at HD ⊢
  have HK : Hid (∀ W, Below (w.alloc (.cells #[.string ⟨#[98, 111, 111, 108]⟩, .string ⟨#[105, 110, 116]⟩, .string ⟨#[102, 108, 111, 97, 116]⟩, .string ⟨#[116, 101, 120, 116]⟩, .string ⟨#[108, 105, 115, 116]⟩, .string ⟨#[109, 97, 112]⟩, .string ⟨#[102, 117, 110, 99]⟩] 9)).heap.size (w.alloc (.cells #[.string ⟨#[98, 111, 111, 108]⟩, .string ⟨#[105, 110, 116]⟩, .string ⟨#[102, 108, 111, 97, 116]⟩, .string ⟨#[116, 101, 120, 116]⟩, .string ⟨#[108, 105, 115, 116]⟩, .string ⟨#[109, 97, 112]⟩, .string ⟨#[102, 117, 110, 99]⟩] 9)) W → Below w.heap.size w W ∧ W.cell? ⟨w.heap.size, 1, none⟩ = some (.string ⟨#[105, 110, 116]⟩)) := fun W hW =>
    ⟨(below1 w _).trans (hW.mono (by simp)), by rw [hW.cell (p := ⟨w.heap.size, 1, none⟩) (by simp)]; exact row_at (heap_alloc_new _ _) 1⟩
  clear e
  cases nb
  all_goals go_enter Tryd.func62, Tryd.ntmps62
  all_goals go_wp2_with (first | (go_at_call 74; refine (refOwn_any _).mono ?_; rintro r w' ⟨rfl, rfl⟩) | (go_at_call 65; refine (HD.out _).mono ?_; rintro r w2 ⟨rfl, b2⟩; have hb2 := (HK.out _ b2).1; have hc2 := (HK.out _ b2).2; clear b2))
  all_goals (go_ret; refine ⟨?_, by assumption⟩; simp_all)

set_option maxRecDepth 100000 in
set_option maxHeartbeats 1000000 in
theorem refTyped_3 (t : ByteArray) (w : World) : Calls Tryd.prog 62 #[.int .i64 3, .string t] w fun r w' => r = .returned (.bool (tyB 3 t)) ∧ Below w.heap.size w w' := by
  have e : tyB 3 t = (declB t || t.toList == [102, 108, 111, 97, 116]) := by rw [Bool.or_comm]; rfl
  rw [e]
  have HD : Hid (∀ W, Calls Tryd.prog 65 #[.string t] W fun r w' => r = .returned (.bool (declB t)) ∧ Below W.heap.size W w') := fun W => refDeclared_any t W
  generalize declB t = nb at HD ⊢
  have HK : Hid (∀ W, Below (w.alloc (.cells #[.string ⟨#[98, 111, 111, 108]⟩, .string ⟨#[105, 110, 116]⟩, .string ⟨#[102, 108, 111, 97, 116]⟩, .string ⟨#[116, 101, 120, 116]⟩, .string ⟨#[108, 105, 115, 116]⟩, .string ⟨#[109, 97, 112]⟩, .string ⟨#[102, 117, 110, 99]⟩] 9)).heap.size (w.alloc (.cells #[.string ⟨#[98, 111, 111, 108]⟩, .string ⟨#[105, 110, 116]⟩, .string ⟨#[102, 108, 111, 97, 116]⟩, .string ⟨#[116, 101, 120, 116]⟩, .string ⟨#[108, 105, 115, 116]⟩, .string ⟨#[109, 97, 112]⟩, .string ⟨#[102, 117, 110, 99]⟩] 9)) W → Below w.heap.size w W ∧ W.cell? ⟨w.heap.size, 2, none⟩ = some (.string ⟨#[102, 108, 111, 97, 116]⟩)) := fun W hW =>
    ⟨(below1 w _).trans (hW.mono (by simp)), by rw [hW.cell (p := ⟨w.heap.size, 2, none⟩) (by simp)]; exact row_at (heap_alloc_new _ _) 2⟩
  clear e
  cases nb
  all_goals go_enter Tryd.func62, Tryd.ntmps62
  all_goals go_wp2_with (first | (go_at_call 74; refine (refOwn_any _).mono ?_; rintro r w' ⟨rfl, rfl⟩) | (go_at_call 65; refine (HD.out _).mono ?_; rintro r w2 ⟨rfl, b2⟩; have hb2 := (HK.out _ b2).1; have hc2 := (HK.out _ b2).2; clear b2))
  all_goals (go_ret; refine ⟨?_, by assumption⟩; simp_all)

set_option maxRecDepth 100000 in
set_option maxHeartbeats 1000000 in
theorem refTyped_4 (t : ByteArray) (w : World) : Calls Tryd.prog 62 #[.int .i64 4, .string t] w fun r w' => r = .returned (.bool (tyB 4 t)) ∧ Below w.heap.size w w' := by
  have e : tyB 4 t = (declB t || t.toList == [116, 101, 120, 116]) := by rw [Bool.or_comm]; rfl
  rw [e]
  have HD : Hid (∀ W, Calls Tryd.prog 65 #[.string t] W fun r w' => r = .returned (.bool (declB t)) ∧ Below W.heap.size W w') := fun W => refDeclared_any t W
  generalize declB t = nb at HD ⊢
  have HK : Hid (∀ W, Below (w.alloc (.cells #[.string ⟨#[98, 111, 111, 108]⟩, .string ⟨#[105, 110, 116]⟩, .string ⟨#[102, 108, 111, 97, 116]⟩, .string ⟨#[116, 101, 120, 116]⟩, .string ⟨#[108, 105, 115, 116]⟩, .string ⟨#[109, 97, 112]⟩, .string ⟨#[102, 117, 110, 99]⟩] 9)).heap.size (w.alloc (.cells #[.string ⟨#[98, 111, 111, 108]⟩, .string ⟨#[105, 110, 116]⟩, .string ⟨#[102, 108, 111, 97, 116]⟩, .string ⟨#[116, 101, 120, 116]⟩, .string ⟨#[108, 105, 115, 116]⟩, .string ⟨#[109, 97, 112]⟩, .string ⟨#[102, 117, 110, 99]⟩] 9)) W → Below w.heap.size w W ∧ W.cell? ⟨w.heap.size, 3, none⟩ = some (.string ⟨#[116, 101, 120, 116]⟩)) := fun W hW =>
    ⟨(below1 w _).trans (hW.mono (by simp)), by rw [hW.cell (p := ⟨w.heap.size, 3, none⟩) (by simp)]; exact row_at (heap_alloc_new _ _) 3⟩
  clear e
  cases nb
  all_goals go_enter Tryd.func62, Tryd.ntmps62
  all_goals go_wp2_with (first | (go_at_call 74; refine (refOwn_any _).mono ?_; rintro r w' ⟨rfl, rfl⟩) | (go_at_call 65; refine (HD.out _).mono ?_; rintro r w2 ⟨rfl, b2⟩; have hb2 := (HK.out _ b2).1; have hc2 := (HK.out _ b2).2; clear b2))
  all_goals (go_ret; refine ⟨?_, by assumption⟩; simp_all)

set_option maxRecDepth 100000 in
set_option maxHeartbeats 1000000 in
theorem refTyped_5 (t : ByteArray) (w : World) : Calls Tryd.prog 62 #[.int .i64 5, .string t] w fun r w' => r = .returned (.bool (tyB 5 t)) ∧ Below w.heap.size w w' := by
  have e : tyB 5 t = (declB t || t.toList == [108, 105, 115, 116]) := by rw [Bool.or_comm]; rfl
  rw [e]
  have HD : Hid (∀ W, Calls Tryd.prog 65 #[.string t] W fun r w' => r = .returned (.bool (declB t)) ∧ Below W.heap.size W w') := fun W => refDeclared_any t W
  generalize declB t = nb at HD ⊢
  have HK : Hid (∀ W, Below (w.alloc (.cells #[.string ⟨#[98, 111, 111, 108]⟩, .string ⟨#[105, 110, 116]⟩, .string ⟨#[102, 108, 111, 97, 116]⟩, .string ⟨#[116, 101, 120, 116]⟩, .string ⟨#[108, 105, 115, 116]⟩, .string ⟨#[109, 97, 112]⟩, .string ⟨#[102, 117, 110, 99]⟩] 9)).heap.size (w.alloc (.cells #[.string ⟨#[98, 111, 111, 108]⟩, .string ⟨#[105, 110, 116]⟩, .string ⟨#[102, 108, 111, 97, 116]⟩, .string ⟨#[116, 101, 120, 116]⟩, .string ⟨#[108, 105, 115, 116]⟩, .string ⟨#[109, 97, 112]⟩, .string ⟨#[102, 117, 110, 99]⟩] 9)) W → Below w.heap.size w W ∧ W.cell? ⟨w.heap.size, 4, none⟩ = some (.string ⟨#[108, 105, 115, 116]⟩)) := fun W hW =>
    ⟨(below1 w _).trans (hW.mono (by simp)), by rw [hW.cell (p := ⟨w.heap.size, 4, none⟩) (by simp)]; exact row_at (heap_alloc_new _ _) 4⟩
  clear e
  cases nb
  all_goals go_enter Tryd.func62, Tryd.ntmps62
  all_goals go_wp2_with (first | (go_at_call 74; refine (refOwn_any _).mono ?_; rintro r w' ⟨rfl, rfl⟩) | (go_at_call 65; refine (HD.out _).mono ?_; rintro r w2 ⟨rfl, b2⟩; have hb2 := (HK.out _ b2).1; have hc2 := (HK.out _ b2).2; clear b2))
  all_goals (go_ret; refine ⟨?_, by assumption⟩; simp_all)

set_option maxRecDepth 100000 in
set_option maxHeartbeats 1000000 in
theorem refTyped_6 (t : ByteArray) (w : World) : Calls Tryd.prog 62 #[.int .i64 6, .string t] w fun r w' => r = .returned (.bool (tyB 6 t)) ∧ Below w.heap.size w w' := by
  have e : tyB 6 t = (declB t || t.toList == [109, 97, 112]) := by rw [Bool.or_comm]; rfl
  rw [e]
  have HD : Hid (∀ W, Calls Tryd.prog 65 #[.string t] W fun r w' => r = .returned (.bool (declB t)) ∧ Below W.heap.size W w') := fun W => refDeclared_any t W
  generalize declB t = nb at HD ⊢
  have HK : Hid (∀ W, Below (w.alloc (.cells #[.string ⟨#[98, 111, 111, 108]⟩, .string ⟨#[105, 110, 116]⟩, .string ⟨#[102, 108, 111, 97, 116]⟩, .string ⟨#[116, 101, 120, 116]⟩, .string ⟨#[108, 105, 115, 116]⟩, .string ⟨#[109, 97, 112]⟩, .string ⟨#[102, 117, 110, 99]⟩] 9)).heap.size (w.alloc (.cells #[.string ⟨#[98, 111, 111, 108]⟩, .string ⟨#[105, 110, 116]⟩, .string ⟨#[102, 108, 111, 97, 116]⟩, .string ⟨#[116, 101, 120, 116]⟩, .string ⟨#[108, 105, 115, 116]⟩, .string ⟨#[109, 97, 112]⟩, .string ⟨#[102, 117, 110, 99]⟩] 9)) W → Below w.heap.size w W ∧ W.cell? ⟨w.heap.size, 5, none⟩ = some (.string ⟨#[109, 97, 112]⟩)) := fun W hW =>
    ⟨(below1 w _).trans (hW.mono (by simp)), by rw [hW.cell (p := ⟨w.heap.size, 5, none⟩) (by simp)]; exact row_at (heap_alloc_new _ _) 5⟩
  clear e
  cases nb
  all_goals go_enter Tryd.func62, Tryd.ntmps62
  all_goals go_wp2_with (first | (go_at_call 74; refine (refOwn_any _).mono ?_; rintro r w' ⟨rfl, rfl⟩) | (go_at_call 65; refine (HD.out _).mono ?_; rintro r w2 ⟨rfl, b2⟩; have hb2 := (HK.out _ b2).1; have hc2 := (HK.out _ b2).2; clear b2))
  all_goals (go_ret; refine ⟨?_, by assumption⟩; simp_all)

set_option maxRecDepth 100000 in
set_option maxHeartbeats 1000000 in
theorem refTyped_7 (t : ByteArray) (w : World) : Calls Tryd.prog 62 #[.int .i64 7, .string t] w fun r w' => r = .returned (.bool (tyB 7 t)) ∧ Below w.heap.size w w' := by
  have e : tyB 7 t = (declB t || t.toList == [102, 117, 110, 99]) := by rw [Bool.or_comm]; rfl
  rw [e]
  have HD : Hid (∀ W, Calls Tryd.prog 65 #[.string t] W fun r w' => r = .returned (.bool (declB t)) ∧ Below W.heap.size W w') := fun W => refDeclared_any t W
  generalize declB t = nb at HD ⊢
  have HK : Hid (∀ W, Below (w.alloc (.cells #[.string ⟨#[98, 111, 111, 108]⟩, .string ⟨#[105, 110, 116]⟩, .string ⟨#[102, 108, 111, 97, 116]⟩, .string ⟨#[116, 101, 120, 116]⟩, .string ⟨#[108, 105, 115, 116]⟩, .string ⟨#[109, 97, 112]⟩, .string ⟨#[102, 117, 110, 99]⟩] 9)).heap.size (w.alloc (.cells #[.string ⟨#[98, 111, 111, 108]⟩, .string ⟨#[105, 110, 116]⟩, .string ⟨#[102, 108, 111, 97, 116]⟩, .string ⟨#[116, 101, 120, 116]⟩, .string ⟨#[108, 105, 115, 116]⟩, .string ⟨#[109, 97, 112]⟩, .string ⟨#[102, 117, 110, 99]⟩] 9)) W → Below w.heap.size w W ∧ W.cell? ⟨w.heap.size, 6, none⟩ = some (.string ⟨#[102, 117, 110, 99]⟩)) := fun W hW =>
    ⟨(below1 w _).trans (hW.mono (by simp)), by rw [hW.cell (p := ⟨w.heap.size, 6, none⟩) (by simp)]; exact row_at (heap_alloc_new _ _) 6⟩
  clear e
  cases nb
  all_goals go_enter Tryd.func62, Tryd.ntmps62
  all_goals go_wp2_with (first | (go_at_call 74; refine (refOwn_any _).mono ?_; rintro r w' ⟨rfl, rfl⟩) | (go_at_call 65; refine (HD.out _).mono ?_; rintro r w2 ⟨rfl, b2⟩; have hb2 := (HK.out _ b2).1; have hc2 := (HK.out _ b2).2; clear b2))
  all_goals (go_ret; refine ⟨?_, by assumption⟩; simp_all)

/-- May a kind's ref be so? -/
def leadsB (k r0 r1 r2 r3 : Int) (path : List Int) : Bool :=
  if r0 = 0 then noneB r0 r1 r2 r3 path.length else objB r0 && (k == 9 || (path.length : Int) == 0) && decide ((path.length : Int) ≤ 100) && path.all stepB &&
    (if k = 5 then decide (0 ≤ r1) && decide (0 ≤ r2) && decide (r2 ≤ r3) && decide (r1 ≤ 1048576) && decide (r3 ≤ 1048576 - r1) else r1 == 0 && r2 == 0 && r3 == 0)
end Go.Proofs.YtnhbpcmiolkllaaDoor
