/-
  A datum that is ordered, made.
  A text that is ordered, made.
  The small walks beneath right: types' names, what a kind has, refs, NaNs.
-/
import Derived.Test.YtnhbpcmiolkllabDoorDaJ
import Derived.Test.YtnhbpcmiolkllabDoorI
import Derived.Laws.IdiomStrings
import Derived.Lib.BufferRead
import Derived.Test.YtnhbpcmiolkllabDoorE
import Derived.Test.YtnhbpcmiolkllabDoorG
import Derived.Test.YtnhbpcmiolkllabDoorFlJ
import Derived.Laws.Cover2
namespace Go.Proofs.YtnhbpcmiolkllabDoor
open Go.RowKit
attribute [local go_sem] refold2 cell3_0 cell3_1 b28_0 b28_01

/-- A datum without Path and Items. -/
def fl (k : Int) (t : ByteArray) (n f : Int) (s : ByteArray) : MD := ⟨⟨k, t, n, f, s, 0, 0, 0, 0, none, [], 0⟩, none, 0, []⟩
def OrdK (K : Int) (x : MD) : Prop :=
  (K = 0 ∧ ∃ a : Int, x = fl 2 ⟨#[105, 110, 116]⟩ a 0 ⟨#[]⟩ ∧ -9223372036854775808 ≤ a ∧ a ≤ 9223372036854775807) ∨
  (K = 1 ∧ ∃ f : Int, x = fl 3 ⟨#[102, 108, 111, 97, 116]⟩ 0 f ⟨#[]⟩ ∧ 0 ≤ f ∧ f ≤ 18446744073709551615 ∧ flOK f = true) ∨
  (K = 2 ∧ ∃ s : ByteArray, x = fl 4 ⟨#[116, 101, 120, 116]⟩ 0 0 s ∧ s.size ≤ 4)
def OrdP (K : Int) (kb : Nat) (rp : Option Addr) (raw : List Int) (rc at_ : Nat) (w : World) (r : Ending) (w' : World) : Prop := ∃ (x : MD) (a' : Nat), r = .returned x.val ∧ OrdK K x ∧ a' ≤ at_ + 10 ∧ MakerAt w' kb rp raw rc a' ∧ Moved kb w w'
/-- The answer is laid into its own row. -/
theorem ord_done {K : Int} {kb : Nat} {rp : Option Addr} {raw : List Int} {rc at_ a' : Nat} {w w3 F : World} {o : Obj} (x : MD) (hM : MakerAt w kb rp raw rc at_) (h3 : MakerAt w3 kb rp raw rc a') (hv : Moved kb (w.alloc o) w3) (hx : OrdK K x) (ha : a' ≤ at_ + 10)
    (hB : Below w.heap.size w3 F) : OrdP K kb rp raw rc at_ w (.returned x.val) F := by
  have hk : kb < w.heap.size := (Array.getElem?_eq_some_iff.1 hM.row).1
  have hw : Moved kb w w3 := (Moved.of_below (below1 _ _)).trans hv
  have hmv : Moved kb w F := ⟨hB.os.trans hw.os, hB.tape.trans hw.tape, hB.output.trans hw.output, Nat.le_trans hw.size hB.size, fun b hb hn => (hB.block b hb).trans (hw.block b hb hn)⟩
  exact ⟨x, a', rfl, hx, ha, hM.moved hmv ((hB.block kb hk).trans h3.row), hmv⟩
set_option maxRecDepth 100000 in
set_option maxHeartbeats 2000000 in
theorem ordered_0 (kind : Int) (kb : Nat) (rp : Option Addr) (raw : List Int) (rc at_ : Nat) (w : World) (hM : MakerAt w kb rp raw rc at_) (ha : at_ ≤ 90000) (h0 : -9223372036854775808 ≤ kind) (h1 : kind ≤ 9223372036854775807) (hK : pickN kind 3 = 0) :
    Calls Tryd.prog 14 #[.int .i64 kind, .pointer (some ⟨kb, 0, none⟩)] w (OrdP 0 kb rp raw rc at_ w) := by
  have hk : kb < w.heap.size := (Array.getElem?_eq_some_iff.1 hM.row).1
  have HM : Hid (MakerAt w kb rp raw rc at_) := hM
  have HP : Hid (∀ W, Calls Tryd.prog 16 #[.int .i64 kind, .int .i64 3] W fun r w' => r = .returned (.int .i64 0) ∧ w' = W) := fun W => by
    have h := pickN_any kind 3 W h0 h1 (by decide) (by decide)
    rw [hK] at h
    exact h
  clear hM hK
  go_enter Tryd.func14, Tryd.ntmps14
  go_wp2_with fail
  refine (HP.out _).mono ?_
  rintro r W1 ⟨rfl, rfl⟩
  go_wp2_with fail
  refine (raw_any kb rp raw rc at_ _ (HM.out.below (below1 _ _)) (by omega)).mono ?_
  rintro r w3 ⟨c, rfl, c0, c1, hM3, hv3⟩
  have hr3 : w3.heap[w.heap.size]? = some (.cells zeros 32 (0, 0)) := (hv3.block _ (by simp) (by omega)).trans (heap_alloc_new _ _)
  have hc3 : ∀ j, w3.cell? ⟨w.heap.size, j, none⟩ = (#[.int .i64 0, .string ⟨#[]⟩, .int .i64 0, .int .u64 0, .string ⟨#[]⟩, .int .i64 0, .int .i64 0, .int .i64 0, .int .i64 0, .slice none 0 0, .slice none 0 0] : Array Value)[j]? := row_at hr3
  have hf3 := fun j => fz _ _ _ _ j hr3
  have HV : Hid _ := hv3
  have HM3 : Hid _ := hM3
  clear hM3 hv3 hr3
  go_wp2_with fail
  refine bodyPost_ret (v := .agg #[.int .i64 2, .string ⟨#[105, 110, 116]⟩, .int .i64 c, .int .u64 0, .string ⟨#[]⟩, .int .i64 0, .int .i64 0, .int .i64 0, .int .i64 0, .slice none 0 0, .slice none 0 0]) (by simp [results, Tryd.results14, go_sem, hc3]) rfl ?_
  exact ord_done (fl 2 ⟨#[105, 110, 116]⟩ c 0 ⟨#[]⟩) HM.out HM3.out HV.out (.inl ⟨rfl, c, rfl, c0, c1⟩) (by omega) (bset (Below.refl _ _) (Nat.le_refl _) _ _ _ _ _ _ _ _ _ _ _)
set_option maxRecDepth 100000 in
set_option maxHeartbeats 2000000 in
theorem ordered_1 (kind : Int) (kb : Nat) (rp : Option Addr) (raw : List Int) (rc at_ : Nat) (w : World) (hM : MakerAt w kb rp raw rc at_) (ha : at_ ≤ 90000) (h0 : -9223372036854775808 ≤ kind) (h1 : kind ≤ 9223372036854775807) (hK : pickN kind 3 = 1) :
    Calls Tryd.prog 14 #[.int .i64 kind, .pointer (some ⟨kb, 0, none⟩)] w (OrdP 1 kb rp raw rc at_ w) := by
  have hk : kb < w.heap.size := (Array.getElem?_eq_some_iff.1 hM.row).1
  have HM : Hid (MakerAt w kb rp raw rc at_) := hM
  have HP : Hid (∀ W, Calls Tryd.prog 16 #[.int .i64 kind, .int .i64 3] W fun r w' => r = .returned (.int .i64 1) ∧ w' = W) := fun W => by
    have h := pickN_any kind 3 W h0 h1 (by decide) (by decide)
    rw [hK] at h
    exact h
  clear hM hK
  go_enter Tryd.func14, Tryd.ntmps14
  go_wp2_with fail
  refine (HP.out _).mono ?_
  rintro r W1 ⟨rfl, rfl⟩
  go_wp2_with fail
  refine (float_any kb rp raw rc at_ _ (HM.out.below (below1 _ _)) (by omega)).mono ?_
  rintro r w3 ⟨c, a3, rfl, c0, c1, c2, ha3, hM3, hv3⟩
  have hr3 : w3.heap[w.heap.size]? = some (.cells zeros 32 (0, 0)) := (hv3.block _ (by simp) (by omega)).trans (heap_alloc_new _ _)
  have hc3 : ∀ j, w3.cell? ⟨w.heap.size, j, none⟩ = (#[.int .i64 0, .string ⟨#[]⟩, .int .i64 0, .int .u64 0, .string ⟨#[]⟩, .int .i64 0, .int .i64 0, .int .i64 0, .int .i64 0, .slice none 0 0, .slice none 0 0] : Array Value)[j]? := row_at hr3
  have hf3 := fun j => fz _ _ _ _ j hr3
  have HV : Hid _ := hv3
  have HM3 : Hid _ := hM3
  clear hM3 hv3 hr3
  go_wp2_with fail
  refine bodyPost_ret (v := .agg #[.int .i64 3, .string ⟨#[102, 108, 111, 97, 116]⟩, .int .i64 0, .int .u64 c, .string ⟨#[]⟩, .int .i64 0, .int .i64 0, .int .i64 0, .int .i64 0, .slice none 0 0, .slice none 0 0]) (by simp [results, Tryd.results14, go_sem, hc3]) rfl ?_
  exact ord_done (fl 3 ⟨#[102, 108, 111, 97, 116]⟩ 0 c ⟨#[]⟩) HM.out HM3.out HV.out (.inr (.inl ⟨rfl, c, rfl, c0, c1, c2⟩)) (by omega) (bset (Below.refl _ _) (Nat.le_refl _) _ _ _ _ _ _ _ _ _ _ _)
end Go.Proofs.YtnhbpcmiolkllabDoor
namespace Go.Proofs.YtnhbpcmiolkllabDoor
open Go.RowKit
attribute [local go_sem] refold2 cell3_0 cell3_1 b28_0 b28_01

theorem cv1 (z : Int) (b : UInt8) (hz : [Value.int .u8 z] = Lib.byteCells [b]) (W : World) : (convert 85 9 (.slice (some ⟨W.heap.size, 0, none⟩) 1 1)).run Tryd.prog (W.alloc (.cells #[.int .u8 z] 5)) = .ok (.string ⟨#[b]⟩) (W.alloc (.cells #[.int .u8 z] 5)) :=
  run_convert_bytes_back (W.alloc (.cells #[.int .u8 z] 5)) 85 9 5 ⟨W.heap.size, 0, none⟩ 1 [b] Tryd.underlying85 Tryd.underlying5 Tryd.underlying9 (Lib.bytes_of_row (heap_alloc_new _ _) (by rw [← hz]; rfl))
theorem byte3 (c : Int) (h0 : 0 ≤ c) (h1 : c ≤ 2) : ∃ b : UInt8, [Value.int .u8 (c * 100)] = Lib.byteCells [b] := by
  obtain rfl | rfl | rfl : c = 0 ∨ c = 1 ∨ c = 2 := by omega
  · exact ⟨0, rfl⟩
  · exact ⟨100, rfl⟩
  · exact ⟨200, rfl⟩
set_option maxRecDepth 100000 in
set_option maxHeartbeats 2000000 in
theorem ordered_2 (kind : Int) (kb : Nat) (rp : Option Addr) (raw : List Int) (rc at_ : Nat) (w : World) (hM : MakerAt w kb rp raw rc at_) (ha : at_ ≤ 90000) (h0 : -9223372036854775808 ≤ kind) (h1 : kind ≤ 9223372036854775807) (hK : pickN kind 3 = 2) :
    Calls Tryd.prog 14 #[.int .i64 kind, .pointer (some ⟨kb, 0, none⟩)] w (OrdP 2 kb rp raw rc at_ w) := by
  have hk : kb < w.heap.size := (Array.getElem?_eq_some_iff.1 hM.row).1
  have HM : Hid (MakerAt w kb rp raw rc at_) := hM
  have HP : Hid (∀ W, Calls Tryd.prog 16 #[.int .i64 kind, .int .i64 3] W fun r w' => r = .returned (.int .i64 2) ∧ w' = W) := fun W => by
    have h := pickN_any kind 3 W h0 h1 (by decide) (by decide)
    rw [hK] at h
    exact h
  clear hM hK
  go_enter Tryd.func14, Tryd.ntmps14
  go_wp2_with fail
  refine (HP.out _).mono ?_
  rintro r W1 ⟨rfl, rfl⟩
  go_wp2_with fail
  refine (next_any kb rp raw rc at_ 5 _ (HM.out.below (below1 _ _)) (by omega) (by decide) (by decide)).mono ?_
  rintro r w3 ⟨c, rfl, c0, c1, hM3, hv3⟩
  obtain ⟨m, rfl⟩ : ∃ m : Nat, c = m := ⟨c.toNat, by omega⟩
  obtain ⟨W1, hW1⟩ : ∃ W1, W1 = w.alloc (.cells zeros 32) := ⟨_, rfl⟩
  have hz1 : W1.heap.size = w.heap.size + 1 := by rw [hW1]; simp
  have hx1 : W1.heap[w.heap.size]? = some (.cells zeros 32 (0, 0)) := by rw [hW1]; exact heap_alloc_new _ _
  have HV : Hid (MakerAt w3 kb rp raw rc (at_ + 1) ∧ Moved kb W1 w3) := ⟨hM3, by rw [hW1]; exact hv3⟩
  have HX1 : Hid _ := hx1
  have HW1 : Hid (W1 = w.alloc (.cells zeros 32)) := hW1
  clear hM3 hv3 hx1 hW1
  go_wp2_with fail
  go_loopw [5, 6] (fun s i wr => ∃ (n : Nat) (t : ByteArray) (a' : Nat), i = .int .i64 n ∧ s = .string t ∧ t.size + n ≤ 4 ∧ a' + n ≤ at_ + 5 ∧ Hid (MakerAt wr kb rp raw rc a' ∧ Moved kb W1 wr)) (fun _ i _ => (intOf i).toNat)
  case atStart => exact ⟨m, ⟨#[]⟩, at_ + 1, rfl, rfl, by show 0 + m ≤ 4; omega, by omega, HV⟩
  case round =>
    obtain ⟨n, t, a', rfl, rfl, ht, ha', HR⟩ := hrel
    by_cases hn : 0 < n
    · have i1 : (0 : Int) < n := by omega
      go_wp2_with fail
      refine (next_any kb rp raw rc a' 3 wr HR.out.1 (by omega) (by decide) (by decide)).mono ?_
      rintro r w4 ⟨c, rfl, c0, c1, hM4, hv4⟩
      have HR4 : Hid (MakerAt w4 kb rp raw rc (a' + 1) ∧ Moved kb W1 w4) := ⟨hM4, HR.out.2.trans hv4⟩
      obtain ⟨bt, hbt⟩ := byte3 c c0 (by omega)
      have hcv := cv1 (c * 100) bt hbt w4
      clear hM4 hv4 hbt
      go_wp2_with fail
      exact ⟨⟨n - 1, t ++ ⟨#[bt]⟩, a' + 1, by congr 1; omega, rfl, by rw [ByteArray.size_append]; show t.size + 1 + (n - 1) ≤ 4; omega, by omega, ⟨HR4.out.1.below (below1 _ _), HR4.out.2.trans (Moved.of_below (below1 _ _))⟩⟩, by simp [intOf]; omega⟩
    · have i1 : ¬ (0 : Int) < n := by omega
      have hr3 : wr.heap[w.heap.size]? = some (.cells zeros 32 (0, 0)) := (HR.out.2.block _ (by omega) (by omega)).trans HX1.out
      have hc3 : ∀ j, wr.cell? ⟨w.heap.size, j, none⟩ = (#[.int .i64 0, .string ⟨#[]⟩, .int .i64 0, .int .u64 0, .string ⟨#[]⟩, .int .i64 0, .int .i64 0, .int .i64 0, .int .i64 0, .slice none 0 0, .slice none 0 0] : Array Value)[j]? := row_at hr3
      have hf3 := fun j => fz _ _ _ _ j hr3
      clear hr3
      go_wp2_with fail
      refine bodyPost_ret (v := .agg #[.int .i64 4, .string ⟨#[116, 101, 120, 116]⟩, .int .i64 0, .int .u64 0, .string t, .int .i64 0, .int .i64 0, .int .i64 0, .int .i64 0, .slice none 0 0, .slice none 0 0]) (by simp [results, Tryd.results14, go_sem, hc3]) rfl ?_
      have hv := HR.out.2
      rw [HW1.out] at hv
      exact ord_done (fl 4 ⟨#[116, 101, 120, 116]⟩ 0 0 t) HM.out HR.out.1 hv (.inr (.inr ⟨rfl, t, rfl, by omega⟩)) (by omega) (bset (Below.refl _ _) (Nat.le_refl _) _ _ _ _ _ _ _ _ _ _ _)
end Go.Proofs.YtnhbpcmiolkllabDoor
namespace Go.Proofs.YtnhbpcmiolkllabDoor
open Go.RowKit
attribute [local go_sem] refold2 cell3_0 cell3_1 b28_0 b28_01

theorem x56 (n : Int) (W : World) : (callFunc 37 #[.int .u64 n]).run Tryd.prog W = .ok (.value (.float .f64 n.toNat)) W :=
  (@run_callFunc_extern Tryd.prog 37 _ Extern.MathFloatBits.float64frombits Tryd.func37 (by kernel_rfl) (by kernel_rfl) (by kernel_rfl) (by kernel_rfl) _ W).trans rfl
attribute [local go_sem] x56

/-- The float of some bits is no number. -/
theorem mathIsNaN_any (x : Nat) (w : World) : Calls Tryd.prog 36 #[.float .f64 x] w fun r w' => r = .returned (.bool (isNan x)) ∧ w' = w := by
  have h : (FloatKind.f64.format.order x x != some .eq) = isNan x := by
    have h1 := order_none x x
    have h2 := order_swap x x
    show (Ieee.double.order x x != some .eq) = _
    cases ho : Ieee.double.order x x with
    | none => have := h1.1 ho; simp at this; rw [this]; rfl
    | some o =>
      rw [ho] at h1 h2
      have : isNan x = false := by cases hx : isNan x with
        | false => rfl
        | true => have := h1.2 (.inl hx); cases this
      rw [this]
      cases o <;> simp [Ordering.swap] at h2 ⊢
  go_enter Tryd.func36, Tryd.ntmps36
  go_wp2
  go_ret
  exact ⟨rfl, rfl⟩

/-- May an object's number be so? -/
def objB (n : Int) : Bool := decide (0 ≤ n) && decide (n ≤ 2147483647)
set_option maxHeartbeats 1000000 in
theorem rightObject_any (n : Int) (w : World) : Calls Tryd.prog 39 #[.int .i64 n] w fun r w' => r = .returned (.bool (objB n)) ∧ w' = w := by
  unfold objB
  go_enter Tryd.func39, Tryd.ntmps39
  go_wp2
  all_goals (go_ret; refine ⟨?_, rfl⟩; simp_all)
  all_goals omega

/-- May a list's ref be so? -/
def pieceB (r0 r1 r2 r3 : Int) : Bool := if r0 = 0 then r1 == 0 && r2 == 0 && r3 == 0 else objB r0 && decide (0 ≤ r1) && decide (0 ≤ r2) && decide (r2 ≤ r3) && decide (r3 ≤ 1048576) && decide (r1 ≤ 1048576 - r3)
set_option maxHeartbeats 4000000 in
theorem rightPiece_any (r0 r1 r2 r3 : Int) (p : Option Addr) (m c : Nat) (w : World) (h0 : -9223372036854775808 ≤ r3) (h1 : r3 ≤ 9223372036854775807) :
    Calls Tryd.prog 38 #[.agg #[.int .i64 r0, .int .i64 r1, .int .i64 r2, .int .i64 r3, .slice p m c]] w fun r w' => r = .returned (.bool (pieceB r0 r1 r2 r3)) ∧ Below w.heap.size w w' := by
  by_cases hr : r0 = 0
  · unfold pieceB
    rw [if_pos hr]
    subst hr
    go_enter Tryd.func38, Tryd.ntmps38
    go_wp2
    all_goals (go_ret; refine ⟨?_, below1 _ _⟩; simp_all)
  · have e : pieceB r0 r1 r2 r3 = (objB r0 && decide (0 ≤ r1) && decide (0 ≤ r2) && decide (r2 ≤ r3) && decide (r3 ≤ 1048576) && decide (r1 ≤ 1048576 - r3)) := by unfold pieceB; rw [if_neg hr]
    rw [e]
    clear e
    obtain ⟨x, hx⟩ : ∃ x, x = objB r0 := ⟨_, rfl⟩
    have HO : Hid (∀ W, Calls Tryd.prog 39 #[.int .i64 r0] W fun r w' => r = .returned (.bool x) ∧ w' = W) := fun W => by rw [hx]; exact rightObject_any r0 W
    rw [← hx]
    clear hx
    cases x with
    | false =>
      go_enter Tryd.func38, Tryd.ntmps38
      go_wp2_with (go_at_call 39; refine (HO.out _).mono ?_; rintro r w' ⟨rfl, rfl⟩)
      all_goals (go_ret; refine ⟨?_, below1 _ _⟩; simp)
    | true =>
      go_enter Tryd.func38, Tryd.ntmps38
      go_wp2_with (go_at_call 39; refine (HO.out _).mono ?_; rintro r w' ⟨rfl, rfl⟩)
      all_goals (go_ret; refine ⟨?_, below1 _ _⟩; simp_all)
      all_goals omega

/-- May a pointer's ref be so? -/
def targetB (r0 : Int) (path : List Int) : Bool := objB r0 && decide (path.length ≤ 100) && !(r0 == 0 && decide (0 < path.length)) && path.all (fun z => decide (0 ≤ z) && decide (z < 30))
end Go.Proofs.YtnhbpcmiolkllabDoor
