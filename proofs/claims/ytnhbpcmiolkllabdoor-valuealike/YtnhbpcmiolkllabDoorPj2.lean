/-
  What a maker's next number is; what stays while a datum is made.
-/
import Derived.Test.YtnhbpcmiolkllabDoorPb2
import Derived.Test.YtnhbpcmiolkllabDoorPh2J
import Derived.Test.YtnhbpcmiolkllabDoorI
import Derived.Test.YtnhbpcmiolkllabDoorPi2
import Derived.Test.YtnhbpcmiolkllabDoorRt
import Derived.Test.YtnhbpcmiolkllabDoorCa
namespace Go.Proofs.YtnhbpcmiolkllabDoor
open Go.RowKit

/-- The next number. -/
def nv (raw : List Int) (at_ : Nat) (n : Int) : Int := if h : at_ < raw.length then pickN raw[at_] n else 0
theorem nv_range (raw : List Int) (at_ : Nat) (n : Int) (hn : 0 < n) : 0 ≤ nv raw at_ n ∧ nv raw at_ n < n := by
  unfold nv
  split
  · exact pickN_range _ _ hn
  · omega
set_option maxRecDepth 100000 in
set_option maxHeartbeats 2000000 in
theorem next_det (kb : Nat) (rp : Option Addr) (raw : List Int) (rc at_ : Nat) (n : Int) (w : World) (hM : MakerAt w kb rp raw rc at_) (ha : at_ ≤ 100000) (n0 : 0 < n) (n1 : n ≤ 1000) :
    Calls Tryd.prog 20 #[.pointer (some ⟨kb, 0, none⟩), .int .i64 n] w (NextP kb rp raw rc at_ (nv raw at_ n) (nv raw at_ n) w) := by
  unfold nv
  have hr := row_at hM.row
  have hf := fun j => fz _ _ _ _ j hM.row
  have HM : Hid (MakerAt w kb rp raw rc at_) := hM
  have hl := hM.len
  by_cases hlt : at_ < raw.length
  · have i1 : (at_ : Int) < raw.length := by omega
    obtain ⟨b, o, rfl, hb, hc⟩ : ∃ b o, rp = some ⟨b, o, none⟩ ∧ b < w.heap.size ∧ w.cell? ⟨b, o + at_, none⟩ = some (.int .i64 raw[at_]) := by
      rcases hM.cells with e | ⟨b, o, e1, e2, _, e4⟩
      · subst e; simp at hlt
      · exact ⟨b, o, e1, e2, e4 at_ hlt⟩
    have hbd := hM.bounds _ (List.getElem_mem hlt)
    rw [show (if h : at_ < raw.length then pickN raw[at_] n else 0) = pickN raw[at_] n from dif_pos hlt]
    generalize raw[at_] = c at hc hbd ⊢
    clear hM
    have HP : Hid (∀ W, Calls Tryd.prog 16 #[.int .i64 c, .int .i64 n] W fun r w' => r = .returned (.int .i64 (pickN c n)) ∧ w' = W) := fun W => pickN_any c n W hbd.1 hbd.2 n0 n1
    generalize pickN c n = p at HP ⊢
    go_enter Tryd.func20, Tryd.ntmps20
    go_wp2_with fail
    go_quiet (fail)
    go_wp2_with fail
    obtain ⟨W1, hW1⟩ : ∃ W1, W1 = w.drewN nq := ⟨_, rfl⟩
    rw [← hW1]
    have hr1 : ∀ j, W1.cell? ⟨kb, j, none⟩ = (#[.slice (some ⟨b, o, none⟩) raw.length rc, .int .i64 at_] : Array Value)[j]? := fun j => by rw [hW1]; exact hr j
    have hf1 : ∀ j, W1.frozen? ⟨kb, j, none⟩ = false := fun j => by rw [hW1]; exact hf j
    have hc1 : W1.cell? ⟨b, o + at_, none⟩ = some (.int .i64 c) := by rw [hW1]; exact hc
    have hH : W1.heap = w.heap ∧ W1.os = w.os ∧ W1.tape = w.tape ∧ W1.output = w.output := by rw [hW1]; exact ⟨rfl, rfl, rfl, rfl⟩
    have HH : Hid _ := hH
    clear hW1 hH
    go_quiet (exact Calls.quiet_of_same (HP.out _))
    go_wp2_with fail
    go_ret
    have hH := HH.out
    exact next_done HM.out ⟨hH.1, hH.2.1, hH.2.2.1, hH.2.2.2⟩ (Int.le_refl _) (Int.le_refl _)
  · have i1 : ¬ (at_ : Int) < raw.length := by omega
    rw [show (if h : at_ < raw.length then pickN raw[at_] n else 0) = 0 from dif_neg hlt]
    clear hM
    go_enter Tryd.func20, Tryd.ntmps20
    go_wp2_with fail
    go_quiet (fail)
    go_wp2_with fail
    go_ret
    exact next_done HM.out ⟨rfl, rfl, rfl, rfl⟩ (Int.le_refl _) (Int.le_refl _)
/-- While a datum is made: the maker stands at a, all else that was there is as it was. -/
structure St (kb : Nat) (rp : Option Addr) (raw : List Int) (rc : Nat) (w W : World) (a : Nat) : Prop where
  mv : Moved kb w W
  row : W.heap[kb]? = some (.cells #[.slice rp raw.length rc, .int .i64 a] 26 (0, 0))
theorem St.maker {kb : Nat} {rp : Option Addr} {raw : List Int} {rc a0 a : Nat} {w W : World} (h : St kb rp raw rc w W a) (hM : MakerAt w kb rp raw rc a0) : MakerAt W kb rp raw rc a := hM.moved h.mv h.row
theorem St.up {kb : Nat} {rp : Option Addr} {raw : List Int} {rc a : Nat} {w W W' : World} (h : St kb rp raw rc w W a) (hk : kb < w.heap.size) (hb : Below w.heap.size W W') : St kb rp raw rc w W' a :=
  ⟨⟨hb.os.trans h.mv.os, hb.tape.trans h.mv.tape, hb.output.trans h.mv.output, Nat.le_trans h.mv.size hb.size, fun b b1 b2 => (hb.block b b1).trans (h.mv.block b b1 b2)⟩, (hb.block kb hk).trans h.row⟩
theorem St.next {kb : Nat} {rp : Option Addr} {raw : List Int} {rc a a' : Nat} {w W W' : World} (h : St kb rp raw rc w W a) (hM : MakerAt W' kb rp raw rc a') (hv : Moved kb W W') : St kb rp raw rc w W' a' := ⟨h.mv.trans hv, hM.row⟩
theorem row_setT {w : World} {g : Nat} {c : Array Value} {t : TypeId} (h : w.heap[g]? = some (.cells c t (0, 0))) (q : Nat) (v : Value) : (w.setCell ⟨g, q, none⟩ v).heap[g]? = some (.cells (c.setIfInBounds q v) t (0, 0)) := by
  have hlt := (Array.getElem?_eq_some_iff.1 h).1
  show (w.heap.modify g _)[g]? = _
  rw [Array.getElem?_eq_getElem (by rw [Array.size_modify]; exact hlt), Array.getElem_modify_self]
  have := (Array.getElem?_eq_some_iff.1 h).2
  rw [this]; rfl
def SimP (kb : Nat) (rp : Option Addr) (raw : List Int) (rc at_ : Nat) (w : World) (r : Ending) (w' : World) : Prop := ∃ (d : MD) (a' : Nat), r = .returned d.val ∧ MD.In w'.heap.size w' 1 d ∧ MD.right 1 d = true ∧ MD.Above w.heap.size 1 d ∧ a' ≤ at_ + 12 ∧ MakerAt w' kb rp raw rc a' ∧ Moved kb w w'
/-- A datum without Path and Items, but with a Ref. -/
def flR (k : Int) (t : ByteArray) (n f : Int) (s : ByteArray) (r0 r1 r2 r3 : Int) : MD := ⟨⟨k, t, n, f, s, r0, r1, r2, r3, none, [], 0⟩, none, 0, []⟩
theorem sim_done {kb : Nat} {rp : Option Addr} {raw : List Int} {rc at_ a' : Nat} {w W F : World} (k : Int) (t : ByteArray) (n f : Int) (s : ByteArray) (r0 r1 r2 r3 : Int) (hM : MakerAt w kb rp raw rc at_) (hS : St kb rp raw rc w W a') (hF : Below w.heap.size W F) (ha : a' ≤ at_ + 12)
    (k0 : 0 ≤ k) (k1 : k ≤ 9) (t0 : t.size ≤ 100) (n0 : -9223372036854775808 ≤ n) (n1 : n ≤ 9223372036854775807) (f0 : 0 ≤ f) (f1 : f ≤ 18446744073709551615) (s0 : s.size ≤ 100) (q0 : 0 ≤ r0 ∧ r0 ≤ 100) (q1 : 0 ≤ r1 ∧ r1 ≤ 100) (q2 : 0 ≤ r2 ∧ r2 ≤ 100) (q3 : 0 ≤ r3 ∧ r3 ≤ 100) (hR : MD.right 1 (flR k t n f s r0 r1 r2 r3) = true) :
    SimP kb rp raw rc at_ w (.returned (.agg #[.int .i64 k, .string t, .int .i64 n, .int .u64 f, .string s, .int .i64 r0, .int .i64 r1, .int .i64 r2, .int .i64 r3, .slice none 0 0, .slice none 0 0])) F := by
  have hk : kb < w.heap.size := (Array.getElem?_eq_some_iff.1 hM.row).1
  have h := hS.up hk hF
  have m : (100 : Nat) ≤ maxLen := by decide
  refine ⟨flR k t n f s r0 r1 r2 r3, a', rfl, ⟨⟨by show _ ≤ k; omega, by show k ≤ _; omega, n0, n1, f0, f1, by show _ ≤ r0; omega, by show r0 ≤ _; omega, by show _ ≤ r1; omega, by show r1 ≤ _; omega, by show _ ≤ r2; omega, by show r2 ≤ _; omega, by show _ ≤ r3; omega, by show r3 ≤ _; omega, by show t.size ≤ _; omega, by show s.size ≤ _; omega, Nat.le_refl _, Nat.zero_le _⟩, ⟨fun x hx => (by cases hx), .inl rfl⟩, Nat.le_refl _, Nat.zero_le _, .inl rfl⟩, hR, ⟨fun _ _ e => (by cases e), fun _ _ e => (by cases e), fun x hx => (by cases hx)⟩, ha, h.maker hM, h.mv⟩
theorem b32_k (k : Int) (w : World) : (Instr.build 32 #[(0, .int .i64 k)]).run Tryd.prog w = .ok (.agg #[.int .i64 k, .string ⟨#[]⟩, .int .i64 0, .int .u64 0, .string ⟨#[]⟩, .int .i64 0, .int .i64 0, .int .i64 0, .int .i64 0, .slice none 0 0, .slice none 0 0]) w := run_build w 32 _ _ (by kernel_rfl)
theorem decl_T : declB ⟨#[84]⟩ = true := by
  have h : takenB ⟨#[84]⟩ = false := by unfold takenB; rw [Lib.toList_data]; rfl
  unfold declB; rw [h]; rfl
theorem decl_U : declB ⟨#[85]⟩ = true := by
  have h : takenB ⟨#[85]⟩ = false := by unfold takenB; rw [Lib.toList_data]; rfl
  unfold declB; rw [h]; rfl
theorem decl_S : declB ⟨#[83]⟩ = true := by
  have h : takenB ⟨#[83]⟩ = false := by unfold takenB; rw [Lib.toList_data]; rfl
  unfold declB; rw [h]; rfl
/-- The same, with the answer's row and the datum's own. -/
structure Sb (kb : Nat) (rp : Option Addr) (raw : List Int) (rc : Nat) (w W : World) (a bx : Nat) (row : Array Value) : Prop where
  st : St kb rp raw rc w W a
  res : W.heap[w.heap.size]? = some (.cells zeros 32 (0, 0))
  box : W.heap[bx]? = some (.cells row 32 (0, 0))
  hi : w.heap.size < bx
  lo : kb < w.heap.size
theorem Sb.new {kb : Nat} {rp : Option Addr} {raw : List Int} {rc a : Nat} {w W : World} (h : St kb rp raw rc w W a) (hk : kb < w.heap.size) (hr : W.heap[w.heap.size]? = some (.cells zeros 32 (0, 0))) (row : Array Value) : Sb kb rp raw rc w (W.alloc (.cells row 32)) a W.heap.size row :=
  ⟨h.up hk ((Below.refl _ _).alloc h.mv.size _), (Below.heap_alloc _ _ _ (Array.getElem?_eq_some_iff.1 hr).1).trans hr, heap_alloc_new _ _, (Array.getElem?_eq_some_iff.1 hr).1, hk⟩
theorem Sb.alloc {kb : Nat} {rp : Option Addr} {raw : List Int} {rc a bx : Nat} {w W : World} {row : Array Value} (h : Sb kb rp raw rc w W a bx row) (o : Obj) : Sb kb rp raw rc w (W.alloc o) a bx row :=
  ⟨h.st.up h.lo ((Below.refl _ _).alloc h.st.mv.size _), (Below.heap_alloc _ _ _ (Array.getElem?_eq_some_iff.1 h.res).1).trans h.res, (Below.heap_alloc _ _ _ (Array.getElem?_eq_some_iff.1 h.box).1).trans h.box, h.hi, h.lo⟩
theorem Sb.set {kb : Nat} {rp : Option Addr} {raw : List Int} {rc a bx : Nat} {w W : World} {row : Array Value} (h : Sb kb rp raw rc w W a bx row) (q : Nat) (v : Value) : Sb kb rp raw rc w (W.setCell ⟨bx, q, none⟩ v) a bx (row.setIfInBounds q v) :=
  ⟨h.st.up h.lo ((Below.refl _ _).setCell (p := ⟨bx, q, none⟩) (Nat.le_of_lt h.hi) v), (Below.heap_setCell _ _ _ _ (show w.heap.size ≠ bx from Nat.ne_of_lt h.hi)).trans h.res, row_setT h.box q v, h.hi, h.lo⟩
theorem Sb.next {kb : Nat} {rp : Option Addr} {raw : List Int} {rc a a' bx : Nat} {w W W' : World} {row : Array Value} (h : Sb kb rp raw rc w W a bx row) (hM : MakerAt W' kb rp raw rc a') (hv : Moved kb W W') : Sb kb rp raw rc w W' a' bx row :=
  ⟨h.st.next hM hv, (hv.block _ (Array.getElem?_eq_some_iff.1 h.res).1 (by have := h.lo; omega)).trans h.res, (hv.block _ (Array.getElem?_eq_some_iff.1 h.box).1 (by have := h.lo; have := h.hi; omega)).trans h.box, h.hi, h.lo⟩
theorem Sb.maker {kb : Nat} {rp : Option Addr} {raw : List Int} {rc a a0 bx : Nat} {w W : World} {row : Array Value} (h : Sb kb rp raw rc w W a bx row) (hM : MakerAt w kb rp raw rc a0) : MakerAt W kb rp raw rc a := h.st.maker hM
theorem right_flR (k : Int) (t : ByteArray) (n f : Int) (s : ByteArray) (r0 r1 r2 r3 : Int) (hT : tyB k t = true) (hz : zeroK k n f s r0 r1 r2 r3 0 0 = true) (hb : kindB ⟨k, t, n, f, s, r0, r1, r2, r3, none, [], 0⟩ = true) (h8 : k ≠ 8) : MD.right 1 (flR k t n f s r0 r1 r2 r3) = true := by
  have h : headOK (flR k t n f s r0 r1 r2 r3).h (flR k t n f s r0 r1 r2 r3).items.length = true := by
    show (tyB k t && zeroK k n f s r0 r1 r2 r3 0 0 && kindB ⟨k, t, n, f, s, r0, r1, r2, r3, none, [], 0⟩) = true
    rw [hT, hz, hb]; rfl
  have h2 : ((flR k t n f s r0 r1 r2 r3).h.k != 8) = true := by simpa [flR] using h8
  have h3 : MD.size 1 (flR k t n f s r0 r1 r2 r3) = 1 := by
    unfold MD.size
    rw [if_neg (show ¬ (flR k t n f s r0 r1 r2 r3).h.k = 8 from h8)]
  unfold MD.right MD.full
  rw [h, h2, h3]; rfl
theorem tyB_decl (k : Int) (t : ByteArray) (h1 : 1 ≤ k) (h2 : k ≤ 9) (h : declB t = true) : tyB k t = true := by
  unfold tyB
  obtain rfl | rfl | rfl | rfl | rfl | rfl | rfl | rfl | rfl : k = 1 ∨ k = 2 ∨ k = 3 ∨ k = 4 ∨ k = 5 ∨ k = 6 ∨ k = 7 ∨ k = 8 ∨ k = 9 := by omega
  all_goals simp [h]
theorem alloc_at {W : World} {o : Obj} {g : Nat} (h : g = W.heap.size) : (W.alloc o).heap[g]? = some o := by rw [h]; exact heap_alloc_new _ _
theorem two_get (a b : ByteArray) (m : Nat) (h : m < 2) (ha : declB a = true ∧ a.size ≤ 100) (hb : declB b = true ∧ b.size ≤ 100) : ∃ t, (#[Value.string a, .string b] : Array Value)[m]? = some (.string t) ∧ declB t = true ∧ t.size ≤ 100 := by
  match m, h with
  | 0, _ => exact ⟨a, rfl, ha⟩
  | 1, _ => exact ⟨b, rfl, hb⟩
end Go.Proofs.YtnhbpcmiolkllabDoor
