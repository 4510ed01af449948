/-
  What was lent is as it was.
-/
import Derived.Test.YtnhbpcmiolkllaaDoorKd2
import Derived.Test.YtnhbpcmiolkllaaDoorSc
import Derived.Test.YtnhbpcmiolkllaaDoorIc2J
namespace Go.Proofs.YtnhbpcmiolkllaaDoor
open Go.RowKit
attribute [local go_sem] refold2 cell3_0 cell3_1 b28_0 b28_01 nz26 nz23

def KeptC (n : Nat) : Prop := ∀ (o d : MD) (w : World), MD.In w.heap.size w n o → MD.In w.heap.size w n d → MD.same n d o = true → Marks w n o → Calls Tryd.prog 15 #[o.val, d.val] w fun r w' => r = .returned (.bool true) ∧ Below w.heap.size w w'
theorem all2_get {α : Type} (p : α → α → Bool) : ∀ (xs ys : List α) (j : Nat) (hx : j < xs.length) (hy : j < ys.length), all2 p xs ys = true → p xs[j] ys[j] = true
  | x :: xs, y :: ys, 0, _, _, h => (Bool.and_eq_true _ _ ▸ (show (p x y && all2 p xs ys) = true from h)).1
  | x :: xs, y :: ys, j + 1, hx, hy, h => all2_get p xs ys j (by simpa using hx) (by simpa using hy) (Bool.and_eq_true _ _ ▸ (show (p x y && all2 p xs ys) = true from h)).2
set_option maxRecDepth 100000 in
set_option maxHeartbeats 8000000 in
theorem kept_nn (n : Nat) (hI : KeptC n) (k : Int) (t : ByteArray) (a f : Int) (s : ByteArray) (r0 r1 r2 r3 : Int) (path : List Int) (pc : Nat) (ic : Nat) (items : List MD) (pp' : Option Addr) (pc' : Nat) (ip' : Option Addr) (ic' : Nat) (items' : List MD) (w : World)
    (hx : MD.In w.heap.size w (n + 1) ⟨⟨k, t, a, f, s, r0, r1, r2, r3, none, path, pc⟩, none, ic, items⟩) (hy : MD.In w.heap.size w (n + 1) ⟨⟨k, t, a, f, s, r0, r1, r2, r3, pp', path, pc'⟩, ip', ic', items'⟩) (hil : items.length = items'.length) (hs : all2 (MD.same n) items' items = true) (hm : ∀ x ∈ items, Marks w n x) :
    Calls Tryd.prog 15 #[.agg #[.int .i64 k, .string t, .int .i64 a, .int .u64 f, .string s, .int .i64 r0, .int .i64 r1, .int .i64 r2, .int .i64 r3, .slice none path.length pc, .slice none items.length ic], .agg #[.int .i64 k, .string t, .int .i64 a, .int .u64 f, .string s, .int .i64 r0, .int .i64 r1, .int .i64 r2, .int .i64 r3, .slice pp' path.length pc', .slice ip' items.length ic']] w fun r w' => r = .returned (.bool true) ∧ Below w.heap.size w w' := by
  have HXI : Hid (MD.ItemsIn w.heap.size w n ⟨⟨k, t, a, f, s, r0, r1, r2, r3, none, path, pc⟩, none, ic, items⟩) := hx.items
  have HYI : Hid (MD.ItemsIn w.heap.size w n ⟨⟨k, t, a, f, s, r0, r1, r2, r3, pp', path, pc'⟩, ip', ic', items'⟩) := hy.items
  have hxl := hx.len
  have hxf := hx.fine
  have HL : Hid (items.length = items'.length ∧ all2 (MD.same n) items' items = true ∧ ∀ x ∈ items, Marks w n x) := ⟨hil, hs, hm⟩
  have HI : Hid (KeptC n) := hI
  have hl1 : items.length ≤ 9223372036854775807 := by have := hxl.1; have := hxl.2; unfold maxLen at *; simp at *; omega
  have hl2 : path.length ≤ 9223372036854775807 := by have := hxf.pl; have := hxf.pm; unfold maxLen at *; simp at *; omega
  have HSM : Hid (∀ W, Below w.heap.size w W → Calls Tryd.prog 18 #[.agg #[.int .i64 k, .string t, .int .i64 a, .int .u64 f, .string s, .int .i64 r0, .int .i64 r1, .int .i64 r2, .int .i64 r3, .slice none path.length pc, .slice none 0 0], .agg #[.int .i64 k, .string t, .int .i64 a, .int .u64 f, .string s, .int .i64 r0, .int .i64 r1, .int .i64 r2, .int .i64 r3, .slice pp' path.length pc', .slice none 0 0]] W fun r w' => r = .returned (.bool true) ∧ Below W.heap.size W w') := fun W hW => by
    have hx1 := hx.later (Nat.le_refl _) hW
    have hy1 := hy.later (Nat.le_refl _) hW
    have h := refSame_any (n + 1) ⟨⟨k, t, a, f, s, r0, r1, r2, r3, none, path, pc⟩, none, 0, []⟩ ⟨⟨k, t, a, f, s, r0, r1, r2, r3, pp', path, pc'⟩, none, 0, []⟩ W ⟨hx1.fine, hx1.path, Nat.le_refl _, Nat.zero_le _, .inl rfl⟩ ⟨hy1.fine, hy1.path, Nat.le_refl _, Nat.zero_le _, .inl rfl⟩
    have e : MD.same (n + 1) ⟨⟨k, t, a, f, s, r0, r1, r2, r3, none, path, pc⟩, none, 0, []⟩ ⟨⟨k, t, a, f, s, r0, r1, r2, r3, pp', path, pc'⟩, none, 0, []⟩ = true := by
      show (sameH _ _ _ _ && _ && _) = true
      have e1 : sameH ⟨k, t, a, f, s, r0, r1, r2, r3, none, path, pc⟩ ⟨k, t, a, f, s, r0, r1, r2, r3, pp', path, pc'⟩ ([] : List MD).length ([] : List MD).length = true := decide_eq_true ⟨rfl, rfl, rfl, rfl, rfl, rfl, rfl, rfl, rfl, rfl, rfl⟩
      rw [decide_eq_true (show path = path from rfl)]
      exact (by rw [e1]; rfl)
    rw [e] at h
    exact h
  have HIE : Hid (items.length = 0) := by
    rcases HXI.out with e | ⟨b, o, e, _⟩
    · have e' : items = [] := e
      show items.length = 0
      rw [e']; rfl
    · cases e
  clear hx hy hil hs hm hxl hxf hI
  obtain ⟨W2, hW2⟩ : ∃ W2, W2 = (w.alloc (.cells #[.int .i64 k, .string t, .int .i64 a, .int .u64 f, .string s, .int .i64 r0, .int .i64 r1, .int .i64 r2, .int .i64 r3, .slice none path.length pc, .slice none items.length ic] 28)).alloc (.cells #[.int .i64 k, .string t, .int .i64 a, .int .u64 f, .string s, .int .i64 r0, .int .i64 r1, .int .i64 r2, .int .i64 r3, .slice pp' path.length pc', .slice ip' items.length ic'] 28) := ⟨_, rfl⟩
  have HK : Hid (∀ W, Below W2.heap.size W2 W → Below w.heap.size w W ∧ (∀ j, W.cell? ⟨w.heap.size, j, none⟩ = (#[.int .i64 k, .string t, .int .i64 a, .int .u64 f, .string s, .int .i64 r0, .int .i64 r1, .int .i64 r2, .int .i64 r3, .slice none path.length pc, .slice none items.length ic] : Array Value)[j]?) ∧ ∀ j, W.cell? ⟨w.heap.size + 1, j, none⟩ = (#[.int .i64 k, .string t, .int .i64 a, .int .u64 f, .string s, .int .i64 r0, .int .i64 r1, .int .i64 r2, .int .i64 r3, .slice pp' path.length pc', .slice ip' items.length ic'] : Array Value)[j]?) := fun W hW => by rw [hW2] at hW; exact kept2 hW
  have hz2 : W2.heap.size = w.heap.size + 2 := by rw [hW2]; simp
  go_enter Tryd.func15, Tryd.ntmps15
  go_wp2_with fail
  rw [← hW2]
  clear hW2
  go_loopw [7, 8] (fun i _ wr => ∃ j : Nat, j ≤ items.length ∧ i = .int .i64 j ∧ Hid (Below W2.heap.size W2 wr)) (fun i _ _ => items.length - (intOf i).toNat)
  case atStart => exact ⟨0, Nat.zero_le _, rfl, Below.refl _ _⟩
  case round =>
    obtain ⟨j, hj, rfl, HT⟩ := hrel
    have hz := HT.out.size
    have hcA := (HK.out _ HT.out).2.1
    have hcB := (HK.out _ HT.out).2.2
    by_cases hlt : j < items.length
    · have := HIE.out
      omega
    · have i1 : ¬ (j : Int) < items.length := by omega
      have hz0 : w.heap.size < wr.heap.size := by omega
      have hz1 : w.heap.size + 1 < wr.heap.size := by omega
      have HX : Hid (∀ o1 o2, Below w.heap.size w ((wr.alloc o1).alloc o2)) := fun o1 o2 => (HK.out _ HT.out).1.trans ((below2 wr o1 o2).mono (HK.out _ HT.out).1.size)
      clear HI hlt
      go_wp2_with (go_at_call 18; refine (HSM.out _ (HX.out _ _)).mono ?_; rintro r w9 ⟨rfl, b9⟩; have HB9 : Hid (Below w.heap.size w w9) := (HX.out _ _).trans (b9.mono (HX.out _ _).size); clear b9)
      go_ret
      exact ⟨rfl, HB9.out⟩
set_option maxRecDepth 100000 in
set_option maxHeartbeats 8000000 in
theorem kept_ns (n : Nat) (hI : KeptC n) (k : Int) (t : ByteArray) (a f : Int) (s : ByteArray) (r0 r1 r2 r3 : Int) (gp : Nat) (path : List Int) (ic : Nat) (items : List MD) (pp' : Option Addr) (pc' : Nat) (ip' : Option Addr) (ic' : Nat) (items' : List MD) (w : World)
    (hx : MD.In w.heap.size w (n + 1) ⟨⟨k, t, a, f, s, r0, r1, r2, r3, (some ⟨gp, 0, none⟩), path, (path.length + 2)⟩, none, ic, items⟩) (hy : MD.In w.heap.size w (n + 1) ⟨⟨k, t, a, f, s, r0, r1, r2, r3, pp', path, pc'⟩, ip', ic', items'⟩) (hil : items.length = items'.length) (hs : all2 (MD.same n) items' items = true) (hm1 : w.cell? ⟨gp, path.length, none⟩ = some (.int .i64 (-71))) (hm2 : w.cell? ⟨gp, path.length + 1, none⟩ = some (.int .i64 (-72))) (hm : ∀ x ∈ items, Marks w n x) :
    Calls Tryd.prog 15 #[.agg #[.int .i64 k, .string t, .int .i64 a, .int .u64 f, .string s, .int .i64 r0, .int .i64 r1, .int .i64 r2, .int .i64 r3, .slice (some ⟨gp, 0, none⟩) path.length (path.length + 2), .slice none items.length ic], .agg #[.int .i64 k, .string t, .int .i64 a, .int .u64 f, .string s, .int .i64 r0, .int .i64 r1, .int .i64 r2, .int .i64 r3, .slice pp' path.length pc', .slice ip' items.length ic']] w fun r w' => r = .returned (.bool true) ∧ Below w.heap.size w w' := by
  have HXI : Hid (MD.ItemsIn w.heap.size w n ⟨⟨k, t, a, f, s, r0, r1, r2, r3, (some ⟨gp, 0, none⟩), path, (path.length + 2)⟩, none, ic, items⟩) := hx.items
  have HYI : Hid (MD.ItemsIn w.heap.size w n ⟨⟨k, t, a, f, s, r0, r1, r2, r3, pp', path, pc'⟩, ip', ic', items'⟩) := hy.items
  have hxl := hx.len
  have hxf := hx.fine
  have HL : Hid (items.length = items'.length ∧ all2 (MD.same n) items' items = true ∧ ∀ x ∈ items, Marks w n x) := ⟨hil, hs, hm⟩
  have HI : Hid (KeptC n) := hI
  have hl1 : items.length ≤ 9223372036854775807 := by have := hxl.1; have := hxl.2; unfold maxLen at *; simp at *; omega
  have hl2 : path.length + 2 ≤ 9223372036854775807 := by have := hxf.pl; have := hxf.pm; unfold maxLen at *; simp at *; omega
  have HSM : Hid (∀ W, Below w.heap.size w W → Calls Tryd.prog 18 #[.agg #[.int .i64 k, .string t, .int .i64 a, .int .u64 f, .string s, .int .i64 r0, .int .i64 r1, .int .i64 r2, .int .i64 r3, .slice (some ⟨gp, 0, none⟩) path.length (path.length + 2), .slice none 0 0], .agg #[.int .i64 k, .string t, .int .i64 a, .int .u64 f, .string s, .int .i64 r0, .int .i64 r1, .int .i64 r2, .int .i64 r3, .slice pp' path.length pc', .slice none 0 0]] W fun r w' => r = .returned (.bool true) ∧ Below W.heap.size W w') := fun W hW => by
    have hx1 := hx.later (Nat.le_refl _) hW
    have hy1 := hy.later (Nat.le_refl _) hW
    have h := refSame_any (n + 1) ⟨⟨k, t, a, f, s, r0, r1, r2, r3, (some ⟨gp, 0, none⟩), path, (path.length + 2)⟩, none, 0, []⟩ ⟨⟨k, t, a, f, s, r0, r1, r2, r3, pp', path, pc'⟩, none, 0, []⟩ W ⟨hx1.fine, hx1.path, Nat.le_refl _, Nat.zero_le _, .inl rfl⟩ ⟨hy1.fine, hy1.path, Nat.le_refl _, Nat.zero_le _, .inl rfl⟩
    have e : MD.same (n + 1) ⟨⟨k, t, a, f, s, r0, r1, r2, r3, (some ⟨gp, 0, none⟩), path, (path.length + 2)⟩, none, 0, []⟩ ⟨⟨k, t, a, f, s, r0, r1, r2, r3, pp', path, pc'⟩, none, 0, []⟩ = true := by
      show (sameH _ _ _ _ && _ && _) = true
      have e1 : sameH ⟨k, t, a, f, s, r0, r1, r2, r3, (some ⟨gp, 0, none⟩), path, (path.length + 2)⟩ ⟨k, t, a, f, s, r0, r1, r2, r3, pp', path, pc'⟩ ([] : List MD).length ([] : List MD).length = true := decide_eq_true ⟨rfl, rfl, rfl, rfl, rfl, rfl, rfl, rfl, rfl, rfl, rfl⟩
      rw [decide_eq_true (show path = path from rfl)]
      exact (by rw [e1]; rfl)
    rw [e] at h
    exact h
  have HIE : Hid (items.length = 0) := by
    rcases HXI.out with e | ⟨b, o, e, _⟩
    · have e' : items = [] := e
      show items.length = 0
      rw [e']; rfl
    · cases e
  have hpw : gp < w.heap.size := block_of_cell hm1
  clear hx hy hil hs hm hxl hxf hI
  obtain ⟨W2, hW2⟩ : ∃ W2, W2 = (w.alloc (.cells #[.int .i64 k, .string t, .int .i64 a, .int .u64 f, .string s, .int .i64 r0, .int .i64 r1, .int .i64 r2, .int .i64 r3, .slice (some ⟨gp, 0, none⟩) path.length (path.length + 2), .slice none items.length ic] 28)).alloc (.cells #[.int .i64 k, .string t, .int .i64 a, .int .u64 f, .string s, .int .i64 r0, .int .i64 r1, .int .i64 r2, .int .i64 r3, .slice pp' path.length pc', .slice ip' items.length ic'] 28) := ⟨_, rfl⟩
  have HK : Hid (∀ W, Below W2.heap.size W2 W → Below w.heap.size w W ∧ (∀ j, W.cell? ⟨w.heap.size, j, none⟩ = (#[.int .i64 k, .string t, .int .i64 a, .int .u64 f, .string s, .int .i64 r0, .int .i64 r1, .int .i64 r2, .int .i64 r3, .slice (some ⟨gp, 0, none⟩) path.length (path.length + 2), .slice none items.length ic] : Array Value)[j]?) ∧ ∀ j, W.cell? ⟨w.heap.size + 1, j, none⟩ = (#[.int .i64 k, .string t, .int .i64 a, .int .u64 f, .string s, .int .i64 r0, .int .i64 r1, .int .i64 r2, .int .i64 r3, .slice pp' path.length pc', .slice ip' items.length ic'] : Array Value)[j]?) := fun W hW => by rw [hW2] at hW; exact kept2 hW
  have hz2 : W2.heap.size = w.heap.size + 2 := by rw [hW2]; simp
  go_enter Tryd.func15, Tryd.ntmps15
  go_wp2_with fail
  rw [← hW2]
  clear hW2
  go_loopw [7, 8] (fun i _ wr => ∃ j : Nat, j ≤ items.length ∧ i = .int .i64 j ∧ Hid (Below W2.heap.size W2 wr)) (fun i _ _ => items.length - (intOf i).toNat)
  case atStart => exact ⟨0, Nat.zero_le _, rfl, Below.refl _ _⟩
  case round =>
    obtain ⟨j, hj, rfl, HT⟩ := hrel
    have hz := HT.out.size
    have hcA := (HK.out _ HT.out).2.1
    have hcB := (HK.out _ HT.out).2.2
    by_cases hlt : j < items.length
    · have := HIE.out
      omega
    · have i1 : ¬ (j : Int) < items.length := by omega
      have hz0 : w.heap.size < wr.heap.size := by omega
      have hz1 : w.heap.size + 1 < wr.heap.size := by omega
      have HX : Hid (∀ o1 o2, Below w.heap.size w ((wr.alloc o1).alloc o2)) := fun o1 o2 => (HK.out _ HT.out).1.trans ((below2 wr o1 o2).mono (HK.out _ HT.out).1.size)
      clear HI hlt
      go_wp2_with (go_at_call 18; refine (HSM.out _ (HX.out _ _)).mono ?_; rintro r w9 ⟨rfl, b9⟩; have HB9 : Hid (Below w.heap.size w w9) := (HX.out _ _).trans (b9.mono (HX.out _ _).size); clear b9)
      go_ret
      exact ⟨rfl, HB9.out⟩
set_option maxRecDepth 100000 in
set_option maxHeartbeats 8000000 in
theorem kept_sn (n : Nat) (hI : KeptC n) (k : Int) (t : ByteArray) (a f : Int) (s : ByteArray) (r0 r1 r2 r3 : Int) (path : List Int) (pc : Nat) (g : Nat) (items : List MD) (pp' : Option Addr) (pc' : Nat) (ip' : Option Addr) (ic' : Nat) (items' : List MD) (w : World)
    (hx : MD.In w.heap.size w (n + 1) ⟨⟨k, t, a, f, s, r0, r1, r2, r3, none, path, pc⟩, (some ⟨g, 0, none⟩), (items.length + 2), items⟩) (hy : MD.In w.heap.size w (n + 1) ⟨⟨k, t, a, f, s, r0, r1, r2, r3, pp', path, pc'⟩, ip', ic', items'⟩) (hil : items.length = items'.length) (hs : all2 (MD.same n) items' items = true) (hm3 : w.cell? ⟨g, items.length * 11, none⟩ = some (.int .i64 (-71))) (hm4 : w.cell? ⟨g, (items.length + 1) * 11, none⟩ = some (.int .i64 (-72))) (hm : ∀ x ∈ items, Marks w n x) :
    Calls Tryd.prog 15 #[.agg #[.int .i64 k, .string t, .int .i64 a, .int .u64 f, .string s, .int .i64 r0, .int .i64 r1, .int .i64 r2, .int .i64 r3, .slice none path.length pc, .slice (some ⟨g, 0, none⟩) items.length (items.length + 2)], .agg #[.int .i64 k, .string t, .int .i64 a, .int .u64 f, .string s, .int .i64 r0, .int .i64 r1, .int .i64 r2, .int .i64 r3, .slice pp' path.length pc', .slice ip' items.length ic']] w fun r w' => r = .returned (.bool true) ∧ Below w.heap.size w w' := by
  have HXI : Hid (MD.ItemsIn w.heap.size w n ⟨⟨k, t, a, f, s, r0, r1, r2, r3, none, path, pc⟩, (some ⟨g, 0, none⟩), (items.length + 2), items⟩) := hx.items
  have HYI : Hid (MD.ItemsIn w.heap.size w n ⟨⟨k, t, a, f, s, r0, r1, r2, r3, pp', path, pc'⟩, ip', ic', items'⟩) := hy.items
  have hxl := hx.len
  have hxf := hx.fine
  have HL : Hid (items.length = items'.length ∧ all2 (MD.same n) items' items = true ∧ ∀ x ∈ items, Marks w n x) := ⟨hil, hs, hm⟩
  have HI : Hid (KeptC n) := hI
  have hl1 : items.length + 2 ≤ 9223372036854775807 := by have := hxl.1; have := hxl.2; unfold maxLen at *; simp at *; omega
  have hl2 : path.length ≤ 9223372036854775807 := by have := hxf.pl; have := hxf.pm; unfold maxLen at *; simp at *; omega
  have HSM : Hid (∀ W, Below w.heap.size w W → Calls Tryd.prog 18 #[.agg #[.int .i64 k, .string t, .int .i64 a, .int .u64 f, .string s, .int .i64 r0, .int .i64 r1, .int .i64 r2, .int .i64 r3, .slice none path.length pc, .slice none 0 0], .agg #[.int .i64 k, .string t, .int .i64 a, .int .u64 f, .string s, .int .i64 r0, .int .i64 r1, .int .i64 r2, .int .i64 r3, .slice pp' path.length pc', .slice none 0 0]] W fun r w' => r = .returned (.bool true) ∧ Below W.heap.size W w') := fun W hW => by
    have hx1 := hx.later (Nat.le_refl _) hW
    have hy1 := hy.later (Nat.le_refl _) hW
    have h := refSame_any (n + 1) ⟨⟨k, t, a, f, s, r0, r1, r2, r3, none, path, pc⟩, none, 0, []⟩ ⟨⟨k, t, a, f, s, r0, r1, r2, r3, pp', path, pc'⟩, none, 0, []⟩ W ⟨hx1.fine, hx1.path, Nat.le_refl _, Nat.zero_le _, .inl rfl⟩ ⟨hy1.fine, hy1.path, Nat.le_refl _, Nat.zero_le _, .inl rfl⟩
    have e : MD.same (n + 1) ⟨⟨k, t, a, f, s, r0, r1, r2, r3, none, path, pc⟩, none, 0, []⟩ ⟨⟨k, t, a, f, s, r0, r1, r2, r3, pp', path, pc'⟩, none, 0, []⟩ = true := by
      show (sameH _ _ _ _ && _ && _) = true
      have e1 : sameH ⟨k, t, a, f, s, r0, r1, r2, r3, none, path, pc⟩ ⟨k, t, a, f, s, r0, r1, r2, r3, pp', path, pc'⟩ ([] : List MD).length ([] : List MD).length = true := decide_eq_true ⟨rfl, rfl, rfl, rfl, rfl, rfl, rfl, rfl, rfl, rfl, rfl⟩
      rw [decide_eq_true (show path = path from rfl)]
      exact (by rw [e1]; rfl)
    rw [e] at h
    exact h
  have hgw : g < w.heap.size := block_of_cell hm3
  clear hx hy hil hs hm hxl hxf hI
  obtain ⟨W2, hW2⟩ : ∃ W2, W2 = (w.alloc (.cells #[.int .i64 k, .string t, .int .i64 a, .int .u64 f, .string s, .int .i64 r0, .int .i64 r1, .int .i64 r2, .int .i64 r3, .slice none path.length pc, .slice (some ⟨g, 0, none⟩) items.length (items.length + 2)] 28)).alloc (.cells #[.int .i64 k, .string t, .int .i64 a, .int .u64 f, .string s, .int .i64 r0, .int .i64 r1, .int .i64 r2, .int .i64 r3, .slice pp' path.length pc', .slice ip' items.length ic'] 28) := ⟨_, rfl⟩
  have HK : Hid (∀ W, Below W2.heap.size W2 W → Below w.heap.size w W ∧ (∀ j, W.cell? ⟨w.heap.size, j, none⟩ = (#[.int .i64 k, .string t, .int .i64 a, .int .u64 f, .string s, .int .i64 r0, .int .i64 r1, .int .i64 r2, .int .i64 r3, .slice none path.length pc, .slice (some ⟨g, 0, none⟩) items.length (items.length + 2)] : Array Value)[j]?) ∧ ∀ j, W.cell? ⟨w.heap.size + 1, j, none⟩ = (#[.int .i64 k, .string t, .int .i64 a, .int .u64 f, .string s, .int .i64 r0, .int .i64 r1, .int .i64 r2, .int .i64 r3, .slice pp' path.length pc', .slice ip' items.length ic'] : Array Value)[j]?) := fun W hW => by rw [hW2] at hW; exact kept2 hW
  have hz2 : W2.heap.size = w.heap.size + 2 := by rw [hW2]; simp
  go_enter Tryd.func15, Tryd.ntmps15
  go_wp2_with fail
  rw [← hW2]
  clear hW2
  go_loopw [7, 8] (fun i _ wr => ∃ j : Nat, j ≤ items.length ∧ i = .int .i64 j ∧ Hid (Below W2.heap.size W2 wr)) (fun i _ _ => items.length - (intOf i).toNat)
  case atStart => exact ⟨0, Nat.zero_le _, rfl, Below.refl _ _⟩
  case round =>
    obtain ⟨j, hj, rfl, HT⟩ := hrel
    have hz := HT.out.size
    have hcA := (HK.out _ HT.out).2.1
    have hcB := (HK.out _ HT.out).2.2
    by_cases hlt : j < items.length
    · have i1 : (j : Int) < items.length := by omega
      have hlt' : j < items'.length := HL.out.1 ▸ hlt
      obtain ⟨hC, hIn⟩ : MD.CellsAt wr g (j * 11) items[j] ∧ MD.In w.heap.size wr n items[j] := by
        rcases MD.ItemsIn.below HXI.out (HK.out _ HT.out).1 with e | ⟨bb, o, e1, e2, e3⟩
        · have e' : items = [] := e
          rw [e'] at hlt; simp at hlt
        · have e1' : some (⟨g, 0, none⟩ : Addr) = some ⟨bb, o, none⟩ := e1
          cases e1'
          have := e3 j hlt
          rwa [Nat.zero_add] at this
      obtain ⟨bc, p, rfl, hbB', hC', hIn'⟩ : ∃ bb o, ip' = some ⟨bb, o, none⟩ ∧ bb < w.heap.size ∧ MD.CellsAt wr bb (o + j * 11) items'[j] ∧ MD.In w.heap.size wr n items'[j] := by
        rcases MD.ItemsIn.below HYI.out (HK.out _ HT.out).1 with e | ⟨bb, o, e1, e2, e3⟩
        · have e' : items' = [] := e
          rw [e'] at hlt'; simp at hlt'
        · exact ⟨bb, o, e1, e2, e3 j hlt'⟩
      have HM : Hid (MD.same n items'[j] items[j] = true ∧ Marks wr n items[j]) := ⟨all2_get _ _ _ j hlt' hlt HL.out.2.1, (HL.out.2.2 _ (List.getElem_mem hlt)).later (HK.out _ HT.out).1⟩
      generalize items[j] = kid at hC hIn HM
      generalize items'[j] = lid at hC' hIn' HM
      obtain ⟨⟨k0, k1, k2, k3, k4, k5, k6, k7, k8, kp, kpath, kpc⟩, kip, kic, kit⟩ := kid
      obtain ⟨⟨l0, l1, l2, l3, l4, l5, l6, l7, l8, lp, lpath, lpc⟩, lip, lic, lit⟩ := lid
      have HC : Hid (∀ W, Below wr.heap.size wr W → Calls Tryd.prog 15 #[.agg #[.int .i64 k0, .string k1, .int .i64 k2, .int .u64 k3, .string k4, .int .i64 k5, .int .i64 k6, .int .i64 k7, .int .i64 k8, .slice kp kpath.length kpc, .slice kip kit.length kic], .agg #[.int .i64 l0, .string l1, .int .i64 l2, .int .u64 l3, .string l4, .int .i64 l5, .int .i64 l6, .int .i64 l7, .int .i64 l8, .slice lp lpath.length lpc, .slice lip lit.length lic]] W fun r w' => r = .returned (.bool true) ∧ Below wr.heap.size wr w') := fun W hW =>
        (HI.out ⟨⟨k0, k1, k2, k3, k4, k5, k6, k7, k8, kp, kpath, kpc⟩, kip, kic, kit⟩ ⟨⟨l0, l1, l2, l3, l4, l5, l6, l7, l8, lp, lpath, lpc⟩, lip, lic, lit⟩ W (hIn.later (by omega) hW) (hIn'.later (by omega) hW) HM.out.1 (HM.out.2.later hW)).mono fun _ _ h => ⟨h.1, hW.trans (h.2.mono hW.size)⟩
      have HK2 : Hid (∀ W, Below wr.heap.size wr W → (∀ i, W.cell? ⟨w.heap.size, i, none⟩ = (#[.int .i64 k, .string t, .int .i64 a, .int .u64 f, .string s, .int .i64 r0, .int .i64 r1, .int .i64 r2, .int .i64 r3, .slice none path.length pc, .slice (some ⟨g, 0, none⟩) items.length (items.length + 2)] : Array Value)[i]?) ∧ (∀ i, W.cell? ⟨w.heap.size + 1, i, none⟩ = (#[.int .i64 k, .string t, .int .i64 a, .int .u64 f, .string s, .int .i64 r0, .int .i64 r1, .int .i64 r2, .int .i64 r3, .slice pp' path.length pc', .slice (some ⟨bc, p, none⟩) items.length ic'] : Array Value)[i]?) ∧ (∀ i, i < 11 → W.cell? ⟨g, j * 11 + i, none⟩ = (#[.int .i64 k0, .string k1, .int .i64 k2, .int .u64 k3, .string k4, .int .i64 k5, .int .i64 k6, .int .i64 k7, .int .i64 k8, .slice kp kpath.length kpc, .slice kip kit.length kic] : Array Value)[i]?) ∧ (∀ i, i < 11 → W.cell? ⟨bc, p + j * 11 + i, none⟩ = (#[.int .i64 l0, .string l1, .int .i64 l2, .int .u64 l3, .string l4, .int .i64 l5, .int .i64 l6, .int .i64 l7, .int .i64 l8, .slice lp lpath.length lpc, .slice lip lit.length lic] : Array Value)[i]?)) := fun W hW =>
        ⟨fun i => (hW.cell (p := ⟨w.heap.size, i, none⟩) (by show w.heap.size < _; omega)).trans (hcA i), fun i => (hW.cell (p := ⟨w.heap.size + 1, i, none⟩) (by show w.heap.size + 1 < _; omega)).trans (hcB i),
         fun i hi => (hW.cell (p := ⟨g, j * 11 + i, none⟩) (by show g < _; omega)).trans (hC i hi), fun i hi => (hW.cell (p := ⟨bc, p + j * 11 + i, none⟩) (by show bc < _; omega)).trans (hC' i hi)⟩
      clear hC hC' hIn hIn' HI HM
      go_wp2_with fail
      refine wp_region_noPanic ?_
      refine wp_region_held (S := fun W => (∀ i, W.cell? ⟨w.heap.size, i, none⟩ = (#[.int .i64 k, .string t, .int .i64 a, .int .u64 f, .string s, .int .i64 r0, .int .i64 r1, .int .i64 r2, .int .i64 r3, .slice none path.length pc, .slice (some ⟨g, 0, none⟩) items.length (items.length + 2)] : Array Value)[i]?) ∧ (∀ i, W.cell? ⟨w.heap.size + 1, i, none⟩ = (#[.int .i64 k, .string t, .int .i64 a, .int .u64 f, .string s, .int .i64 r0, .int .i64 r1, .int .i64 r2, .int .i64 r3, .slice pp' path.length pc', .slice (some ⟨bc, p, none⟩) items.length ic'] : Array Value)[i]?) ∧ (∀ i, i < 11 → W.cell? ⟨g, j * 11 + i, none⟩ = (#[.int .i64 k0, .string k1, .int .i64 k2, .int .u64 k3, .string k4, .int .i64 k5, .int .i64 k6, .int .i64 k7, .int .i64 k8, .slice kp kpath.length kpc, .slice kip kit.length kic] : Array Value)[i]?) ∧ (∀ i, i < 11 → W.cell? ⟨bc, p + j * 11 + i, none⟩ = (#[.int .i64 l0, .string l1, .int .i64 l2, .int .u64 l3, .string l4, .int .i64 l5, .int .i64 l6, .int .i64 l7, .int .i64 l8, .slice lp lpath.length lpc, .slice lip lit.length lic] : Array Value)[i]?)) (by kernel_rfl) ?_
      obtain ⟨W4, hW4⟩ : ∃ W4, W4 = wr.drew := ⟨_, rfl⟩
      have e4 : ({ wr with drawn := wr.drawn + 1 } : World) = W4 := hW4.symm
      rw [e4]
      have hB4 : Below wr.heap.size wr W4 := by rw [hW4]; exact (Below.refl _ _).drew
      have hS := HK2.out W4 hB4
      clear e4 hW4
      refine wpAnyH_take (i := 0) (v := .pointer (some ⟨w.heap.size, 10, none⟩)) rfl (by kernel_rfl) (by kernel_rfl) (by kernel_rfl) (fun _ _ _ h => h) (Or.inl ⟨by rfl, ?r⟩) hS ?_
      case r => intro W hW; simp [go_sem, execOp, Act.eval]
      simp only [List.getElem_toArray, List.getElem_cons_zero, Act.put, List.setIfInBounds_toArray, List.set_cons_succ, List.set_cons_zero]
      refine wpAnyH_take (i := 1) (v := .slice (some ⟨g, 0, none⟩) items.length (items.length + 2)) rfl (by kernel_rfl) (by kernel_rfl) (by kernel_rfl) (fun _ _ _ h => h) (Or.inl ⟨by rfl, ?r⟩) hS ?_
      case r => intro W hW; simp [go_sem, execOp, Act.eval, hW.1]
      simp only [List.getElem_toArray, List.getElem_cons_zero, List.getElem_cons_succ, Act.put, List.setIfInBounds_toArray, List.set_cons_succ, List.set_cons_zero]
      refine wpAnyH_take (i := 2) (v := .int .i64 j) rfl (by kernel_rfl) (by kernel_rfl) (by kernel_rfl) (fun _ _ _ h => h) (Or.inl ⟨by rfl, ?r⟩) hS ?_
      case r => intro W hW; simp [go_sem, execOp, Act.eval]
      simp only [List.getElem_toArray, List.getElem_cons_zero, List.getElem_cons_succ, Act.put, List.setIfInBounds_toArray, List.set_cons_succ, List.set_cons_zero]
      refine wpAnyH_take (i := 3) (v := .pointer (some ⟨g, j * 11, none⟩)) rfl (by kernel_rfl) (by kernel_rfl) (by kernel_rfl) (fun _ _ _ h => h) (Or.inl ⟨by rfl, ?r⟩) hS ?_
      case r => intro W hW; simp [go_sem, execOp, Act.eval, i1]
      simp only [List.getElem_toArray, List.getElem_cons_zero, List.getElem_cons_succ, Act.put, List.setIfInBounds_toArray, List.set_cons_succ, List.set_cons_zero]
      refine wpAnyH_take (i := 4) (v := .agg #[.int .i64 k0, .string k1, .int .i64 k2, .int .u64 k3, .string k4, .int .i64 k5, .int .i64 k6, .int .i64 k7, .int .i64 k8, .slice kp kpath.length kpc, .slice kip kit.length kic]) rfl (by kernel_rfl) (by kernel_rfl) (by kernel_rfl) (fun _ _ _ h => h) (Or.inl ⟨by rfl, ?r⟩) hS ?_
      case r => intro W hW; have e0 : W.cell? ⟨g, j * 11, none⟩ = some (.int .i64 k0) := hW.2.2.1 0 (by omega); have e1 : W.cell? ⟨g, j * 11 + 1, none⟩ = some (.string k1) := hW.2.2.1 1 (by omega); have e2 : W.cell? ⟨g, j * 11 + 2, none⟩ = some (.int .i64 k2) := hW.2.2.1 2 (by omega); have e3 : W.cell? ⟨g, j * 11 + 3, none⟩ = some (.int .u64 k3) := hW.2.2.1 3 (by omega); have e4 : W.cell? ⟨g, j * 11 + 4, none⟩ = some (.string k4) := hW.2.2.1 4 (by omega); have e5 : W.cell? ⟨g, j * 11 + 5, none⟩ = some (.int .i64 k5) := hW.2.2.1 5 (by omega); have e6 : W.cell? ⟨g, j * 11 + 6, none⟩ = some (.int .i64 k6) := hW.2.2.1 6 (by omega); have e7 : W.cell? ⟨g, j * 11 + 7, none⟩ = some (.int .i64 k7) := hW.2.2.1 7 (by omega); have e8 : W.cell? ⟨g, j * 11 + 8, none⟩ = some (.int .i64 k8) := hW.2.2.1 8 (by omega); have e9 : W.cell? ⟨g, j * 11 + 9, none⟩ = some (.slice kp kpath.length kpc) := hW.2.2.1 9 (by omega); have e10 : W.cell? ⟨g, j * 11 + 10, none⟩ = some (.slice kip kit.length kic) := hW.2.2.1 10 (by omega); simp [go_sem, execOp, Act.eval, e0, e1, e2, e3, e4, e5, e6, e7, e8, e9, e10]
      simp only [List.getElem_toArray, List.getElem_cons_zero, List.getElem_cons_succ, Act.put, List.setIfInBounds_toArray, List.set_cons_succ, List.set_cons_zero]
      refine wpAnyH_take (i := 5) (v := .pointer (some ⟨w.heap.size + 1, 10, none⟩)) rfl (by kernel_rfl) (by kernel_rfl) (by kernel_rfl) (fun _ _ _ h => h) (Or.inl ⟨by rfl, ?r⟩) hS ?_
      case r => intro W hW; simp [go_sem, execOp, Act.eval]
      simp only [List.getElem_toArray, List.getElem_cons_zero, List.getElem_cons_succ, Act.put, List.setIfInBounds_toArray, List.set_cons_succ, List.set_cons_zero]
      refine wpAnyH_take (i := 6) (v := .slice (some ⟨bc, p, none⟩) items.length ic') rfl (by kernel_rfl) (by kernel_rfl) (by kernel_rfl) (fun _ _ _ h => h) (Or.inl ⟨by rfl, ?r⟩) hS ?_
      case r => intro W hW; simp [go_sem, execOp, Act.eval, hW.2.1]
      simp only [List.getElem_toArray, List.getElem_cons_zero, List.getElem_cons_succ, Act.put, List.setIfInBounds_toArray, List.set_cons_succ, List.set_cons_zero]
      refine wpAnyH_take (i := 7) (v := .int .i64 j) rfl (by kernel_rfl) (by kernel_rfl) (by kernel_rfl) (fun _ _ _ h => h) (Or.inl ⟨by rfl, ?r⟩) hS ?_
      case r => intro W hW; simp [go_sem, execOp, Act.eval]
      simp only [List.getElem_toArray, List.getElem_cons_zero, List.getElem_cons_succ, Act.put, List.setIfInBounds_toArray, List.set_cons_succ, List.set_cons_zero]
      refine wpAnyH_take (i := 8) (v := .pointer (some ⟨bc, p + j * 11, none⟩)) rfl (by kernel_rfl) (by kernel_rfl) (by kernel_rfl) (fun _ _ _ h => h) (Or.inl ⟨by rfl, ?r⟩) hS ?_
      case r => intro W hW; simp [go_sem, execOp, Act.eval, i1]
      simp only [List.getElem_toArray, List.getElem_cons_zero, List.getElem_cons_succ, Act.put, List.setIfInBounds_toArray, List.set_cons_succ, List.set_cons_zero]
      refine wpAnyH_take (i := 9) (v := .agg #[.int .i64 l0, .string l1, .int .i64 l2, .int .u64 l3, .string l4, .int .i64 l5, .int .i64 l6, .int .i64 l7, .int .i64 l8, .slice lp lpath.length lpc, .slice lip lit.length lic]) rfl (by kernel_rfl) (by kernel_rfl) (by kernel_rfl) (fun _ _ _ h => h) (Or.inl ⟨by rfl, ?r⟩) hS ?_
      case r => intro W hW; have e0 : W.cell? ⟨bc, p + j * 11, none⟩ = some (.int .i64 l0) := hW.2.2.2 0 (by omega); have e1 : W.cell? ⟨bc, p + j * 11 + 1, none⟩ = some (.string l1) := hW.2.2.2 1 (by omega); have e2 : W.cell? ⟨bc, p + j * 11 + 2, none⟩ = some (.int .i64 l2) := hW.2.2.2 2 (by omega); have e3 : W.cell? ⟨bc, p + j * 11 + 3, none⟩ = some (.int .u64 l3) := hW.2.2.2 3 (by omega); have e4 : W.cell? ⟨bc, p + j * 11 + 4, none⟩ = some (.string l4) := hW.2.2.2 4 (by omega); have e5 : W.cell? ⟨bc, p + j * 11 + 5, none⟩ = some (.int .i64 l5) := hW.2.2.2 5 (by omega); have e6 : W.cell? ⟨bc, p + j * 11 + 6, none⟩ = some (.int .i64 l6) := hW.2.2.2 6 (by omega); have e7 : W.cell? ⟨bc, p + j * 11 + 7, none⟩ = some (.int .i64 l7) := hW.2.2.2 7 (by omega); have e8 : W.cell? ⟨bc, p + j * 11 + 8, none⟩ = some (.int .i64 l8) := hW.2.2.2 8 (by omega); have e9 : W.cell? ⟨bc, p + j * 11 + 9, none⟩ = some (.slice lp lpath.length lpc) := hW.2.2.2 9 (by omega); have e10 : W.cell? ⟨bc, p + j * 11 + 10, none⟩ = some (.slice lip lit.length lic) := hW.2.2.2 10 (by omega); simp [go_sem, execOp, Act.eval, e0, e1, e2, e3, e4, e5, e6, e7, e8, e9, e10]
      simp only [List.getElem_toArray, List.getElem_cons_zero, List.getElem_cons_succ, Act.put, List.setIfInBounds_toArray, List.set_cons_succ, List.set_cons_zero]
      refine wpAnyH_all (rs := [10]) (by kernel_rfl) (by simp) (fun i2 hi2 => ?_)
      obtain rfl : i2 = 10 := by simpa using hi2
      clear hi2
      refine wpOp_step rfl (fun K hK => ite_yes rfl ?_)
      simp only [List.getElem_toArray, List.getElem_cons_zero, List.getElem_cons_succ]
      go_simp
      refine (HC.out _ hB4).mono ?_
      rintro e w9 ⟨rfl, b9⟩
      go_simp
      refine hK _ _ ⟨HK2.out _ b9, ?_⟩
      clear hK K hS
      have hS := HK2.out _ b9
      refine wpAnyH_take (i := 11) (v := .bool true) rfl (by kernel_rfl) (by kernel_rfl) (by kernel_rfl) (fun _ _ _ h => h) (Or.inl ⟨by rfl, ?r⟩) hS ?_
      case r => intro W hW; simp [go_sem, execOp, Act.eval]
      simp only [List.getElem_toArray, List.getElem_cons_zero, List.getElem_cons_succ, Act.put, List.setIfInBounds_toArray, List.set_cons_succ, List.set_cons_zero]
      refine wpAnyH_done (by kernel_rfl) ?_ _
      refine NoPanic.normal ?_
      try simp only [Act.put]
      have HW : Hid (Below W2.heap.size W2 w9) := HT.out.trans (b9.mono (by omega))
      clear hS HK2 b9 hB4 HC
      go_wp2_with fail
      exact ⟨⟨j + 1, hlt, by go_num, HW⟩, by simp [intOf]; omega⟩
    · have i1 : ¬ (j : Int) < items.length := by omega
      have hz0 : w.heap.size < wr.heap.size := by omega
      have hz1 : w.heap.size + 1 < wr.heap.size := by omega
      have HX : Hid (∀ o1 o2, Below w.heap.size w ((wr.alloc o1).alloc o2)) := fun o1 o2 => (HK.out _ HT.out).1.trans ((below2 wr o1 o2).mono (HK.out _ HT.out).1.size)
      clear HI hlt
      go_wp2_with (go_at_call 18; refine (HSM.out _ (HX.out _ _)).mono ?_; rintro r w9 ⟨rfl, b9⟩; have HB9 : Hid (Below w.heap.size w w9) := (HX.out _ _).trans (b9.mono (HX.out _ _).size); clear b9)
      go_ret
      exact ⟨rfl, HB9.out⟩
set_option maxRecDepth 100000 in
set_option maxHeartbeats 8000000 in
theorem kept_ss (n : Nat) (hI : KeptC n) (k : Int) (t : ByteArray) (a f : Int) (s : ByteArray) (r0 r1 r2 r3 : Int) (gp : Nat) (path : List Int) (g : Nat) (items : List MD) (pp' : Option Addr) (pc' : Nat) (ip' : Option Addr) (ic' : Nat) (items' : List MD) (w : World)
    (hx : MD.In w.heap.size w (n + 1) ⟨⟨k, t, a, f, s, r0, r1, r2, r3, (some ⟨gp, 0, none⟩), path, (path.length + 2)⟩, (some ⟨g, 0, none⟩), (items.length + 2), items⟩) (hy : MD.In w.heap.size w (n + 1) ⟨⟨k, t, a, f, s, r0, r1, r2, r3, pp', path, pc'⟩, ip', ic', items'⟩) (hil : items.length = items'.length) (hs : all2 (MD.same n) items' items = true) (hm1 : w.cell? ⟨gp, path.length, none⟩ = some (.int .i64 (-71))) (hm2 : w.cell? ⟨gp, path.length + 1, none⟩ = some (.int .i64 (-72))) (hm3 : w.cell? ⟨g, items.length * 11, none⟩ = some (.int .i64 (-71))) (hm4 : w.cell? ⟨g, (items.length + 1) * 11, none⟩ = some (.int .i64 (-72))) (hm : ∀ x ∈ items, Marks w n x) :
    Calls Tryd.prog 15 #[.agg #[.int .i64 k, .string t, .int .i64 a, .int .u64 f, .string s, .int .i64 r0, .int .i64 r1, .int .i64 r2, .int .i64 r3, .slice (some ⟨gp, 0, none⟩) path.length (path.length + 2), .slice (some ⟨g, 0, none⟩) items.length (items.length + 2)], .agg #[.int .i64 k, .string t, .int .i64 a, .int .u64 f, .string s, .int .i64 r0, .int .i64 r1, .int .i64 r2, .int .i64 r3, .slice pp' path.length pc', .slice ip' items.length ic']] w fun r w' => r = .returned (.bool true) ∧ Below w.heap.size w w' := by
  have HXI : Hid (MD.ItemsIn w.heap.size w n ⟨⟨k, t, a, f, s, r0, r1, r2, r3, (some ⟨gp, 0, none⟩), path, (path.length + 2)⟩, (some ⟨g, 0, none⟩), (items.length + 2), items⟩) := hx.items
  have HYI : Hid (MD.ItemsIn w.heap.size w n ⟨⟨k, t, a, f, s, r0, r1, r2, r3, pp', path, pc'⟩, ip', ic', items'⟩) := hy.items
  have hxl := hx.len
  have hxf := hx.fine
  have HL : Hid (items.length = items'.length ∧ all2 (MD.same n) items' items = true ∧ ∀ x ∈ items, Marks w n x) := ⟨hil, hs, hm⟩
  have HI : Hid (KeptC n) := hI
  have hl1 : items.length + 2 ≤ 9223372036854775807 := by have := hxl.1; have := hxl.2; unfold maxLen at *; simp at *; omega
  have hl2 : path.length + 2 ≤ 9223372036854775807 := by have := hxf.pl; have := hxf.pm; unfold maxLen at *; simp at *; omega
  have HSM : Hid (∀ W, Below w.heap.size w W → Calls Tryd.prog 18 #[.agg #[.int .i64 k, .string t, .int .i64 a, .int .u64 f, .string s, .int .i64 r0, .int .i64 r1, .int .i64 r2, .int .i64 r3, .slice (some ⟨gp, 0, none⟩) path.length (path.length + 2), .slice none 0 0], .agg #[.int .i64 k, .string t, .int .i64 a, .int .u64 f, .string s, .int .i64 r0, .int .i64 r1, .int .i64 r2, .int .i64 r3, .slice pp' path.length pc', .slice none 0 0]] W fun r w' => r = .returned (.bool true) ∧ Below W.heap.size W w') := fun W hW => by
    have hx1 := hx.later (Nat.le_refl _) hW
    have hy1 := hy.later (Nat.le_refl _) hW
    have h := refSame_any (n + 1) ⟨⟨k, t, a, f, s, r0, r1, r2, r3, (some ⟨gp, 0, none⟩), path, (path.length + 2)⟩, none, 0, []⟩ ⟨⟨k, t, a, f, s, r0, r1, r2, r3, pp', path, pc'⟩, none, 0, []⟩ W ⟨hx1.fine, hx1.path, Nat.le_refl _, Nat.zero_le _, .inl rfl⟩ ⟨hy1.fine, hy1.path, Nat.le_refl _, Nat.zero_le _, .inl rfl⟩
    have e : MD.same (n + 1) ⟨⟨k, t, a, f, s, r0, r1, r2, r3, (some ⟨gp, 0, none⟩), path, (path.length + 2)⟩, none, 0, []⟩ ⟨⟨k, t, a, f, s, r0, r1, r2, r3, pp', path, pc'⟩, none, 0, []⟩ = true := by
      show (sameH _ _ _ _ && _ && _) = true
      have e1 : sameH ⟨k, t, a, f, s, r0, r1, r2, r3, (some ⟨gp, 0, none⟩), path, (path.length + 2)⟩ ⟨k, t, a, f, s, r0, r1, r2, r3, pp', path, pc'⟩ ([] : List MD).length ([] : List MD).length = true := decide_eq_true ⟨rfl, rfl, rfl, rfl, rfl, rfl, rfl, rfl, rfl, rfl, rfl⟩
      rw [decide_eq_true (show path = path from rfl)]
      exact (by rw [e1]; rfl)
    rw [e] at h
    exact h
  have hgw : g < w.heap.size := block_of_cell hm3
  have hpw : gp < w.heap.size := block_of_cell hm1
  clear hx hy hil hs hm hxl hxf hI
  obtain ⟨W2, hW2⟩ : ∃ W2, W2 = (w.alloc (.cells #[.int .i64 k, .string t, .int .i64 a, .int .u64 f, .string s, .int .i64 r0, .int .i64 r1, .int .i64 r2, .int .i64 r3, .slice (some ⟨gp, 0, none⟩) path.length (path.length + 2), .slice (some ⟨g, 0, none⟩) items.length (items.length + 2)] 28)).alloc (.cells #[.int .i64 k, .string t, .int .i64 a, .int .u64 f, .string s, .int .i64 r0, .int .i64 r1, .int .i64 r2, .int .i64 r3, .slice pp' path.length pc', .slice ip' items.length ic'] 28) := ⟨_, rfl⟩
  have HK : Hid (∀ W, Below W2.heap.size W2 W → Below w.heap.size w W ∧ (∀ j, W.cell? ⟨w.heap.size, j, none⟩ = (#[.int .i64 k, .string t, .int .i64 a, .int .u64 f, .string s, .int .i64 r0, .int .i64 r1, .int .i64 r2, .int .i64 r3, .slice (some ⟨gp, 0, none⟩) path.length (path.length + 2), .slice (some ⟨g, 0, none⟩) items.length (items.length + 2)] : Array Value)[j]?) ∧ ∀ j, W.cell? ⟨w.heap.size + 1, j, none⟩ = (#[.int .i64 k, .string t, .int .i64 a, .int .u64 f, .string s, .int .i64 r0, .int .i64 r1, .int .i64 r2, .int .i64 r3, .slice pp' path.length pc', .slice ip' items.length ic'] : Array Value)[j]?) := fun W hW => by rw [hW2] at hW; exact kept2 hW
  have hz2 : W2.heap.size = w.heap.size + 2 := by rw [hW2]; simp
  go_enter Tryd.func15, Tryd.ntmps15
  go_wp2_with fail
  rw [← hW2]
  clear hW2
  go_loopw [7, 8] (fun i _ wr => ∃ j : Nat, j ≤ items.length ∧ i = .int .i64 j ∧ Hid (Below W2.heap.size W2 wr)) (fun i _ _ => items.length - (intOf i).toNat)
  case atStart => exact ⟨0, Nat.zero_le _, rfl, Below.refl _ _⟩
  case round =>
    obtain ⟨j, hj, rfl, HT⟩ := hrel
    have hz := HT.out.size
    have hcA := (HK.out _ HT.out).2.1
    have hcB := (HK.out _ HT.out).2.2
    by_cases hlt : j < items.length
    · have i1 : (j : Int) < items.length := by omega
      have hlt' : j < items'.length := HL.out.1 ▸ hlt
      obtain ⟨hC, hIn⟩ : MD.CellsAt wr g (j * 11) items[j] ∧ MD.In w.heap.size wr n items[j] := by
        rcases MD.ItemsIn.below HXI.out (HK.out _ HT.out).1 with e | ⟨bb, o, e1, e2, e3⟩
        · have e' : items = [] := e
          rw [e'] at hlt; simp at hlt
        · have e1' : some (⟨g, 0, none⟩ : Addr) = some ⟨bb, o, none⟩ := e1
          cases e1'
          have := e3 j hlt
          rwa [Nat.zero_add] at this
      obtain ⟨bc, p, rfl, hbB', hC', hIn'⟩ : ∃ bb o, ip' = some ⟨bb, o, none⟩ ∧ bb < w.heap.size ∧ MD.CellsAt wr bb (o + j * 11) items'[j] ∧ MD.In w.heap.size wr n items'[j] := by
        rcases MD.ItemsIn.below HYI.out (HK.out _ HT.out).1 with e | ⟨bb, o, e1, e2, e3⟩
        · have e' : items' = [] := e
          rw [e'] at hlt'; simp at hlt'
        · exact ⟨bb, o, e1, e2, e3 j hlt'⟩
      have HM : Hid (MD.same n items'[j] items[j] = true ∧ Marks wr n items[j]) := ⟨all2_get _ _ _ j hlt' hlt HL.out.2.1, (HL.out.2.2 _ (List.getElem_mem hlt)).later (HK.out _ HT.out).1⟩
      generalize items[j] = kid at hC hIn HM
      generalize items'[j] = lid at hC' hIn' HM
      obtain ⟨⟨k0, k1, k2, k3, k4, k5, k6, k7, k8, kp, kpath, kpc⟩, kip, kic, kit⟩ := kid
      obtain ⟨⟨l0, l1, l2, l3, l4, l5, l6, l7, l8, lp, lpath, lpc⟩, lip, lic, lit⟩ := lid
      have HC : Hid (∀ W, Below wr.heap.size wr W → Calls Tryd.prog 15 #[.agg #[.int .i64 k0, .string k1, .int .i64 k2, .int .u64 k3, .string k4, .int .i64 k5, .int .i64 k6, .int .i64 k7, .int .i64 k8, .slice kp kpath.length kpc, .slice kip kit.length kic], .agg #[.int .i64 l0, .string l1, .int .i64 l2, .int .u64 l3, .string l4, .int .i64 l5, .int .i64 l6, .int .i64 l7, .int .i64 l8, .slice lp lpath.length lpc, .slice lip lit.length lic]] W fun r w' => r = .returned (.bool true) ∧ Below wr.heap.size wr w') := fun W hW =>
        (HI.out ⟨⟨k0, k1, k2, k3, k4, k5, k6, k7, k8, kp, kpath, kpc⟩, kip, kic, kit⟩ ⟨⟨l0, l1, l2, l3, l4, l5, l6, l7, l8, lp, lpath, lpc⟩, lip, lic, lit⟩ W (hIn.later (by omega) hW) (hIn'.later (by omega) hW) HM.out.1 (HM.out.2.later hW)).mono fun _ _ h => ⟨h.1, hW.trans (h.2.mono hW.size)⟩
      have HK2 : Hid (∀ W, Below wr.heap.size wr W → (∀ i, W.cell? ⟨w.heap.size, i, none⟩ = (#[.int .i64 k, .string t, .int .i64 a, .int .u64 f, .string s, .int .i64 r0, .int .i64 r1, .int .i64 r2, .int .i64 r3, .slice (some ⟨gp, 0, none⟩) path.length (path.length + 2), .slice (some ⟨g, 0, none⟩) items.length (items.length + 2)] : Array Value)[i]?) ∧ (∀ i, W.cell? ⟨w.heap.size + 1, i, none⟩ = (#[.int .i64 k, .string t, .int .i64 a, .int .u64 f, .string s, .int .i64 r0, .int .i64 r1, .int .i64 r2, .int .i64 r3, .slice pp' path.length pc', .slice (some ⟨bc, p, none⟩) items.length ic'] : Array Value)[i]?) ∧ (∀ i, i < 11 → W.cell? ⟨g, j * 11 + i, none⟩ = (#[.int .i64 k0, .string k1, .int .i64 k2, .int .u64 k3, .string k4, .int .i64 k5, .int .i64 k6, .int .i64 k7, .int .i64 k8, .slice kp kpath.length kpc, .slice kip kit.length kic] : Array Value)[i]?) ∧ (∀ i, i < 11 → W.cell? ⟨bc, p + j * 11 + i, none⟩ = (#[.int .i64 l0, .string l1, .int .i64 l2, .int .u64 l3, .string l4, .int .i64 l5, .int .i64 l6, .int .i64 l7, .int .i64 l8, .slice lp lpath.length lpc, .slice lip lit.length lic] : Array Value)[i]?)) := fun W hW =>
        ⟨fun i => (hW.cell (p := ⟨w.heap.size, i, none⟩) (by show w.heap.size < _; omega)).trans (hcA i), fun i => (hW.cell (p := ⟨w.heap.size + 1, i, none⟩) (by show w.heap.size + 1 < _; omega)).trans (hcB i),
         fun i hi => (hW.cell (p := ⟨g, j * 11 + i, none⟩) (by show g < _; omega)).trans (hC i hi), fun i hi => (hW.cell (p := ⟨bc, p + j * 11 + i, none⟩) (by show bc < _; omega)).trans (hC' i hi)⟩
      clear hC hC' hIn hIn' HI HM
      go_wp2_with fail
      refine wp_region_noPanic ?_
      refine wp_region_held (S := fun W => (∀ i, W.cell? ⟨w.heap.size, i, none⟩ = (#[.int .i64 k, .string t, .int .i64 a, .int .u64 f, .string s, .int .i64 r0, .int .i64 r1, .int .i64 r2, .int .i64 r3, .slice (some ⟨gp, 0, none⟩) path.length (path.length + 2), .slice (some ⟨g, 0, none⟩) items.length (items.length + 2)] : Array Value)[i]?) ∧ (∀ i, W.cell? ⟨w.heap.size + 1, i, none⟩ = (#[.int .i64 k, .string t, .int .i64 a, .int .u64 f, .string s, .int .i64 r0, .int .i64 r1, .int .i64 r2, .int .i64 r3, .slice pp' path.length pc', .slice (some ⟨bc, p, none⟩) items.length ic'] : Array Value)[i]?) ∧ (∀ i, i < 11 → W.cell? ⟨g, j * 11 + i, none⟩ = (#[.int .i64 k0, .string k1, .int .i64 k2, .int .u64 k3, .string k4, .int .i64 k5, .int .i64 k6, .int .i64 k7, .int .i64 k8, .slice kp kpath.length kpc, .slice kip kit.length kic] : Array Value)[i]?) ∧ (∀ i, i < 11 → W.cell? ⟨bc, p + j * 11 + i, none⟩ = (#[.int .i64 l0, .string l1, .int .i64 l2, .int .u64 l3, .string l4, .int .i64 l5, .int .i64 l6, .int .i64 l7, .int .i64 l8, .slice lp lpath.length lpc, .slice lip lit.length lic] : Array Value)[i]?)) (by kernel_rfl) ?_
      obtain ⟨W4, hW4⟩ : ∃ W4, W4 = wr.drew := ⟨_, rfl⟩
      have e4 : ({ wr with drawn := wr.drawn + 1 } : World) = W4 := hW4.symm
      rw [e4]
      have hB4 : Below wr.heap.size wr W4 := by rw [hW4]; exact (Below.refl _ _).drew
      have hS := HK2.out W4 hB4
      clear e4 hW4
      refine wpAnyH_take (i := 0) (v := .pointer (some ⟨w.heap.size, 10, none⟩)) rfl (by kernel_rfl) (by kernel_rfl) (by kernel_rfl) (fun _ _ _ h => h) (Or.inl ⟨by rfl, ?r⟩) hS ?_
      case r => intro W hW; simp [go_sem, execOp, Act.eval]
      simp only [List.getElem_toArray, List.getElem_cons_zero, Act.put, List.setIfInBounds_toArray, List.set_cons_succ, List.set_cons_zero]
      refine wpAnyH_take (i := 1) (v := .slice (some ⟨g, 0, none⟩) items.length (items.length + 2)) rfl (by kernel_rfl) (by kernel_rfl) (by kernel_rfl) (fun _ _ _ h => h) (Or.inl ⟨by rfl, ?r⟩) hS ?_
      case r => intro W hW; simp [go_sem, execOp, Act.eval, hW.1]
      simp only [List.getElem_toArray, List.getElem_cons_zero, List.getElem_cons_succ, Act.put, List.setIfInBounds_toArray, List.set_cons_succ, List.set_cons_zero]
      refine wpAnyH_take (i := 2) (v := .int .i64 j) rfl (by kernel_rfl) (by kernel_rfl) (by kernel_rfl) (fun _ _ _ h => h) (Or.inl ⟨by rfl, ?r⟩) hS ?_
      case r => intro W hW; simp [go_sem, execOp, Act.eval]
      simp only [List.getElem_toArray, List.getElem_cons_zero, List.getElem_cons_succ, Act.put, List.setIfInBounds_toArray, List.set_cons_succ, List.set_cons_zero]
      refine wpAnyH_take (i := 3) (v := .pointer (some ⟨g, j * 11, none⟩)) rfl (by kernel_rfl) (by kernel_rfl) (by kernel_rfl) (fun _ _ _ h => h) (Or.inl ⟨by rfl, ?r⟩) hS ?_
      case r => intro W hW; simp [go_sem, execOp, Act.eval, i1]
      simp only [List.getElem_toArray, List.getElem_cons_zero, List.getElem_cons_succ, Act.put, List.setIfInBounds_toArray, List.set_cons_succ, List.set_cons_zero]
      refine wpAnyH_take (i := 4) (v := .agg #[.int .i64 k0, .string k1, .int .i64 k2, .int .u64 k3, .string k4, .int .i64 k5, .int .i64 k6, .int .i64 k7, .int .i64 k8, .slice kp kpath.length kpc, .slice kip kit.length kic]) rfl (by kernel_rfl) (by kernel_rfl) (by kernel_rfl) (fun _ _ _ h => h) (Or.inl ⟨by rfl, ?r⟩) hS ?_
      case r => intro W hW; have e0 : W.cell? ⟨g, j * 11, none⟩ = some (.int .i64 k0) := hW.2.2.1 0 (by omega); have e1 : W.cell? ⟨g, j * 11 + 1, none⟩ = some (.string k1) := hW.2.2.1 1 (by omega); have e2 : W.cell? ⟨g, j * 11 + 2, none⟩ = some (.int .i64 k2) := hW.2.2.1 2 (by omega); have e3 : W.cell? ⟨g, j * 11 + 3, none⟩ = some (.int .u64 k3) := hW.2.2.1 3 (by omega); have e4 : W.cell? ⟨g, j * 11 + 4, none⟩ = some (.string k4) := hW.2.2.1 4 (by omega); have e5 : W.cell? ⟨g, j * 11 + 5, none⟩ = some (.int .i64 k5) := hW.2.2.1 5 (by omega); have e6 : W.cell? ⟨g, j * 11 + 6, none⟩ = some (.int .i64 k6) := hW.2.2.1 6 (by omega); have e7 : W.cell? ⟨g, j * 11 + 7, none⟩ = some (.int .i64 k7) := hW.2.2.1 7 (by omega); have e8 : W.cell? ⟨g, j * 11 + 8, none⟩ = some (.int .i64 k8) := hW.2.2.1 8 (by omega); have e9 : W.cell? ⟨g, j * 11 + 9, none⟩ = some (.slice kp kpath.length kpc) := hW.2.2.1 9 (by omega); have e10 : W.cell? ⟨g, j * 11 + 10, none⟩ = some (.slice kip kit.length kic) := hW.2.2.1 10 (by omega); simp [go_sem, execOp, Act.eval, e0, e1, e2, e3, e4, e5, e6, e7, e8, e9, e10]
      simp only [List.getElem_toArray, List.getElem_cons_zero, List.getElem_cons_succ, Act.put, List.setIfInBounds_toArray, List.set_cons_succ, List.set_cons_zero]
      refine wpAnyH_take (i := 5) (v := .pointer (some ⟨w.heap.size + 1, 10, none⟩)) rfl (by kernel_rfl) (by kernel_rfl) (by kernel_rfl) (fun _ _ _ h => h) (Or.inl ⟨by rfl, ?r⟩) hS ?_
      case r => intro W hW; simp [go_sem, execOp, Act.eval]
      simp only [List.getElem_toArray, List.getElem_cons_zero, List.getElem_cons_succ, Act.put, List.setIfInBounds_toArray, List.set_cons_succ, List.set_cons_zero]
      refine wpAnyH_take (i := 6) (v := .slice (some ⟨bc, p, none⟩) items.length ic') rfl (by kernel_rfl) (by kernel_rfl) (by kernel_rfl) (fun _ _ _ h => h) (Or.inl ⟨by rfl, ?r⟩) hS ?_
      case r => intro W hW; simp [go_sem, execOp, Act.eval, hW.2.1]
      simp only [List.getElem_toArray, List.getElem_cons_zero, List.getElem_cons_succ, Act.put, List.setIfInBounds_toArray, List.set_cons_succ, List.set_cons_zero]
      refine wpAnyH_take (i := 7) (v := .int .i64 j) rfl (by kernel_rfl) (by kernel_rfl) (by kernel_rfl) (fun _ _ _ h => h) (Or.inl ⟨by rfl, ?r⟩) hS ?_
      case r => intro W hW; simp [go_sem, execOp, Act.eval]
      simp only [List.getElem_toArray, List.getElem_cons_zero, List.getElem_cons_succ, Act.put, List.setIfInBounds_toArray, List.set_cons_succ, List.set_cons_zero]
      refine wpAnyH_take (i := 8) (v := .pointer (some ⟨bc, p + j * 11, none⟩)) rfl (by kernel_rfl) (by kernel_rfl) (by kernel_rfl) (fun _ _ _ h => h) (Or.inl ⟨by rfl, ?r⟩) hS ?_
      case r => intro W hW; simp [go_sem, execOp, Act.eval, i1]
      simp only [List.getElem_toArray, List.getElem_cons_zero, List.getElem_cons_succ, Act.put, List.setIfInBounds_toArray, List.set_cons_succ, List.set_cons_zero]
      refine wpAnyH_take (i := 9) (v := .agg #[.int .i64 l0, .string l1, .int .i64 l2, .int .u64 l3, .string l4, .int .i64 l5, .int .i64 l6, .int .i64 l7, .int .i64 l8, .slice lp lpath.length lpc, .slice lip lit.length lic]) rfl (by kernel_rfl) (by kernel_rfl) (by kernel_rfl) (fun _ _ _ h => h) (Or.inl ⟨by rfl, ?r⟩) hS ?_
      case r => intro W hW; have e0 : W.cell? ⟨bc, p + j * 11, none⟩ = some (.int .i64 l0) := hW.2.2.2 0 (by omega); have e1 : W.cell? ⟨bc, p + j * 11 + 1, none⟩ = some (.string l1) := hW.2.2.2 1 (by omega); have e2 : W.cell? ⟨bc, p + j * 11 + 2, none⟩ = some (.int .i64 l2) := hW.2.2.2 2 (by omega); have e3 : W.cell? ⟨bc, p + j * 11 + 3, none⟩ = some (.int .u64 l3) := hW.2.2.2 3 (by omega); have e4 : W.cell? ⟨bc, p + j * 11 + 4, none⟩ = some (.string l4) := hW.2.2.2 4 (by omega); have e5 : W.cell? ⟨bc, p + j * 11 + 5, none⟩ = some (.int .i64 l5) := hW.2.2.2 5 (by omega); have e6 : W.cell? ⟨bc, p + j * 11 + 6, none⟩ = some (.int .i64 l6) := hW.2.2.2 6 (by omega); have e7 : W.cell? ⟨bc, p + j * 11 + 7, none⟩ = some (.int .i64 l7) := hW.2.2.2 7 (by omega); have e8 : W.cell? ⟨bc, p + j * 11 + 8, none⟩ = some (.int .i64 l8) := hW.2.2.2 8 (by omega); have e9 : W.cell? ⟨bc, p + j * 11 + 9, none⟩ = some (.slice lp lpath.length lpc) := hW.2.2.2 9 (by omega); have e10 : W.cell? ⟨bc, p + j * 11 + 10, none⟩ = some (.slice lip lit.length lic) := hW.2.2.2 10 (by omega); simp [go_sem, execOp, Act.eval, e0, e1, e2, e3, e4, e5, e6, e7, e8, e9, e10]
      simp only [List.getElem_toArray, List.getElem_cons_zero, List.getElem_cons_succ, Act.put, List.setIfInBounds_toArray, List.set_cons_succ, List.set_cons_zero]
      refine wpAnyH_all (rs := [10]) (by kernel_rfl) (by simp) (fun i2 hi2 => ?_)
      obtain rfl : i2 = 10 := by simpa using hi2
      clear hi2
      refine wpOp_step rfl (fun K hK => ite_yes rfl ?_)
      simp only [List.getElem_toArray, List.getElem_cons_zero, List.getElem_cons_succ]
      go_simp
      refine (HC.out _ hB4).mono ?_
      rintro e w9 ⟨rfl, b9⟩
      go_simp
      refine hK _ _ ⟨HK2.out _ b9, ?_⟩
      clear hK K hS
      have hS := HK2.out _ b9
      refine wpAnyH_take (i := 11) (v := .bool true) rfl (by kernel_rfl) (by kernel_rfl) (by kernel_rfl) (fun _ _ _ h => h) (Or.inl ⟨by rfl, ?r⟩) hS ?_
      case r => intro W hW; simp [go_sem, execOp, Act.eval]
      simp only [List.getElem_toArray, List.getElem_cons_zero, List.getElem_cons_succ, Act.put, List.setIfInBounds_toArray, List.set_cons_succ, List.set_cons_zero]
      refine wpAnyH_done (by kernel_rfl) ?_ _
      refine NoPanic.normal ?_
      try simp only [Act.put]
      have HW : Hid (Below W2.heap.size W2 w9) := HT.out.trans (b9.mono (by omega))
      clear hS HK2 b9 hB4 HC
      go_wp2_with fail
      exact ⟨⟨j + 1, hlt, by go_num, HW⟩, by simp [intOf]; omega⟩
    · have i1 : ¬ (j : Int) < items.length := by omega
      have hz0 : w.heap.size < wr.heap.size := by omega
      have hz1 : w.heap.size + 1 < wr.heap.size := by omega
      have HX : Hid (∀ o1 o2, Below w.heap.size w ((wr.alloc o1).alloc o2)) := fun o1 o2 => (HK.out _ HT.out).1.trans ((below2 wr o1 o2).mono (HK.out _ HT.out).1.size)
      clear HI hlt
      go_wp2_with (go_at_call 18; refine (HSM.out _ (HX.out _ _)).mono ?_; rintro r w9 ⟨rfl, b9⟩; have HB9 : Hid (Below w.heap.size w w9) := (HX.out _ _).trans (b9.mono (HX.out _ _).size); clear b9)
      go_ret
      exact ⟨rfl, HB9.out⟩
theorem kept_step (n : Nat) (hI : KeptC n) : KeptC (n + 1) := by
  intro o d w ho hd hs hm
  obtain ⟨⟨k, t, a, f, s, r0, r1, r2, r3, pp, path, pc⟩, ip, ic, items⟩ := o
  obtain ⟨⟨k', t', a', f', s', r0', r1', r2', r3', pp', path', pc'⟩, ip', ic', items'⟩ := d
  obtain ⟨e0, e1, e2, e3, e4, e5, e6, e7, e8, e9, ep, ea⟩ := same_parts hs
  simp only at e0 e1 e2 e3 e4 e5 e6 e7 e8 e9 ep ea
  subst e0 e1 e2 e3 e4 e5 e6 e7 e8 ep
  obtain ⟨m1, m2, m3⟩ := hm
  simp only at m1 m2 m3
  simp only [MD.val, D]
  rw [← e9]
  rcases m2 with rfl | ⟨g, rfl, rfl, q1, q2⟩
  · rcases m1 with rfl | ⟨gp, rfl, rfl, p1, p2⟩
    · exact kept_nn n hI k t a f s r0 r1 r2 r3 path pc ic items pp' pc' ip' ic' items' w ho hd e9 ea m3
    · exact kept_ns n hI k t a f s r0 r1 r2 r3 gp path ic items pp' pc' ip' ic' items' w ho hd e9 ea p1 p2 m3
  · rcases m1 with rfl | ⟨gp, rfl, rfl, p1, p2⟩
    · exact kept_sn n hI k t a f s r0 r1 r2 r3 path pc g items pp' pc' ip' ic' items' w ho hd e9 ea q1 q2 m3
    · exact kept_ss n hI k t a f s r0 r1 r2 r3 gp path g items pp' pc' ip' ic' items' w ho hd e9 ea p1 p2 q1 q2 m3
theorem kept_any : ∀ n, KeptC n
  | 0 => fun _ _ _ h _ _ _ => h.elim
  | n + 1 => kept_step n (kept_any n)
end Go.Proofs.YtnhbpcmiolkllaaDoor
