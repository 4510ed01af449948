/-
  Show, by number and by the document.
-/
import Derived.Test.YtoplmbboaobahaaDoorQt
import Derived.Test.YtoplmbboaobahaaDoorFc
import Derived.Test.YtoplmbboaobahaaDoorS
import Derived.Test.YtoplmbboaobahaaDoorY
namespace Go.Proofs.YtoplmbboaobahaaDoor
open Go.RowKit
attribute [local go_sem] refold2 cell3_0 cell3_1 b28_0 b28_01 b28_012 b28_013 b28_014 b35_01 b35_0 b35 mkI69

/-- With the type's name around it, where that is not the kind's own. -/
def paren (t : ByteArray) (own : List UInt8) (x : ByteArray) : ByteArray := if t.toList == own then x else t ++ ⟨#[40]⟩ ++ x ++ ⟨#[41]⟩

/-- A bool, shown. -/
def shT (n : Int) : ByteArray := if n != 0 then ⟨#[116, 114, 117, 101]⟩ else ⟨#[102, 97, 108, 115, 101]⟩

/-- What a datum is shown as. -/
def sh (k : Int) (t : ByteArray) (n f : Int) (s : ByteArray) : ByteArray :=
  if k = 0 then ⟨#[110, 105, 108]⟩
  else if k = 1 then paren t [98, 111, 111, 108] (shT n)
  else if k = 2 then paren t [105, 110, 116] ⟨(Lib.itoa n).toArray⟩
  else if k = 3 then paren t [102, 108, 111, 97, 116] (shB f)
  else if k = 4 then paren t [116, 101, 120, 116] ⟨(quoteL s.data.toList).toArray⟩
  else ⟨#[]⟩

set_option maxRecDepth 100000 in
set_option maxHeartbeats 4000000 in
theorem show_bool (t : ByteArray) (n f : Int) (s : ByteArray) (r0 r1 r2 r3 : Int) (p i : Value) (w : World) (ht : t.size ≤ 140737488351232) (x : ByteArray) (hx : x.size ≤ 140737488351232)
    (HX : Hid (∀ W, Below w.heap.size w W → Calls Tryd.prog 62 #[.bool (n != 0)] W fun r w' => r = .returned (.string x) ∧ Below W.heap.size W w')) :
    Calls Tryd.prog 26 #[D 1 t n f s r0 r1 r2 r3 p i] w fun r w' => r = .returned (.string (paren t [98, 111, 111, 108] x)) ∧ Below w.heap.size w w' := by
  unfold paren
  simp only [D]
  cases h : t.toList == [98, 111, 111, 108]
  · simp only [Bool.false_eq_true, ↓reduceIte]
    go_enter Tryd.func26, Tryd.ntmps26
    go_wp2_with fail
    refine (HX.out _ (below1 _ _)).mono ?_
    rintro r w1 ⟨rfl, b1⟩
    have e1 : ∀ j, w1.cell? ⟨w.heap.size, j, none⟩ = (#[.int .i64 1, .string t, .int .i64 n, .int .u64 f, .string s, .int .i64 r0, .int .i64 r1, .int .i64 r2, .int .i64 r3, p, i] : Array Value)[j]? := fun j => by
      rw [b1.cell (p := ⟨w.heap.size, j, none⟩) (by simp), World.cell?_alloc_new]
    go_wp2_with fail
    go_ret
    exact ⟨rfl, (below1 w _).trans (b1.mono (by simp))⟩
  · simp only [↓reduceIte]
    go_enter Tryd.func26, Tryd.ntmps26
    go_wp2_with fail
    refine (HX.out _ (below1 _ _)).mono ?_
    rintro r w1 ⟨rfl, b1⟩
    have e1 : ∀ j, w1.cell? ⟨w.heap.size, j, none⟩ = (#[.int .i64 1, .string t, .int .i64 n, .int .u64 f, .string s, .int .i64 r0, .int .i64 r1, .int .i64 r2, .int .i64 r3, p, i] : Array Value)[j]? := fun j => by
      rw [b1.cell (p := ⟨w.heap.size, j, none⟩) (by simp), World.cell?_alloc_new]
    go_wp2_with fail
    go_ret
    exact ⟨rfl, (below1 w _).trans (b1.mono (by simp))⟩

set_option maxRecDepth 100000 in
set_option maxHeartbeats 4000000 in
theorem show_int (t : ByteArray) (n f : Int) (s : ByteArray) (r0 r1 r2 r3 : Int) (p i : Value) (w : World) (ht : t.size ≤ 140737488351232) (x : ByteArray) (hx : x.size ≤ 140737488351232)
    (HX : Hid (∀ W, Below w.heap.size w W → Calls Tryd.prog 63 #[.int .i64 n] W fun r w' => r = .returned (.string x) ∧ Below W.heap.size W w')) :
    Calls Tryd.prog 26 #[D 2 t n f s r0 r1 r2 r3 p i] w fun r w' => r = .returned (.string (paren t [105, 110, 116] x)) ∧ Below w.heap.size w w' := by
  unfold paren
  simp only [D]
  cases h : t.toList == [105, 110, 116]
  · simp only [Bool.false_eq_true, ↓reduceIte]
    go_enter Tryd.func26, Tryd.ntmps26
    go_wp2_with fail
    refine (HX.out _ (below1 _ _)).mono ?_
    rintro r w1 ⟨rfl, b1⟩
    have e1 : ∀ j, w1.cell? ⟨w.heap.size, j, none⟩ = (#[.int .i64 2, .string t, .int .i64 n, .int .u64 f, .string s, .int .i64 r0, .int .i64 r1, .int .i64 r2, .int .i64 r3, p, i] : Array Value)[j]? := fun j => by
      rw [b1.cell (p := ⟨w.heap.size, j, none⟩) (by simp), World.cell?_alloc_new]
    go_wp2_with fail
    go_ret
    exact ⟨rfl, (below1 w _).trans (b1.mono (by simp))⟩
  · simp only [↓reduceIte]
    go_enter Tryd.func26, Tryd.ntmps26
    go_wp2_with fail
    refine (HX.out _ (below1 _ _)).mono ?_
    rintro r w1 ⟨rfl, b1⟩
    have e1 : ∀ j, w1.cell? ⟨w.heap.size, j, none⟩ = (#[.int .i64 2, .string t, .int .i64 n, .int .u64 f, .string s, .int .i64 r0, .int .i64 r1, .int .i64 r2, .int .i64 r3, p, i] : Array Value)[j]? := fun j => by
      rw [b1.cell (p := ⟨w.heap.size, j, none⟩) (by simp), World.cell?_alloc_new]
    go_wp2_with fail
    go_ret
    exact ⟨rfl, (below1 w _).trans (b1.mono (by simp))⟩

set_option maxRecDepth 100000 in
set_option maxHeartbeats 4000000 in
theorem show_flt (t : ByteArray) (n f : Int) (s : ByteArray) (r0 r1 r2 r3 : Int) (p i : Value) (w : World) (ht : t.size ≤ 140737488351232) (x : ByteArray) (hx : x.size ≤ 140737488351232)
    (HX : Hid (∀ W, Below w.heap.size w W → Calls Tryd.prog 64 #[.int .u64 f] W fun r w' => r = .returned (.string x) ∧ Below W.heap.size W w')) :
    Calls Tryd.prog 26 #[D 3 t n f s r0 r1 r2 r3 p i] w fun r w' => r = .returned (.string (paren t [102, 108, 111, 97, 116] x)) ∧ Below w.heap.size w w' := by
  unfold paren
  simp only [D]
  cases h : t.toList == [102, 108, 111, 97, 116]
  · simp only [Bool.false_eq_true, ↓reduceIte]
    go_enter Tryd.func26, Tryd.ntmps26
    go_wp2_with fail
    refine (HX.out _ (below1 _ _)).mono ?_
    rintro r w1 ⟨rfl, b1⟩
    have e1 : ∀ j, w1.cell? ⟨w.heap.size, j, none⟩ = (#[.int .i64 3, .string t, .int .i64 n, .int .u64 f, .string s, .int .i64 r0, .int .i64 r1, .int .i64 r2, .int .i64 r3, p, i] : Array Value)[j]? := fun j => by
      rw [b1.cell (p := ⟨w.heap.size, j, none⟩) (by simp), World.cell?_alloc_new]
    go_wp2_with fail
    go_ret
    exact ⟨rfl, (below1 w _).trans (b1.mono (by simp))⟩
  · simp only [↓reduceIte]
    go_enter Tryd.func26, Tryd.ntmps26
    go_wp2_with fail
    refine (HX.out _ (below1 _ _)).mono ?_
    rintro r w1 ⟨rfl, b1⟩
    have e1 : ∀ j, w1.cell? ⟨w.heap.size, j, none⟩ = (#[.int .i64 3, .string t, .int .i64 n, .int .u64 f, .string s, .int .i64 r0, .int .i64 r1, .int .i64 r2, .int .i64 r3, p, i] : Array Value)[j]? := fun j => by
      rw [b1.cell (p := ⟨w.heap.size, j, none⟩) (by simp), World.cell?_alloc_new]
    go_wp2_with fail
    go_ret
    exact ⟨rfl, (below1 w _).trans (b1.mono (by simp))⟩

set_option maxRecDepth 100000 in
set_option maxHeartbeats 4000000 in
theorem show_txt (t : ByteArray) (n f : Int) (s : ByteArray) (r0 r1 r2 r3 : Int) (p i : Value) (w : World) (ht : t.size ≤ 140737488351232) (x : ByteArray) (hx : x.size ≤ 140737488351232)
    (HX : Hid (∀ W, Below w.heap.size w W → Calls Tryd.prog 65 #[.string s] W fun r w' => r = .returned (.string x) ∧ Below W.heap.size W w')) :
    Calls Tryd.prog 26 #[D 4 t n f s r0 r1 r2 r3 p i] w fun r w' => r = .returned (.string (paren t [116, 101, 120, 116] x)) ∧ Below w.heap.size w w' := by
  unfold paren
  simp only [D]
  cases h : t.toList == [116, 101, 120, 116]
  · simp only [Bool.false_eq_true, ↓reduceIte]
    go_enter Tryd.func26, Tryd.ntmps26
    go_wp2_with fail
    refine (HX.out _ (below1 _ _)).mono ?_
    rintro r w1 ⟨rfl, b1⟩
    have e1 : ∀ j, w1.cell? ⟨w.heap.size, j, none⟩ = (#[.int .i64 4, .string t, .int .i64 n, .int .u64 f, .string s, .int .i64 r0, .int .i64 r1, .int .i64 r2, .int .i64 r3, p, i] : Array Value)[j]? := fun j => by
      rw [b1.cell (p := ⟨w.heap.size, j, none⟩) (by simp), World.cell?_alloc_new]
    go_wp2_with fail
    go_ret
    exact ⟨rfl, (below1 w _).trans (b1.mono (by simp))⟩
  · simp only [↓reduceIte]
    go_enter Tryd.func26, Tryd.ntmps26
    go_wp2_with fail
    refine (HX.out _ (below1 _ _)).mono ?_
    rintro r w1 ⟨rfl, b1⟩
    have e1 : ∀ j, w1.cell? ⟨w.heap.size, j, none⟩ = (#[.int .i64 4, .string t, .int .i64 n, .int .u64 f, .string s, .int .i64 r0, .int .i64 r1, .int .i64 r2, .int .i64 r3, p, i] : Array Value)[j]? := fun j => by
      rw [b1.cell (p := ⟨w.heap.size, j, none⟩) (by simp), World.cell?_alloc_new]
    go_wp2_with fail
    go_ret
    exact ⟨rfl, (below1 w _).trans (b1.mono (by simp))⟩

set_option maxRecDepth 100000 in
set_option maxHeartbeats 4000000 in
theorem refShow_int (t : ByteArray) (n f : Int) (s : ByteArray) (r0 r1 r2 r3 : Int) (p i : Value) (w : World) (ht : t.size ≤ 140737488351232) (x : ByteArray) (hx : x.size ≤ 140737488351232)
    (HX : Hid (∀ W, Below w.heap.size w W → Calls Tryd.prog 51 #[.int .i64 n] W fun r w' => r = .returned (.string x) ∧ Below W.heap.size W w')) :
    Calls Tryd.prog 27 #[D 2 t n f s r0 r1 r2 r3 p i] w fun r w' => r = .returned (.string (paren t [105, 110, 116] x)) ∧ Below w.heap.size w w' := by
  unfold paren
  simp only [D]
  cases h : t.toList == [105, 110, 116]
  · simp only [Bool.false_eq_true, ↓reduceIte]
    go_enter Tryd.func27, Tryd.ntmps27
    go_wp2_with fail
    refine (HX.out _ (below1 _ _)).mono ?_
    rintro r w1 ⟨rfl, b1⟩
    have e1 : ∀ j, w1.cell? ⟨w.heap.size, j, none⟩ = (#[.int .i64 2, .string t, .int .i64 n, .int .u64 f, .string s, .int .i64 r0, .int .i64 r1, .int .i64 r2, .int .i64 r3, p, i] : Array Value)[j]? := fun j => by
      rw [b1.cell (p := ⟨w.heap.size, j, none⟩) (by simp), World.cell?_alloc_new]
    go_wp2_with fail
    go_ret
    exact ⟨rfl, (below1 w _).trans (b1.mono (by simp))⟩
  · simp only [↓reduceIte]
    go_enter Tryd.func27, Tryd.ntmps27
    go_wp2_with fail
    refine (HX.out _ (below1 _ _)).mono ?_
    rintro r w1 ⟨rfl, b1⟩
    have e1 : ∀ j, w1.cell? ⟨w.heap.size, j, none⟩ = (#[.int .i64 2, .string t, .int .i64 n, .int .u64 f, .string s, .int .i64 r0, .int .i64 r1, .int .i64 r2, .int .i64 r3, p, i] : Array Value)[j]? := fun j => by
      rw [b1.cell (p := ⟨w.heap.size, j, none⟩) (by simp), World.cell?_alloc_new]
    go_wp2_with fail
    go_ret
    exact ⟨rfl, (below1 w _).trans (b1.mono (by simp))⟩

set_option maxRecDepth 100000 in
set_option maxHeartbeats 4000000 in
theorem refShow_txt (t : ByteArray) (n f : Int) (s : ByteArray) (r0 r1 r2 r3 : Int) (p i : Value) (w : World) (ht : t.size ≤ 140737488351232) (x : ByteArray) (hx : x.size ≤ 140737488351232)
    (HX : Hid (∀ W, Below w.heap.size w W → Calls Tryd.prog 68 #[.string s] W fun r w' => r = .returned (.string x) ∧ Below W.heap.size W w')) :
    Calls Tryd.prog 27 #[D 4 t n f s r0 r1 r2 r3 p i] w fun r w' => r = .returned (.string (paren t [116, 101, 120, 116] x)) ∧ Below w.heap.size w w' := by
  unfold paren
  simp only [D]
  cases h : t.toList == [116, 101, 120, 116]
  · simp only [Bool.false_eq_true, ↓reduceIte]
    go_enter Tryd.func27, Tryd.ntmps27
    go_wp2_with fail
    refine (HX.out _ (below1 _ _)).mono ?_
    rintro r w1 ⟨rfl, b1⟩
    have e1 : ∀ j, w1.cell? ⟨w.heap.size, j, none⟩ = (#[.int .i64 4, .string t, .int .i64 n, .int .u64 f, .string s, .int .i64 r0, .int .i64 r1, .int .i64 r2, .int .i64 r3, p, i] : Array Value)[j]? := fun j => by
      rw [b1.cell (p := ⟨w.heap.size, j, none⟩) (by simp), World.cell?_alloc_new]
    go_wp2_with fail
    go_ret
    exact ⟨rfl, (below1 w _).trans (b1.mono (by simp))⟩
  · simp only [↓reduceIte]
    go_enter Tryd.func27, Tryd.ntmps27
    go_wp2_with fail
    refine (HX.out _ (below1 _ _)).mono ?_
    rintro r w1 ⟨rfl, b1⟩
    have e1 : ∀ j, w1.cell? ⟨w.heap.size, j, none⟩ = (#[.int .i64 4, .string t, .int .i64 n, .int .u64 f, .string s, .int .i64 r0, .int .i64 r1, .int .i64 r2, .int .i64 r3, p, i] : Array Value)[j]? := fun j => by
      rw [b1.cell (p := ⟨w.heap.size, j, none⟩) (by simp), World.cell?_alloc_new]
    go_wp2_with fail
    go_ret
    exact ⟨rfl, (below1 w _).trans (b1.mono (by simp))⟩

set_option maxRecDepth 100000 in
set_option maxHeartbeats 4000000 in
theorem refShow_bool (t : ByteArray) (n f : Int) (s : ByteArray) (r0 r1 r2 r3 : Int) (p i : Value) (w : World) (ht : t.size ≤ 140737488351232) :
    Calls Tryd.prog 27 #[D 1 t n f s r0 r1 r2 r3 p i] w fun r w' => r = .returned (.string (paren t [98, 111, 111, 108] (shT n))) ∧ Below w.heap.size w w' := by
  unfold paren shT
  simp only [D]
  by_cases hn : n = 0
  · subst hn
    cases h : t.toList == [98, 111, 111, 108] <;> simp only [Bool.false_eq_true, ↓reduceIte, bne_self_eq_false]
    all_goals
      go_enter Tryd.func27, Tryd.ntmps27
      go_wp2_with fail
      go_ret
      exact ⟨rfl, below1 _ _⟩
  · have hb : (n != 0) = true := by simpa using hn
    cases h : t.toList == [98, 111, 111, 108] <;> simp only [Bool.false_eq_true, ↓reduceIte, hb]
    all_goals
      go_enter Tryd.func27, Tryd.ntmps27
      go_wp2_with fail
      go_ret
      exact ⟨rfl, below1 _ _⟩

set_option maxRecDepth 100000 in
set_option maxHeartbeats 4000000 in
theorem refShow_flt (t : ByteArray) (n f : Int) (s : ByteArray) (r0 r1 r2 r3 : Int) (p i : Value) (w : World) (ht : t.size ≤ 140737488351232) (h0 : 0 ≤ f) (h1 : f ≤ 18446744073709551615) :
    Calls Tryd.prog 27 #[D 3 t n f s r0 r1 r2 r3 p i] w fun r w' => r = .returned (.string (paren t [102, 108, 111, 97, 116] (shB f))) ∧ Below w.heap.size w w' := by
  have HN : Hid (∀ W, Calls Tryd.prog 66 #[.int .u64 f] W fun r w' => r = .returned (.bool (isNan f.toNat)) ∧ w' = W) := fun W => refIsNaN_any f W h0 h1
  have HH : Hid (∀ W, Calls Tryd.prog 67 #[.int .u64 f] W fun r w' => r = .returned (.string ⟨(dgs 16 f.toNat).toArray⟩) ∧ Below W.heap.size W w') := fun W => by
    have h := refHex_any f.toNat W (by omega)
    rw [Int.toNat_of_nonneg h0] at h
    exact h
  have hl : (ByteArray.mk (dgs 16 f.toNat).toArray).size = 16 := by show (dgs 16 f.toNat).toArray.size = 16; simp [dgs]
  unfold paren shB
  generalize dgs 16 f.toNat = d at HH hl ⊢
  generalize isNan f.toNat = v at HN ⊢
  have HX : Hid ((⟨#[48, 120]⟩ : ByteArray) ++ ⟨d.toArray⟩ = ⟨(48 :: 120 :: d).toArray⟩) := by
    show _ = _
    rw [show (⟨#[48, 120]⟩ : ByteArray) = ⟨([48, 120] : List UInt8).toArray⟩ from rfl, ByteArray.mk_append_mk]
    rfl
  rw [← HX.out]
  clear h0 h1
  simp only [D]
  cases v <;> cases h : t.toList == [102, 108, 111, 97, 116] <;> simp only [Bool.false_eq_true, ↓reduceIte]
  all_goals
    go_enter Tryd.func27, Tryd.ntmps27
    go_wp2_with fail
    refine (HN.out _).mono ?_
    rintro r w1 ⟨rfl, rfl⟩
    go_wp2_with fail
    refine (HH.out _).mono ?_
    rintro r w1 ⟨rfl, b1⟩
    have e1 : ∀ j, w1.cell? ⟨w.heap.size, j, none⟩ = (#[.int .i64 3, .string t, .int .i64 n, .int .u64 f, .string s, .int .i64 r0, .int .i64 r1, .int .i64 r2, .int .i64 r3, p, i] : Array Value)[j]? := fun j => by
      rw [b1.cell (p := ⟨w.heap.size, j, none⟩) (by simp), World.cell?_alloc_new]
    go_wp2_with fail
    go_ret
    exact ⟨rfl, (below1 w _).trans (b1.mono (by simp))⟩


set_option maxRecDepth 100000 in
set_option maxHeartbeats 4000000 in
theorem show_none (k : Int) (t : ByteArray) (n f : Int) (s : ByteArray) (r0 r1 r2 r3 : Int) (p i : Value) (w : World) (h1 : k ≠ 1) (h2 : k ≠ 2) (h3 : k ≠ 3) (h4 : k ≠ 4) :
    Calls Tryd.prog 26 #[D k t n f s r0 r1 r2 r3 p i] w fun r w' => r = .returned (.string (if k = 0 then ⟨#[110, 105, 108]⟩ else ⟨#[]⟩)) ∧ Below w.heap.size w w' := by
  simp only [D]
  by_cases h0 : k = 0
  · rw [if_pos h0]
    subst h0
    go_enter Tryd.func26, Tryd.ntmps26
    go_wp2_with fail
    go_ret
    exact ⟨rfl, below1 _ _⟩
  · rw [if_neg h0]
    go_enter Tryd.func26, Tryd.ntmps26
    go_wp2_with fail
    go_ret
    exact ⟨rfl, below1 _ _⟩

set_option maxRecDepth 100000 in
set_option maxHeartbeats 4000000 in
theorem refShow_none (k : Int) (t : ByteArray) (n f : Int) (s : ByteArray) (r0 r1 r2 r3 : Int) (p i : Value) (w : World) (h1 : k ≠ 1) (h2 : k ≠ 2) (h3 : k ≠ 3) (h4 : k ≠ 4) :
    Calls Tryd.prog 27 #[D k t n f s r0 r1 r2 r3 p i] w fun r w' => r = .returned (.string (if k = 0 then ⟨#[110, 105, 108]⟩ else ⟨#[]⟩)) ∧ Below w.heap.size w w' := by
  simp only [D]
  by_cases h0 : k = 0
  · rw [if_pos h0]
    subst h0
    go_enter Tryd.func27, Tryd.ntmps27
    go_wp2_with fail
    go_ret
    exact ⟨rfl, below1 _ _⟩
  · rw [if_neg h0]
    go_enter Tryd.func27, Tryd.ntmps27
    go_wp2_with fail
    go_ret
    exact ⟨rfl, below1 _ _⟩
end Go.Proofs.YtoplmbboaobahaaDoor
