/-
  The document's own Convert, where nothing but a number, a text or a name is carried over.
-/
import Derived.Test.YtoplmbboaobahaaDoorCv
namespace Go.Proofs.YtoplmbboaobahaaDoor
open Go.RowKit
attribute [local go_sem] refold2 cell3_0 cell3_1 cell4_0 cell4_1 cell4_2 frozen4_1 frozen4_2 b28_0 b28_01 b28_012 b28_013 b28_014 b35_01 b35_0 b35 mkI69 x56 x57


set_option maxRecDepth 100000 in
set_option maxHeartbeats 4000000 in
theorem refConvert_bool (u : ByteArray) (t : ByteArray) (a f : Int) (s : ByteArray) (r0 r1 r2 r3 : Int) (p i : Value) (w : World) :
    Calls Tryd.prog 19 #[.int .i64 1, .string u, D 1 t a f s r0 r1 r2 r3 p i] w fun r w' => r = .returned (.tuple #[.agg #[.int .i64 1, .string u, .int .i64 a, .int .u64 0, .string ⟨#[]⟩, .int .i64 0, .int .i64 0, .int .i64 0, .int .i64 0, .slice none 0 0, .slice none 0 0], .agg #[.string ⟨#[]⟩, .string ⟨#[]⟩]]) ∧ Below w.heap.size w w' := by
  simp only [D]
  go_enter Tryd.func19, Tryd.ntmps19
  go_wp2
  refine bodyPost_ret (v := .tuple #[.agg #[.int .i64 1, .string u, .int .i64 a, .int .u64 0, .string ⟨#[]⟩, .int .i64 0, .int .i64 0, .int .i64 0, .int .i64 0, .slice none 0 0, .slice none 0 0], .agg #[.string ⟨#[]⟩, .string ⟨#[]⟩]]) (by simp [results, Tryd.results19, go_sem]) rfl ⟨rfl, below4 _ _ _ _ _⟩

set_option maxRecDepth 100000 in
set_option maxHeartbeats 4000000 in
theorem refConvert_int (u : ByteArray) (t : ByteArray) (a f : Int) (s : ByteArray) (r0 r1 r2 r3 : Int) (p i : Value) (w : World) :
    Calls Tryd.prog 19 #[.int .i64 2, .string u, D 2 t a f s r0 r1 r2 r3 p i] w fun r w' => r = .returned (.tuple #[.agg #[.int .i64 2, .string u, .int .i64 a, .int .u64 0, .string ⟨#[]⟩, .int .i64 0, .int .i64 0, .int .i64 0, .int .i64 0, .slice none 0 0, .slice none 0 0], .agg #[.string ⟨#[]⟩, .string ⟨#[]⟩]]) ∧ Below w.heap.size w w' := by
  simp only [D]
  go_enter Tryd.func19, Tryd.ntmps19
  go_wp2
  refine bodyPost_ret (v := .tuple #[.agg #[.int .i64 2, .string u, .int .i64 a, .int .u64 0, .string ⟨#[]⟩, .int .i64 0, .int .i64 0, .int .i64 0, .int .i64 0, .slice none 0 0, .slice none 0 0], .agg #[.string ⟨#[]⟩, .string ⟨#[]⟩]]) (by simp [results, Tryd.results19, go_sem]) rfl ⟨rfl, below4 _ _ _ _ _⟩

set_option maxRecDepth 100000 in
set_option maxHeartbeats 4000000 in
theorem refConvert_text (u : ByteArray) (t : ByteArray) (a f : Int) (s : ByteArray) (r0 r1 r2 r3 : Int) (p i : Value) (w : World) :
    Calls Tryd.prog 19 #[.int .i64 4, .string u, D 4 t a f s r0 r1 r2 r3 p i] w fun r w' => r = .returned (.tuple #[.agg #[.int .i64 4, .string u, .int .i64 0, .int .u64 0, .string s, .int .i64 0, .int .i64 0, .int .i64 0, .int .i64 0, .slice none 0 0, .slice none 0 0], .agg #[.string ⟨#[]⟩, .string ⟨#[]⟩]]) ∧ Below w.heap.size w w' := by
  simp only [D]
  go_enter Tryd.func19, Tryd.ntmps19
  go_wp2
  refine bodyPost_ret (v := .tuple #[.agg #[.int .i64 4, .string u, .int .i64 0, .int .u64 0, .string s, .int .i64 0, .int .i64 0, .int .i64 0, .int .i64 0, .slice none 0 0, .slice none 0 0], .agg #[.string ⟨#[]⟩, .string ⟨#[]⟩]]) (by simp [results, Tryd.results19, go_sem]) rfl ⟨rfl, below4 _ _ _ _ _⟩

set_option maxRecDepth 100000 in
set_option maxHeartbeats 4000000 in
theorem refConvert_flt (u : ByteArray) (t : ByteArray) (a f : Int) (s : ByteArray) (r0 r1 r2 r3 : Int) (p i : Value) (w : World) (h0 : 0 ≤ f) (h1 : f ≤ 18446744073709551615) :
    Calls Tryd.prog 19 #[.int .i64 3, .string u, D 3 t a f s r0 r1 r2 r3 p i] w fun r w' => r = .returned (.tuple #[.agg #[.int .i64 3, .string u, .int .i64 0, .int .u64 (canon f), .string ⟨#[]⟩, .int .i64 0, .int .i64 0, .int .i64 0, .int .i64 0, .slice none 0 0, .slice none 0 0], .agg #[.string ⟨#[]⟩, .string ⟨#[]⟩]]) ∧ Below w.heap.size w w' := by
  have HF : Hid (∀ W, Calls Tryd.prog 39 #[.int .u64 f] W fun r w' => r = .returned (.int .u64 (canon f)) ∧ w' = W) := fun W => refBits_any f W h0 h1
  generalize canon f = v at HF ⊢
  simp only [D]
  go_enter Tryd.func19, Tryd.ntmps19
  go_wp2_with (go_at_call 39; refine (HF.out _).mono ?_; rintro r w' ⟨rfl, rfl⟩)
  refine bodyPost_ret (v := .tuple #[.agg #[.int .i64 3, .string u, .int .i64 0, .int .u64 v, .string ⟨#[]⟩, .int .i64 0, .int .i64 0, .int .i64 0, .int .i64 0, .slice none 0 0, .slice none 0 0], .agg #[.string ⟨#[]⟩, .string ⟨#[]⟩]]) (by simp [results, Tryd.results19, go_sem]) rfl ⟨rfl, below4 _ _ _ _ _⟩

set_option maxRecDepth 100000 in
set_option maxHeartbeats 4000000 in
theorem refConvert_fi (u : ByteArray) (t : ByteArray) (a f : Int) (s : ByteArray) (r0 r1 r2 r3 : Int) (p i : Value) (w : World) (h0 : 0 ≤ f) (h1 : f ≤ 18446744073709551615) :
    Calls Tryd.prog 19 #[.int .i64 2, .string u, D 3 t a f s r0 r1 r2 r3 p i] w fun r w' => r = .returned (.tuple #[.agg #[.int .i64 2, .string u, .int .i64 (wv f.toNat), .int .u64 0, .string ⟨#[]⟩, .int .i64 0, .int .i64 0, .int .i64 0, .int .i64 0, .slice none 0 0, .slice none 0 0], .agg #[.string ⟨#[]⟩, .string ⟨#[]⟩]]) ∧ Below w.heap.size w w' := by
  have HF : Hid (∀ W, Calls Tryd.prog 58 #[.int .u64 f] W fun r w' => r = .returned (.int .i64 (wv f.toNat)) ∧ w' = W) := fun W => by
    have h := refWhole_any f.toNat W (by omega)
    rw [Int.toNat_of_nonneg h0] at h
    exact h
  generalize wv f.toNat = v at HF ⊢
  simp only [D]
  go_enter Tryd.func19, Tryd.ntmps19
  go_wp2_with (go_at_call 58; refine (HF.out _).mono ?_; rintro r w' ⟨rfl, rfl⟩)
  refine bodyPost_ret (v := .tuple #[.agg #[.int .i64 2, .string u, .int .i64 v, .int .u64 0, .string ⟨#[]⟩, .int .i64 0, .int .i64 0, .int .i64 0, .int .i64 0, .slice none 0 0, .slice none 0 0], .agg #[.string ⟨#[]⟩, .string ⟨#[]⟩]]) (by simp [results, Tryd.results19, go_sem]) rfl ⟨rfl, below4 _ _ _ _ _⟩
end Go.Proofs.YtoplmbboaobahaaDoor
