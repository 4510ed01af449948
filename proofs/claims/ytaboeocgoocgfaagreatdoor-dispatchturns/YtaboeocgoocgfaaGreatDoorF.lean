/-
  tree.Right at the least program with a type: its functions one by one.
-/
import Derived.Test.YtaboeocgoocgfaaGreatDoorE
import Derived.Test.YtaboeocgoocgfaaGreatDoorNm
import Derived.Deep.RegionHeld3
import Derived.BigQuiet
namespace Go.Proofs.YtaboeocgoocgfaaGreatDoor
open Go.RowKit Go.ChangeMaps

/-- Only blocks of S, and new ones, have changed. -/
structure Kp (S : Nat → Prop) (w w' : World) : Prop where
  os : w'.os = w.os
  tape : w'.tape = w.tape
  output : w'.output = w.output
  size : w.heap.size ≤ w'.heap.size
  block : ∀ k, k < w.heap.size → ¬ S k → w'.heap[k]? = w.heap[k]?
theorem Kp.refl (S : Nat → Prop) (w : World) : Kp S w w := ⟨rfl, rfl, rfl, Nat.le_refl _, fun _ _ _ => rfl⟩
theorem Kp.of {S : Nat → Prop} {w w' : World} (h : Below w.heap.size w w') : Kp S w w' := ⟨h.os, h.tape, h.output, h.size, fun k hk _ => h.block k hk⟩
theorem Kp.trans {S S' : Nat → Prop} {a b c : World} (h : Kp S a b) (k : Kp S' b c) (hs : ∀ i, i < a.heap.size → S' i → S i) : Kp S a c :=
  ⟨k.os.trans h.os, k.tape.trans h.tape, k.output.trans h.output, Nat.le_trans h.size k.size, fun i hi hn => (k.block i (Nat.lt_of_lt_of_le hi h.size) fun q => hn (hs i hi q)).trans (h.block i hi hn)⟩
theorem Kp.cell {S : Nat → Prop} {w w' : World} (h : Kp S w w') {b o : Nat} (hb : b < w.heap.size) (hn : ¬ S b) : w'.cell? ⟨b, o, none⟩ = w.cell? ⟨b, o, none⟩ := World.cell?_of_block (a := ⟨b, o, none⟩) (h.block b hb hn)
theorem Kp.frozen {S : Nat → Prop} {w w' : World} (h : Kp S w w') {b o : Nat} (hb : b < w.heap.size) (hn : ¬ S b) : w'.frozen? ⟨b, o, none⟩ = w.frozen? ⟨b, o, none⟩ := World.frozen?_of_block (a := ⟨b, o, none⟩) (h.block b hb hn)
theorem Kp.below {S : Nat → Prop} {w w' : World} (h : Kp S w w') {B : Nat} (hB : B ≤ w.heap.size) (hn : ∀ i, i < B → ¬ S i) : Below B w w' := ⟨h.os, h.tape, h.output, h.size, fun k hk => h.block k (Nat.lt_of_lt_of_le hk hB) (hn k hk)⟩
theorem Kp.set {S : Nat → Prop} (w : World) (b o : Nat) (v : Value) (hb : S b) : Kp S w (w.setCell ⟨b, o, none⟩ v) :=
  ⟨rfl, rfl, rfl, by simp, fun k _ hn => Below.heap_setCell w ⟨b, o, none⟩ v k (by show k ≠ b; intro e; exact hn (e ▸ hb))⟩
theorem Kp.alloc (S : Nat → Prop) (w : World) (o : Obj) : Kp S w (w.alloc o) := Kp.of (below1 w o)

/-- A shape with one role. -/
def ShP (w : World) (r least most : Int) (cr : Bool) (e : Ending) (w' : World) : Prop :=
  ∃ b, e = .returned (.agg #[.slice (some ⟨b, 0, none⟩) 1 1, .int .i64 least, .int .i64 most, .bool cr]) ∧ w.heap.size ≤ b ∧ b < w'.heap.size ∧ w'.cell? ⟨b, 0, none⟩ = some (.int .i64 r) ∧ Below w.heap.size w w'

set_option maxRecDepth 100000 in
set_option maxHeartbeats 4000000 in
theorem atLeast_any (b : Nat) (w : World) :
    Calls Tryz.prog 89 #[.int .i64 0, .slice (some ⟨b, 0, none⟩) 1 1] w fun e w' => e = .returned (.agg #[.slice (some ⟨b, 0, none⟩) 1 1, .int .i64 0, .int .i64 (-1), .bool false]) ∧ w' = w.alloc (.cells #[.slice (some ⟨b, 0, none⟩) 1 1, .int .i64 0, .int .i64 (-1), .bool false] 145) := by
  go_enter Tryz.func89, Tryz.ntmps89
  go_wp2_with fail
  exact bodyPost_ret (v := .agg #[.slice (some ⟨b, 0, none⟩) 1 1, .int .i64 0, .int .i64 (-1), .bool false]) (by simp [results, Tryz.results89, go_sem]) rfl ⟨rfl, rfl⟩
set_option maxRecDepth 100000 in
set_option maxHeartbeats 4000000 in
theorem atMost_any (m r : Int) (w : World) :
    Calls Tryz.prog 91 #[.int .i64 m, .int .i64 r] w fun e w' => e = .returned (.agg #[.slice (some ⟨w.heap.size + 1, 0, none⟩) 1 1, .int .i64 0, .int .i64 m, .bool true]) ∧ w' = (w.alloc (.cells #[.slice (some ⟨w.heap.size + 1, 0, none⟩) 1 1, .int .i64 0, .int .i64 m, .bool true] 145)).alloc (.cells #[.int .i64 r] 96) := by
  go_enter Tryz.func91, Tryz.ntmps91
  go_wp2_with fail
  exact bodyPost_ret (v := .agg #[.slice (some ⟨w.heap.size + 1, 0, none⟩) 1 1, .int .i64 0, .int .i64 m, .bool true]) (by simp [results, Tryz.results91, go_sem]) rfl ⟨rfl, rfl⟩
set_option maxRecDepth 100000 in
set_option maxHeartbeats 4000000 in
theorem exactly_none (w : World) :
    Calls Tryz.prog 90 #[.slice none 0 0] w fun e w' => e = .returned (.agg #[.slice none 0 0, .int .i64 0, .int .i64 0, .bool false]) ∧ w' = w.alloc (.cells #[.slice none 0 0, .int .i64 0, .int .i64 0, .bool false] 145) := by
  go_enter Tryz.func90, Tryz.ntmps90
  go_wp2_with fail
  exact bodyPost_ret (v := .agg #[.slice none 0 0, .int .i64 0, .int .i64 0, .bool false]) (by simp [results, Tryz.results90, go_sem]) rfl ⟨rfl, rfl⟩
theorem cellK {w w' : World} (hb : Below w.heap.size w w') (b o : Nat) (h : b < w.heap.size) {v : Value} (hv : w.cell? ⟨b, o, none⟩ = some v) : w'.cell? ⟨b, o, none⟩ = some v := (hb.cell (p := ⟨b, o, none⟩) h).trans hv
theorem frozenK {w w' : World} (hb : Below w.heap.size w w') (b o : Nat) (h : b < w.heap.size) {v : Bool} (hv : w.frozen? ⟨b, o, none⟩ = v) : w'.frozen? ⟨b, o, none⟩ = v := (hb.frozen (p := ⟨b, o, none⟩) h).trans hv
set_option maxRecDepth 100000 in
set_option maxHeartbeats 4000000 in
theorem declShape_P (KA : Nat) (w : World) :
    Calls Tryz.prog 77 #[.agg #[.int .i64 1, .string ⟨#[]⟩, .int .i64 0, .int .i64 0, .slice (some ⟨KA, 0, none⟩) 1 1]] w fun e w' => e = .returned (.agg #[.slice (some ⟨w.heap.size + 1 + 1, 0, none⟩) 1 1, .int .i64 0, .int .i64 (-1), .bool false]) ∧ w' = ((((w.alloc (.cells #[.int .i64 1, .string ⟨#[]⟩, .int .i64 0, .int .i64 0, .slice (some ⟨KA, 0, none⟩) 1 1] 30)).alloc (.cells #[.slice (some ⟨w.heap.size + 1 + 1, 0, none⟩) 1 1, .int .i64 0, .int .i64 (-1), .bool false] 145)).alloc (.cells #[.int .i64 2] 96)).alloc (.cells #[.slice (some ⟨w.heap.size + 1 + 1, 0, none⟩) 1 1, .int .i64 0, .int .i64 (-1), .bool false] 145)) := by
  go_enter Tryz.func77, Tryz.ntmps77
  go_wp2_with fail
  refine Calls.mono (atLeast_any _ _) ?_
  rintro _ w1 ⟨rfl, rfl⟩
  go_wp2_with fail
  exact bodyPost_ret (v := .agg #[.slice (some ⟨w.heap.size + 1 + 1, 0, none⟩) 1 1, .int .i64 0, .int .i64 (-1), .bool false]) (by simp [results, Tryz.results77, go_sem]) rfl ⟨rfl, rfl⟩
set_option maxRecDepth 100000 in
set_option maxHeartbeats 4000000 in
theorem declShape_A (KX : Nat) (w : World) :
    Calls Tryz.prog 77 #[.agg #[.int .i64 3, .string ⟨#[65]⟩, .int .i64 0, .int .i64 0, .slice (some ⟨KX, 0, none⟩) 1 1]] w fun e w' => e = .returned (.agg #[.slice (some ⟨w.heap.size + 1 + 1 + 1, 0, none⟩) 1 1, .int .i64 0, .int .i64 30, .bool true]) ∧ w' = ((((w.alloc (.cells #[.int .i64 3, .string ⟨#[65]⟩, .int .i64 0, .int .i64 0, .slice (some ⟨KX, 0, none⟩) 1 1] 30)).alloc (.cells #[.slice (some ⟨w.heap.size + 1 + 1 + 1, 0, none⟩) 1 1, .int .i64 0, .int .i64 30, .bool true] 145)).alloc (.cells #[.slice (some ⟨w.heap.size + 1 + 1 + 1, 0, none⟩) 1 1, .int .i64 0, .int .i64 30, .bool true] 145)).alloc (.cells #[.int .i64 3] 96)) := by
  go_enter Tryz.func77, Tryz.ntmps77
  go_wp2_with fail
  refine Calls.mono (atMost_any _ _ _) ?_
  rintro _ w1 ⟨rfl, rfl⟩
  go_wp2_with fail
  exact bodyPost_ret (v := .agg #[.slice (some ⟨w.heap.size + 1 + 1 + 1, 0, none⟩) 1 1, .int .i64 0, .int .i64 30, .bool true]) (by simp [results, Tryz.results77, go_sem]) rfl ⟨rfl, rfl⟩
set_option maxRecDepth 100000 in
set_option maxHeartbeats 4000000 in
theorem exprShape_X (w : World) :
    Calls Tryz.prog 79 #[.agg #[.int .i64 8, .string ⟨#[120]⟩, .int .i64 0, .int .i64 0, .slice none 0 0], .int .i64 3] w fun e w' => e = .returned (.agg #[.slice none 0 0, .int .i64 0, .int .i64 0, .bool false]) ∧ w' = (((w.alloc (.cells #[.int .i64 8, .string ⟨#[120]⟩, .int .i64 0, .int .i64 0, .slice none 0 0] 30)).alloc (.cells #[.slice none 0 0, .int .i64 0, .int .i64 0, .bool false] 145)).alloc (.cells #[.slice none 0 0, .int .i64 0, .int .i64 0, .bool false] 145)) := by
  go_enter Tryz.func79, Tryz.ntmps79
  go_wp2_with fail
  refine Calls.mono (exactly_none _) ?_
  rintro _ w1 ⟨rfl, rfl⟩
  go_wp2_with fail
  exact bodyPost_ret (v := .agg #[.slice none 0 0, .int .i64 0, .int .i64 0, .bool false]) (by simp [results, Tryz.results79, go_sem]) rfl ⟨rfl, rfl⟩
set_option maxRecDepth 100000 in
set_option maxHeartbeats 4000000 in
theorem shapeOf_P (KA : Nat) (w : World) :
    Calls Tryz.prog 58 #[.agg #[.int .i64 1, .string ⟨#[]⟩, .int .i64 0, .int .i64 0, .slice (some ⟨KA, 0, none⟩) 1 1], .int .i64 0] w fun e w' => e = .returned (.agg #[.slice (some ⟨w.heap.size + 1 + 1 + 1 + 1, 0, none⟩) 1 1, .int .i64 0, .int .i64 (-1), .bool false]) ∧ w' = ((((((w.alloc (.cells #[.int .i64 1, .string ⟨#[]⟩, .int .i64 0, .int .i64 0, .slice (some ⟨KA, 0, none⟩) 1 1] 30)).alloc (.cells #[.slice (some ⟨w.heap.size + 1 + 1 + 1 + 1, 0, none⟩) 1 1, .int .i64 0, .int .i64 (-1), .bool false] 145)).alloc (.cells #[.int .i64 1, .string ⟨#[]⟩, .int .i64 0, .int .i64 0, .slice (some ⟨KA, 0, none⟩) 1 1] 30)).alloc (.cells #[.slice (some ⟨w.heap.size + 1 + 1 + 1 + 1, 0, none⟩) 1 1, .int .i64 0, .int .i64 (-1), .bool false] 145)).alloc (.cells #[.int .i64 2] 96)).alloc (.cells #[.slice (some ⟨w.heap.size + 1 + 1 + 1 + 1, 0, none⟩) 1 1, .int .i64 0, .int .i64 (-1), .bool false] 145)) := by
  go_enter Tryz.func58, Tryz.ntmps58
  go_wp2_with fail
  refine Calls.mono (declShape_P _ _) ?_
  rintro _ w1 ⟨rfl, rfl⟩
  go_wp2_with fail
  exact bodyPost_ret (v := .agg #[.slice (some ⟨w.heap.size + 1 + 1 + 1 + 1, 0, none⟩) 1 1, .int .i64 0, .int .i64 (-1), .bool false]) (by simp [results, Tryz.results58, go_sem]) rfl ⟨rfl, rfl⟩
set_option maxRecDepth 100000 in
set_option maxHeartbeats 4000000 in
theorem shapeOf_A (KX : Nat) (w : World) :
    Calls Tryz.prog 58 #[.agg #[.int .i64 3, .string ⟨#[65]⟩, .int .i64 0, .int .i64 0, .slice (some ⟨KX, 0, none⟩) 1 1], .int .i64 2] w fun e w' => e = .returned (.agg #[.slice (some ⟨w.heap.size + 1 + 1 + 1 + 1 + 1, 0, none⟩) 1 1, .int .i64 0, .int .i64 30, .bool true]) ∧ w' = ((((((w.alloc (.cells #[.int .i64 3, .string ⟨#[65]⟩, .int .i64 0, .int .i64 0, .slice (some ⟨KX, 0, none⟩) 1 1] 30)).alloc (.cells #[.slice (some ⟨w.heap.size + 1 + 1 + 1 + 1 + 1, 0, none⟩) 1 1, .int .i64 0, .int .i64 30, .bool true] 145)).alloc (.cells #[.int .i64 3, .string ⟨#[65]⟩, .int .i64 0, .int .i64 0, .slice (some ⟨KX, 0, none⟩) 1 1] 30)).alloc (.cells #[.slice (some ⟨w.heap.size + 1 + 1 + 1 + 1 + 1, 0, none⟩) 1 1, .int .i64 0, .int .i64 30, .bool true] 145)).alloc (.cells #[.slice (some ⟨w.heap.size + 1 + 1 + 1 + 1 + 1, 0, none⟩) 1 1, .int .i64 0, .int .i64 30, .bool true] 145)).alloc (.cells #[.int .i64 3] 96)) := by
  go_enter Tryz.func58, Tryz.ntmps58
  go_wp2_with fail
  refine Calls.mono (declShape_A _ _) ?_
  rintro _ w1 ⟨rfl, rfl⟩
  go_wp2_with fail
  exact bodyPost_ret (v := .agg #[.slice (some ⟨w.heap.size + 1 + 1 + 1 + 1 + 1, 0, none⟩) 1 1, .int .i64 0, .int .i64 30, .bool true]) (by simp [results, Tryz.results58, go_sem]) rfl ⟨rfl, rfl⟩
set_option maxRecDepth 100000 in
set_option maxHeartbeats 4000000 in
theorem shapeOf_X (w : World) :
    Calls Tryz.prog 58 #[.agg #[.int .i64 8, .string ⟨#[120]⟩, .int .i64 0, .int .i64 0, .slice none 0 0], .int .i64 3] w fun e w' => e = .returned (.agg #[.slice none 0 0, .int .i64 0, .int .i64 0, .bool false]) ∧ w' = (((((w.alloc (.cells #[.int .i64 8, .string ⟨#[120]⟩, .int .i64 0, .int .i64 0, .slice none 0 0] 30)).alloc (.cells #[.slice none 0 0, .int .i64 0, .int .i64 0, .bool false] 145)).alloc (.cells #[.int .i64 8, .string ⟨#[120]⟩, .int .i64 0, .int .i64 0, .slice none 0 0] 30)).alloc (.cells #[.slice none 0 0, .int .i64 0, .int .i64 0, .bool false] 145)).alloc (.cells #[.slice none 0 0, .int .i64 0, .int .i64 0, .bool false] 145)) := by
  go_enter Tryz.func58, Tryz.ntmps58
  go_wp2_with fail
  refine Calls.mono (exprShape_X _) ?_
  rintro _ w1 ⟨rfl, rfl⟩
  go_wp2_with fail
  exact bodyPost_ret (v := .agg #[.slice none 0 0, .int .i64 0, .int .i64 0, .bool false]) (by simp [results, Tryz.results58, go_sem]) rfl ⟨rfl, rfl⟩
set_option maxRecDepth 100000 in
set_option maxHeartbeats 4000000 in
theorem takes_1 (w : World) :
    Calls Tryz.prog 80 #[.int .i64 0, .int .i64 1] w fun e w' => e = .returned (.bool true) ∧ w' = w := by
  go_enter Tryz.func80, Tryz.ntmps80
  go_wp2
  go_ret
  exact ⟨rfl, rfl⟩

set_option maxRecDepth 100000 in
set_option maxHeartbeats 4000000 in
theorem takes_3 (w : World) :
    Calls Tryz.prog 80 #[.int .i64 2, .int .i64 3] w fun e w' => e = .returned (.bool true) ∧ w' = w := by
  go_enter Tryz.func80, Tryz.ntmps80
  go_wp2
  go_ret
  exact ⟨rfl, rfl⟩

set_option maxRecDepth 100000 in
set_option maxHeartbeats 4000000 in
theorem takes_8 (w : World) :
    Calls Tryz.prog 80 #[.int .i64 3, .int .i64 8] w fun e w' => e = .returned (.bool true) ∧ w' = w := by
  go_enter Tryz.func80, Tryz.ntmps80
  go_wp2
  go_ret
  exact ⟨rfl, rfl⟩

end Go.Proofs.YtaboeocgoocgfaaGreatDoor
