/-
  .
  .
  .
  .
  .
-/
import Derived.Test.YtdbijkgnddcneaaGreatDoorLxE
import Derived.Test.YtdbijkgnddcneaaGreatDoorLxNm
import Derived.Deep.RegionHeld3
import Derived.BigQuiet
namespace Go.Proofs.YtdbijkgnddcneaaGreatDoor.Lx
open Go.RowKit Go.ChangeMaps
set_option maxRecDepth 100000
set_option maxHeartbeats 4000000
structure Kp (S : Nat → Prop) (w w' : World) : Prop where
 os : w'.os = w.os
 tape : w'.tape = w.tape
 output : w'.output = w.output
 size : w.heap.size ≤ w'.heap.size
 block : ∀ k, k < w.heap.size → ¬ S k → w'.heap[k]? = w.heap[k]?
theorem Kp.refl (S : Nat → Prop) (w : World) : Kp S w w := ⟨rfl, rfl, rfl, Nat.le_refl _, fun _ _ _ => rfl⟩
theorem Kp.of {S : Nat → Prop} {w w' : World} (h : Below w.heap.size w w') : Kp S w w' := ⟨h.os, h.tape, h.output, h.size, fun k hk _ => h.block k hk⟩
theorem Kp.trans {S S' : Nat → Prop} {a b c : World} (h : Kp S a b) (k : Kp S' b c) (hs : ∀ i, i < a.heap.size → S' i → S i) : Kp S a c :=
 ⟨k.os.trans h.os, k.tape.trans h.tape, k.output.trans h.output, Nat.le_trans h.size k.size, fun i hi hn => (k.block i (Nat.lt_of_lt_of_le hi h.size) fun q => hn (hs i hi q)).trans (h.block i hi hn)⟩
theorem Kp.cell {S : Nat → Prop} {w w' : World} (h : Kp S w w') {b o : Nat} (hb : b < w.heap.size) (hn : ¬ S b) : w'.cell? ⟨b, o, none⟩ = w.cell? ⟨b, o, none⟩ := World.cell?_of_block (a := ⟨b, o, none⟩) (h.block b hb hn)
theorem Kp.frozen {S : Nat → Prop} {w w' : World} (h : Kp S w w') {b o : Nat} (hb : b < w.heap.size) (hn : ¬ S b) : w'.frozen? ⟨b, o, none⟩ = w.frozen? ⟨b, o, none⟩ := World.frozen?_of_block (a := ⟨b, o, none⟩) (h.block b hb hn)
theorem Kp.below {S : Nat → Prop} {w w' : World} (h : Kp S w w') {B : Nat} (hB : B ≤ w.heap.size) (hn : ∀ i, i < B → ¬ S i) : Below B w w' := ⟨h.os, h.tape, h.output, h.size, fun k hk => h.block k (Nat.lt_of_lt_of_le hk hB) (hn k hk)⟩
theorem Kp.set {S : Nat → Prop} (w : World) (b o : Nat) (v : Value) (hb : S b) : Kp S w (w.setCell ⟨b, o, none⟩ v) :=
 ⟨rfl, rfl, rfl, by simp, fun k _ hn => Below.heap_setCell w ⟨b, o, none⟩ v k (by show k ≠ b; intro e; exact hn (e ▸ hb))⟩
theorem Kp.alloc (S : Nat → Prop) (w : World) (o : Obj) : Kp S w (w.alloc o) := Kp.of (below1 w o)
theorem atLeast_any (b : Nat) (w : World) :
  Calls Tryz.prog 211 #[.int .i64 0, .slice (some ⟨b, 0, none⟩) 1 1] w fun e w' => e = .returned (.agg #[.slice (some ⟨b, 0, none⟩) 1 1, .int .i64 0, .int .i64 (-1), .bool false]) ∧ w' = w.alloc (.cells #[.slice (some ⟨b, 0, none⟩) 1 1, .int .i64 0, .int .i64 (-1), .bool false] 237) := by
 go_enter Tryz.func211, Tryz.ntmps211
 go_wp2_with fail
 exact bodyPost_ret (v := .agg #[.slice (some ⟨b, 0, none⟩) 1 1, .int .i64 0, .int .i64 (-1), .bool false]) (by simp [results, Tryz.results211, go_sem]) rfl ⟨rfl, rfl⟩
theorem atMost_any (m r : Int) (w : World) :
  Calls Tryz.prog 213 #[.int .i64 m, .int .i64 r] w fun e w' => e = .returned (.agg #[.slice (some ⟨w.heap.size + 1, 0, none⟩) 1 1, .int .i64 0, .int .i64 m, .bool true]) ∧ w' = (w.alloc (.cells #[.slice (some ⟨w.heap.size + 1, 0, none⟩) 1 1, .int .i64 0, .int .i64 m, .bool true] 237)).alloc (.cells #[.int .i64 r] 190) := by
 go_enter Tryz.func213, Tryz.ntmps213
 go_wp2_with fail
 exact bodyPost_ret (v := .agg #[.slice (some ⟨w.heap.size + 1, 0, none⟩) 1 1, .int .i64 0, .int .i64 m, .bool true]) (by simp [results, Tryz.results213, go_sem]) rfl ⟨rfl, rfl⟩
theorem exactly_none (w : World) :
  Calls Tryz.prog 212 #[.slice none 0 0] w fun e w' => e = .returned (.agg #[.slice none 0 0, .int .i64 0, .int .i64 0, .bool false]) ∧ w' = w.alloc (.cells #[.slice none 0 0, .int .i64 0, .int .i64 0, .bool false] 237) := by
 go_enter Tryz.func212, Tryz.ntmps212
 go_wp2_with fail
 exact bodyPost_ret (v := .agg #[.slice none 0 0, .int .i64 0, .int .i64 0, .bool false]) (by simp [results, Tryz.results212, go_sem]) rfl ⟨rfl, rfl⟩
theorem declShape_P (KP : Nat) (w : World) :
  Calls Tryz.prog 187 #[.agg #[.int .i64 1, .string ⟨#[]⟩, .int .i64 0, .int .i64 0, .slice (some ⟨KP, 0, none⟩) 2 2]] w fun e w' => e = .returned (.agg #[.slice (some ⟨w.heap.size + 1 + 1, 0, none⟩) 1 1, .int .i64 0, .int .i64 (-1), .bool false]) ∧ w' = ((((w.alloc (.cells #[.int .i64 1, .string ⟨#[]⟩, .int .i64 0, .int .i64 0, .slice (some ⟨KP, 0, none⟩) 2 2] 98)).alloc (.cells #[.slice (some ⟨w.heap.size + 1 + 1, 0, none⟩) 1 1, .int .i64 0, .int .i64 (-1), .bool false] 237)).alloc (.cells #[.int .i64 2] 190)).alloc (.cells #[.slice (some ⟨w.heap.size + 1 + 1, 0, none⟩) 1 1, .int .i64 0, .int .i64 (-1), .bool false] 237)) := by
 go_enter Tryz.func187, Tryz.ntmps187
 go_wp2_with fail
 refine Calls.mono (atLeast_any _ _) ?_
 rintro _ w1 ⟨rfl, rfl⟩
 go_wp2_with fail
 exact bodyPost_ret (v := .agg #[.slice (some ⟨w.heap.size + 1 + 1, 0, none⟩) 1 1, .int .i64 0, .int .i64 (-1), .bool false]) (by simp [results, Tryz.results187, go_sem]) rfl ⟨rfl, rfl⟩
theorem shapeOf_P (KP : Nat) (w : World) :
  Calls Tryz.prog 146 #[.agg #[.int .i64 1, .string ⟨#[]⟩, .int .i64 0, .int .i64 0, .slice (some ⟨KP, 0, none⟩) 2 2], .int .i64 0] w fun e w' => e = .returned (.agg #[.slice (some ⟨w.heap.size + 1 + 1 + 1 + 1, 0, none⟩) 1 1, .int .i64 0, .int .i64 (-1), .bool false]) ∧ w' = ((((((w.alloc (.cells #[.int .i64 1, .string ⟨#[]⟩, .int .i64 0, .int .i64 0, .slice (some ⟨KP, 0, none⟩) 2 2] 98)).alloc (.cells #[.slice (some ⟨w.heap.size + 1 + 1 + 1 + 1, 0, none⟩) 1 1, .int .i64 0, .int .i64 (-1), .bool false] 237)).alloc (.cells #[.int .i64 1, .string ⟨#[]⟩, .int .i64 0, .int .i64 0, .slice (some ⟨KP, 0, none⟩) 2 2] 98)).alloc (.cells #[.slice (some ⟨w.heap.size + 1 + 1 + 1 + 1, 0, none⟩) 1 1, .int .i64 0, .int .i64 (-1), .bool false] 237)).alloc (.cells #[.int .i64 2] 190)).alloc (.cells #[.slice (some ⟨w.heap.size + 1 + 1 + 1 + 1, 0, none⟩) 1 1, .int .i64 0, .int .i64 (-1), .bool false] 237)) := by
 go_enter Tryz.func146, Tryz.ntmps146
 go_wp2_with fail
 refine Calls.mono (declShape_P _ _) ?_
 rintro _ w1 ⟨rfl, rfl⟩
 go_wp2_with fail
 exact bodyPost_ret (v := .agg #[.slice (some ⟨w.heap.size + 1 + 1 + 1 + 1, 0, none⟩) 1 1, .int .i64 0, .int .i64 (-1), .bool false]) (by simp [results, Tryz.results146, go_sem]) rfl ⟨rfl, rfl⟩
theorem declShape_S (KS : Nat) (w : World) :
  Calls Tryz.prog 187 #[.agg #[.int .i64 3, .string ⟨#[83]⟩, .int .i64 0, .int .i64 0, .slice (some ⟨KS, 0, none⟩) 2 2]] w fun e w' => e = .returned (.agg #[.slice (some ⟨w.heap.size + 1 + 1 + 1, 0, none⟩) 1 1, .int .i64 0, .int .i64 30, .bool true]) ∧ w' = ((((w.alloc (.cells #[.int .i64 3, .string ⟨#[83]⟩, .int .i64 0, .int .i64 0, .slice (some ⟨KS, 0, none⟩) 2 2] 98)).alloc (.cells #[.slice (some ⟨w.heap.size + 1 + 1 + 1, 0, none⟩) 1 1, .int .i64 0, .int .i64 30, .bool true] 237)).alloc (.cells #[.slice (some ⟨w.heap.size + 1 + 1 + 1, 0, none⟩) 1 1, .int .i64 0, .int .i64 30, .bool true] 237)).alloc (.cells #[.int .i64 3] 190)) := by
 go_enter Tryz.func187, Tryz.ntmps187
 go_wp2_with fail
 refine Calls.mono (atMost_any _ _ _) ?_
 rintro _ w1 ⟨rfl, rfl⟩
 go_wp2_with fail
 exact bodyPost_ret (v := .agg #[.slice (some ⟨w.heap.size + 1 + 1 + 1, 0, none⟩) 1 1, .int .i64 0, .int .i64 30, .bool true]) (by simp [results, Tryz.results187, go_sem]) rfl ⟨rfl, rfl⟩
theorem shapeOf_S (KS : Nat) (w : World) :
  Calls Tryz.prog 146 #[.agg #[.int .i64 3, .string ⟨#[83]⟩, .int .i64 0, .int .i64 0, .slice (some ⟨KS, 0, none⟩) 2 2], .int .i64 2] w fun e w' => e = .returned (.agg #[.slice (some ⟨w.heap.size + 1 + 1 + 1 + 1 + 1, 0, none⟩) 1 1, .int .i64 0, .int .i64 30, .bool true]) ∧ w' = ((((((w.alloc (.cells #[.int .i64 3, .string ⟨#[83]⟩, .int .i64 0, .int .i64 0, .slice (some ⟨KS, 0, none⟩) 2 2] 98)).alloc (.cells #[.slice (some ⟨w.heap.size + 1 + 1 + 1 + 1 + 1, 0, none⟩) 1 1, .int .i64 0, .int .i64 30, .bool true] 237)).alloc (.cells #[.int .i64 3, .string ⟨#[83]⟩, .int .i64 0, .int .i64 0, .slice (some ⟨KS, 0, none⟩) 2 2] 98)).alloc (.cells #[.slice (some ⟨w.heap.size + 1 + 1 + 1 + 1 + 1, 0, none⟩) 1 1, .int .i64 0, .int .i64 30, .bool true] 237)).alloc (.cells #[.slice (some ⟨w.heap.size + 1 + 1 + 1 + 1 + 1, 0, none⟩) 1 1, .int .i64 0, .int .i64 30, .bool true] 237)).alloc (.cells #[.int .i64 3] 190)) := by
 go_enter Tryz.func146, Tryz.ntmps146
 go_wp2_with fail
 refine Calls.mono (declShape_S _ _) ?_
 rintro _ w1 ⟨rfl, rfl⟩
 go_wp2_with fail
 exact bodyPost_ret (v := .agg #[.slice (some ⟨w.heap.size + 1 + 1 + 1 + 1 + 1, 0, none⟩) 1 1, .int .i64 0, .int .i64 30, .bool true]) (by simp [results, Tryz.results146, go_sem]) rfl ⟨rfl, rfl⟩
theorem declShape_T (KT : Nat) (w : World) :
  Calls Tryz.prog 187 #[.agg #[.int .i64 3, .string ⟨#[84]⟩, .int .i64 0, .int .i64 0, .slice (some ⟨KT, 0, none⟩) 1 1]] w fun e w' => e = .returned (.agg #[.slice (some ⟨w.heap.size + 1 + 1 + 1, 0, none⟩) 1 1, .int .i64 0, .int .i64 30, .bool true]) ∧ w' = ((((w.alloc (.cells #[.int .i64 3, .string ⟨#[84]⟩, .int .i64 0, .int .i64 0, .slice (some ⟨KT, 0, none⟩) 1 1] 98)).alloc (.cells #[.slice (some ⟨w.heap.size + 1 + 1 + 1, 0, none⟩) 1 1, .int .i64 0, .int .i64 30, .bool true] 237)).alloc (.cells #[.slice (some ⟨w.heap.size + 1 + 1 + 1, 0, none⟩) 1 1, .int .i64 0, .int .i64 30, .bool true] 237)).alloc (.cells #[.int .i64 3] 190)) := by
 go_enter Tryz.func187, Tryz.ntmps187
 go_wp2_with fail
 refine Calls.mono (atMost_any _ _ _) ?_
 rintro _ w1 ⟨rfl, rfl⟩
 go_wp2_with fail
 exact bodyPost_ret (v := .agg #[.slice (some ⟨w.heap.size + 1 + 1 + 1, 0, none⟩) 1 1, .int .i64 0, .int .i64 30, .bool true]) (by simp [results, Tryz.results187, go_sem]) rfl ⟨rfl, rfl⟩
theorem shapeOf_T (KT : Nat) (w : World) :
  Calls Tryz.prog 146 #[.agg #[.int .i64 3, .string ⟨#[84]⟩, .int .i64 0, .int .i64 0, .slice (some ⟨KT, 0, none⟩) 1 1], .int .i64 2] w fun e w' => e = .returned (.agg #[.slice (some ⟨w.heap.size + 1 + 1 + 1 + 1 + 1, 0, none⟩) 1 1, .int .i64 0, .int .i64 30, .bool true]) ∧ w' = ((((((w.alloc (.cells #[.int .i64 3, .string ⟨#[84]⟩, .int .i64 0, .int .i64 0, .slice (some ⟨KT, 0, none⟩) 1 1] 98)).alloc (.cells #[.slice (some ⟨w.heap.size + 1 + 1 + 1 + 1 + 1, 0, none⟩) 1 1, .int .i64 0, .int .i64 30, .bool true] 237)).alloc (.cells #[.int .i64 3, .string ⟨#[84]⟩, .int .i64 0, .int .i64 0, .slice (some ⟨KT, 0, none⟩) 1 1] 98)).alloc (.cells #[.slice (some ⟨w.heap.size + 1 + 1 + 1 + 1 + 1, 0, none⟩) 1 1, .int .i64 0, .int .i64 30, .bool true] 237)).alloc (.cells #[.slice (some ⟨w.heap.size + 1 + 1 + 1 + 1 + 1, 0, none⟩) 1 1, .int .i64 0, .int .i64 30, .bool true] 237)).alloc (.cells #[.int .i64 3] 190)) := by
 go_enter Tryz.func146, Tryz.ntmps146
 go_wp2_with fail
 refine Calls.mono (declShape_T _ _) ?_
 rintro _ w1 ⟨rfl, rfl⟩
 go_wp2_with fail
 exact bodyPost_ret (v := .agg #[.slice (some ⟨w.heap.size + 1 + 1 + 1 + 1 + 1, 0, none⟩) 1 1, .int .i64 0, .int .i64 30, .bool true]) (by simp [results, Tryz.results146, go_sem]) rfl ⟨rfl, rfl⟩
theorem exprShape_f (w : World) :
  Calls Tryz.prog 189 #[.agg #[.int .i64 8, .string ⟨#[102]⟩, .int .i64 0, .int .i64 0, .slice none 0 0], .int .i64 3] w fun e w' => e = .returned (.agg #[.slice none 0 0, .int .i64 0, .int .i64 0, .bool false]) ∧ w' = (((w.alloc (.cells #[.int .i64 8, .string ⟨#[102]⟩, .int .i64 0, .int .i64 0, .slice none 0 0] 98)).alloc (.cells #[.slice none 0 0, .int .i64 0, .int .i64 0, .bool false] 237)).alloc (.cells #[.slice none 0 0, .int .i64 0, .int .i64 0, .bool false] 237)) := by
 go_enter Tryz.func189, Tryz.ntmps189
 go_wp2_with fail
 refine Calls.mono (exactly_none _) ?_
 rintro _ w1 ⟨rfl, rfl⟩
 go_wp2_with fail
 exact bodyPost_ret (v := .agg #[.slice none 0 0, .int .i64 0, .int .i64 0, .bool false]) (by simp [results, Tryz.results189, go_sem]) rfl ⟨rfl, rfl⟩
theorem shapeOf_f (w : World) :
  Calls Tryz.prog 146 #[.agg #[.int .i64 8, .string ⟨#[102]⟩, .int .i64 0, .int .i64 0, .slice none 0 0], .int .i64 3] w fun e w' => e = .returned (.agg #[.slice none 0 0, .int .i64 0, .int .i64 0, .bool false]) ∧ w' = (((((w.alloc (.cells #[.int .i64 8, .string ⟨#[102]⟩, .int .i64 0, .int .i64 0, .slice none 0 0] 98)).alloc (.cells #[.slice none 0 0, .int .i64 0, .int .i64 0, .bool false] 237)).alloc (.cells #[.int .i64 8, .string ⟨#[102]⟩, .int .i64 0, .int .i64 0, .slice none 0 0] 98)).alloc (.cells #[.slice none 0 0, .int .i64 0, .int .i64 0, .bool false] 237)).alloc (.cells #[.slice none 0 0, .int .i64 0, .int .i64 0, .bool false] 237)) := by
 go_enter Tryz.func146, Tryz.ntmps146
 go_wp2_with fail
 refine Calls.mono (exprShape_f _) ?_
 rintro _ w1 ⟨rfl, rfl⟩
 go_wp2_with fail
 exact bodyPost_ret (v := .agg #[.slice none 0 0, .int .i64 0, .int .i64 0, .bool false]) (by simp [results, Tryz.results146, go_sem]) rfl ⟨rfl, rfl⟩
theorem exprShape_g (w : World) :
  Calls Tryz.prog 189 #[.agg #[.int .i64 8, .string ⟨#[103]⟩, .int .i64 0, .int .i64 0, .slice none 0 0], .int .i64 3] w fun e w' => e = .returned (.agg #[.slice none 0 0, .int .i64 0, .int .i64 0, .bool false]) ∧ w' = (((w.alloc (.cells #[.int .i64 8, .string ⟨#[103]⟩, .int .i64 0, .int .i64 0, .slice none 0 0] 98)).alloc (.cells #[.slice none 0 0, .int .i64 0, .int .i64 0, .bool false] 237)).alloc (.cells #[.slice none 0 0, .int .i64 0, .int .i64 0, .bool false] 237)) := by
 go_enter Tryz.func189, Tryz.ntmps189
 go_wp2_with fail
 refine Calls.mono (exactly_none _) ?_
 rintro _ w1 ⟨rfl, rfl⟩
 go_wp2_with fail
 exact bodyPost_ret (v := .agg #[.slice none 0 0, .int .i64 0, .int .i64 0, .bool false]) (by simp [results, Tryz.results189, go_sem]) rfl ⟨rfl, rfl⟩
theorem shapeOf_g (w : World) :
  Calls Tryz.prog 146 #[.agg #[.int .i64 8, .string ⟨#[103]⟩, .int .i64 0, .int .i64 0, .slice none 0 0], .int .i64 3] w fun e w' => e = .returned (.agg #[.slice none 0 0, .int .i64 0, .int .i64 0, .bool false]) ∧ w' = (((((w.alloc (.cells #[.int .i64 8, .string ⟨#[103]⟩, .int .i64 0, .int .i64 0, .slice none 0 0] 98)).alloc (.cells #[.slice none 0 0, .int .i64 0, .int .i64 0, .bool false] 237)).alloc (.cells #[.int .i64 8, .string ⟨#[103]⟩, .int .i64 0, .int .i64 0, .slice none 0 0] 98)).alloc (.cells #[.slice none 0 0, .int .i64 0, .int .i64 0, .bool false] 237)).alloc (.cells #[.slice none 0 0, .int .i64 0, .int .i64 0, .bool false] 237)) := by
 go_enter Tryz.func146, Tryz.ntmps146
 go_wp2_with fail
 refine Calls.mono (exprShape_g _) ?_
 rintro _ w1 ⟨rfl, rfl⟩
 go_wp2_with fail
 exact bodyPost_ret (v := .agg #[.slice none 0 0, .int .i64 0, .int .i64 0, .bool false]) (by simp [results, Tryz.results146, go_sem]) rfl ⟨rfl, rfl⟩
theorem exprShape_a (w : World) :
  Calls Tryz.prog 189 #[.agg #[.int .i64 8, .string ⟨#[97]⟩, .int .i64 0, .int .i64 0, .slice none 0 0], .int .i64 3] w fun e w' => e = .returned (.agg #[.slice none 0 0, .int .i64 0, .int .i64 0, .bool false]) ∧ w' = (((w.alloc (.cells #[.int .i64 8, .string ⟨#[97]⟩, .int .i64 0, .int .i64 0, .slice none 0 0] 98)).alloc (.cells #[.slice none 0 0, .int .i64 0, .int .i64 0, .bool false] 237)).alloc (.cells #[.slice none 0 0, .int .i64 0, .int .i64 0, .bool false] 237)) := by
 go_enter Tryz.func189, Tryz.ntmps189
 go_wp2_with fail
 refine Calls.mono (exactly_none _) ?_
 rintro _ w1 ⟨rfl, rfl⟩
 go_wp2_with fail
 exact bodyPost_ret (v := .agg #[.slice none 0 0, .int .i64 0, .int .i64 0, .bool false]) (by simp [results, Tryz.results189, go_sem]) rfl ⟨rfl, rfl⟩
theorem shapeOf_a (w : World) :
  Calls Tryz.prog 146 #[.agg #[.int .i64 8, .string ⟨#[97]⟩, .int .i64 0, .int .i64 0, .slice none 0 0], .int .i64 3] w fun e w' => e = .returned (.agg #[.slice none 0 0, .int .i64 0, .int .i64 0, .bool false]) ∧ w' = (((((w.alloc (.cells #[.int .i64 8, .string ⟨#[97]⟩, .int .i64 0, .int .i64 0, .slice none 0 0] 98)).alloc (.cells #[.slice none 0 0, .int .i64 0, .int .i64 0, .bool false] 237)).alloc (.cells #[.int .i64 8, .string ⟨#[97]⟩, .int .i64 0, .int .i64 0, .slice none 0 0] 98)).alloc (.cells #[.slice none 0 0, .int .i64 0, .int .i64 0, .bool false] 237)).alloc (.cells #[.slice none 0 0, .int .i64 0, .int .i64 0, .bool false] 237)) := by
 go_enter Tryz.func146, Tryz.ntmps146
 go_wp2_with fail
 refine Calls.mono (exprShape_a _) ?_
 rintro _ w1 ⟨rfl, rfl⟩
 go_wp2_with fail
 exact bodyPost_ret (v := .agg #[.slice none 0 0, .int .i64 0, .int .i64 0, .bool false]) (by simp [results, Tryz.results146, go_sem]) rfl ⟨rfl, rfl⟩
theorem takes_1 (w : World) :
  Calls Tryz.prog 190 #[.int .i64 0, .int .i64 1] w fun e w' => e = .returned (.bool true) ∧ w' = w := by
 go_enter Tryz.func190, Tryz.ntmps190
 go_wp2
 go_ret
 exact ⟨rfl, rfl⟩
theorem takes_3 (w : World) :
  Calls Tryz.prog 190 #[.int .i64 2, .int .i64 3] w fun e w' => e = .returned (.bool true) ∧ w' = w := by
 go_enter Tryz.func190, Tryz.ntmps190
 go_wp2
 go_ret
 exact ⟨rfl, rfl⟩
theorem takes_8 (w : World) :
  Calls Tryz.prog 190 #[.int .i64 3, .int .i64 8] w fun e w' => e = .returned (.bool true) ∧ w' = w := by
 go_enter Tryz.func190, Tryz.ntmps190
 go_wp2
 go_ret
 exact ⟨rfl, rfl⟩
end Go.Proofs.YtdbijkgnddcneaaGreatDoor.Lx
namespace Go.Proofs.YtdbijkgnddcneaaGreatDoor.Lx
open Go.RowKit Go.ChangeMaps
set_option maxRecDepth 100000
set_option maxHeartbeats 4000000
theorem beginning_any (w : World) :
  Calls Tryz.prog 72 #[] w fun e w' => e = .returned (.map (some w.heap.size)) ∧ w' = (((((w.alloc (.map #[⟨.string ⟨#[102, 97, 117, 108, 116]⟩, .agg #[.int .i64 8, .bool true, .slice (some ⟨w.heap.size + 1, 0, none⟩) 2 2, .map (some (w.heap.size + 1 + 1))], 0⟩, ⟨.string ⟨#[101, 114, 114, 111, 114]⟩, .agg #[.int .i64 0, .bool true, .slice none 0 0, .map (some (w.heap.size + 1 + 1 + 1))], 1⟩, ⟨.string ⟨#[97, 110, 121]⟩, .agg #[.int .i64 0, .bool true, .slice none 0 0, .map none], 2⟩, ⟨.string ⟨#[98, 111, 111, 108]⟩, .agg #[.int .i64 1, .bool true, .slice none 0 0, .map none], 3⟩, ⟨.string ⟨#[105, 110, 116]⟩, .agg #[.int .i64 2, .bool true, .slice none 0 0, .map none], 4⟩, ⟨.string ⟨#[102, 108, 111, 97, 116]⟩, .agg #[.int .i64 3, .bool true, .slice none 0 0, .map none], 5⟩, ⟨.string ⟨#[116, 101, 120, 116]⟩, .agg #[.int .i64 4, .bool true, .slice none 0 0, .map none], 6⟩, ⟨.string ⟨#[108, 105, 115, 116]⟩, .agg #[.int .i64 5, .bool true, .slice none 0 0, .map none], 7⟩, ⟨.string ⟨#[109, 97, 112]⟩, .agg #[.int .i64 6, .bool true, .slice none 0 0, .map none], 8⟩, ⟨.string ⟨#[102, 117, 110, 99]⟩, .agg #[.int .i64 7, .bool true, .slice none 0 0, .map none], 9⟩] 10)).alloc (.cells #[.string ⟨#[119, 111, 114, 100]⟩, .int .i64 0, .string ⟨#[109, 111, 114, 101]⟩, .int .i64 0] 193)).alloc (.map #[⟨.string ⟨#[119, 111, 114, 100]⟩, .agg #[.bool true, .int .i64 0, .bool false, .int .i64 0], 0⟩, ⟨.string ⟨#[109, 111, 114, 101]⟩, .agg #[.bool true, .int .i64 1, .bool false, .int .i64 0], 1⟩, ⟨.string ⟨#[69, 114, 114, 111, 114]⟩, .agg #[.bool false, .int .i64 0, .bool true, .int .i64 0], 2⟩] 3)).alloc (.map #[⟨.string ⟨#[69, 114, 114, 111, 114]⟩, .agg #[.bool false, .int .i64 0, .bool false, .int .i64 0], 0⟩] 1)).alloc (.cells #[.string ⟨#[98, 111, 111, 108]⟩, .string ⟨#[105, 110, 116]⟩, .string ⟨#[102, 108, 111, 97, 116]⟩, .string ⟨#[116, 101, 120, 116]⟩, .string ⟨#[108, 105, 115, 116]⟩, .string ⟨#[109, 97, 112]⟩, .string ⟨#[102, 117, 110, 99]⟩] 9)) := by
 have hmm := @run_makeMap Tryz.prog
 go_enter Tryz.func72, Tryz.ntmps72
 go_wp2_with (first | (refine wpList_upd _ rfl 197 _ _ _ (Or.inr rfl) 9 196 Tryz.underlying197 Tryz.underlying9 (w.heap.size + 1 + 1) #[] 0 (⟨#[119, 111, 114, 100]⟩) _ rfl rfl rfl (by exact heap_new _ _ _ (by simp)) rfl ?_; rw [setBlock_new _ _ _ _ (by simp)]) | (refine wpList_upd _ rfl 197 _ _ _ (Or.inr rfl) 9 196 Tryz.underlying197 Tryz.underlying9 (w.heap.size + 1 + 1) #[⟨.string ⟨#[119, 111, 114, 100]⟩, .agg #[.bool true, .int .i64 0, .bool false, .int .i64 0], 0⟩] 1 (⟨#[109, 111, 114, 101]⟩) _ rfl rfl rfl (by exact heap_new _ _ _ (by simp)) rfl ?_; rw [setBlock_new _ _ _ _ (by simp)]) | (refine wpList_upd _ rfl 197 _ _ _ (Or.inr rfl) 9 196 Tryz.underlying197 Tryz.underlying9 (w.heap.size + 1 + 1) #[⟨.string ⟨#[119, 111, 114, 100]⟩, .agg #[.bool true, .int .i64 0, .bool false, .int .i64 0], 0⟩, ⟨.string ⟨#[109, 111, 114, 101]⟩, .agg #[.bool true, .int .i64 1, .bool false, .int .i64 0], 1⟩] 2 (⟨#[69, 114, 114, 111, 114]⟩) _ rfl rfl rfl (by exact heap_new _ _ _ (by simp)) rfl ?_; rw [setBlock_new _ _ _ _ (by simp)]) | (refine wpList_upd _ rfl 197 _ _ _ (Or.inr rfl) 9 196 Tryz.underlying197 Tryz.underlying9 (w.heap.size + 1 + 1 + 1) #[] 0 (⟨#[69, 114, 114, 111, 114]⟩) _ rfl rfl rfl (by exact heap_new _ _ _ (by simp)) rfl ?_; rw [setBlock_new _ _ _ _ (by simp)]) | (refine wpList_upd _ rfl 146 _ _ _ (Or.inr rfl) 9 199 Tryz.underlying146 Tryz.underlying9 (w.heap.size) #[] 0 (⟨#[102, 97, 117, 108, 116]⟩) _ rfl rfl rfl (by rw [heap_old _ _ _ (by simp <;> omega), heap_old _ _ _ (by simp <;> omega)]; exact heap_new _ _ _ (by simp)) rfl ?_; rw [setBlock_old _ _ _ _ (by simp <;> omega), setBlock_old _ _ _ _ (by simp <;> omega), setBlock_new _ _ _ _ (by simp)]) | (refine wpList_upd _ rfl 146 _ _ _ (Or.inr rfl) 9 199 Tryz.underlying146 Tryz.underlying9 (w.heap.size) #[⟨.string ⟨#[102, 97, 117, 108, 116]⟩, .agg #[.int .i64 8, .bool true, .slice (some ⟨w.heap.size + 1, 0, none⟩) 2 2, .map (some (w.heap.size + 1 + 1))], 0⟩] 1 (⟨#[101, 114, 114, 111, 114]⟩) _ rfl rfl rfl (by rw [heap_old _ _ _ (by simp <;> omega), heap_old _ _ _ (by simp <;> omega), heap_old _ _ _ (by simp <;> omega)]; exact heap_new _ _ _ (by simp)) rfl ?_; rw [setBlock_old _ _ _ _ (by simp <;> omega), setBlock_old _ _ _ _ (by simp <;> omega), setBlock_old _ _ _ _ (by simp <;> omega), setBlock_new _ _ _ _ (by simp)]) | (refine wpList_upd _ rfl 146 _ _ _ (Or.inr rfl) 9 199 Tryz.underlying146 Tryz.underlying9 (w.heap.size) #[⟨.string ⟨#[102, 97, 117, 108, 116]⟩, .agg #[.int .i64 8, .bool true, .slice (some ⟨w.heap.size + 1, 0, none⟩) 2 2, .map (some (w.heap.size + 1 + 1))], 0⟩, ⟨.string ⟨#[101, 114, 114, 111, 114]⟩, .agg #[.int .i64 0, .bool true, .slice none 0 0, .map (some (w.heap.size + 1 + 1 + 1))], 1⟩] 2 (⟨#[97, 110, 121]⟩) _ rfl rfl rfl (by rw [heap_old _ _ _ (by simp <;> omega), heap_old _ _ _ (by simp <;> omega), heap_old _ _ _ (by simp <;> omega)]; exact heap_new _ _ _ (by simp)) rfl ?_; rw [setBlock_old _ _ _ _ (by simp <;> omega), setBlock_old _ _ _ _ (by simp <;> omega), setBlock_old _ _ _ _ (by simp <;> omega), setBlock_new _ _ _ _ (by simp)]))
 refine wp_loop_rounds 8 ?_
 rw [rounds_succ]
 go_wp2_with (first | (refine wpList_upd _ rfl 146 _ _ _ (Or.inl rfl) 9 199 Tryz.underlying146 Tryz.underlying9 (w.heap.size) #[⟨.string ⟨#[102, 97, 117, 108, 116]⟩, .agg #[.int .i64 8, .bool true, .slice (some ⟨w.heap.size + 1, 0, none⟩) 2 2, .map (some (w.heap.size + 1 + 1))], 0⟩, ⟨.string ⟨#[101, 114, 114, 111, 114]⟩, .agg #[.int .i64 0, .bool true, .slice none 0 0, .map (some (w.heap.size + 1 + 1 + 1))], 1⟩, ⟨.string ⟨#[97, 110, 121]⟩, .agg #[.int .i64 0, .bool true, .slice none 0 0, .map none], 2⟩] 3 (⟨#[98, 111, 111, 108]⟩) _ rfl rfl rfl (by rw [heap_old _ _ _ (by simp <;> omega), heap_old _ _ _ (by simp <;> omega), heap_old _ _ _ (by simp <;> omega), heap_old _ _ _ (by simp <;> omega)]; exact heap_new _ _ _ (by simp)) rfl ?_; rw [setBlock_old _ _ _ _ (by simp <;> omega), setBlock_old _ _ _ _ (by simp <;> omega), setBlock_old _ _ _ _ (by simp <;> omega), setBlock_old _ _ _ _ (by simp <;> omega), setBlock_new _ _ _ _ (by simp)]))
 rw [rounds_succ]
 go_wp2_with (first | (refine wpList_upd _ rfl 146 _ _ _ (Or.inl rfl) 9 199 Tryz.underlying146 Tryz.underlying9 (w.heap.size) #[⟨.string ⟨#[102, 97, 117, 108, 116]⟩, .agg #[.int .i64 8, .bool true, .slice (some ⟨w.heap.size + 1, 0, none⟩) 2 2, .map (some (w.heap.size + 1 + 1))], 0⟩, ⟨.string ⟨#[101, 114, 114, 111, 114]⟩, .agg #[.int .i64 0, .bool true, .slice none 0 0, .map (some (w.heap.size + 1 + 1 + 1))], 1⟩, ⟨.string ⟨#[97, 110, 121]⟩, .agg #[.int .i64 0, .bool true, .slice none 0 0, .map none], 2⟩, ⟨.string ⟨#[98, 111, 111, 108]⟩, .agg #[.int .i64 1, .bool true, .slice none 0 0, .map none], 3⟩] 4 (⟨#[105, 110, 116]⟩) _ rfl rfl rfl (by rw [heap_old _ _ _ (by simp <;> omega), heap_old _ _ _ (by simp <;> omega), heap_old _ _ _ (by simp <;> omega), heap_old _ _ _ (by simp <;> omega)]; exact heap_new _ _ _ (by simp)) rfl ?_; rw [setBlock_old _ _ _ _ (by simp <;> omega), setBlock_old _ _ _ _ (by simp <;> omega), setBlock_old _ _ _ _ (by simp <;> omega), setBlock_old _ _ _ _ (by simp <;> omega), setBlock_new _ _ _ _ (by simp)]))
 rw [rounds_succ]
 go_wp2_with (first | (refine wpList_upd _ rfl 146 _ _ _ (Or.inl rfl) 9 199 Tryz.underlying146 Tryz.underlying9 (w.heap.size) #[⟨.string ⟨#[102, 97, 117, 108, 116]⟩, .agg #[.int .i64 8, .bool true, .slice (some ⟨w.heap.size + 1, 0, none⟩) 2 2, .map (some (w.heap.size + 1 + 1))], 0⟩, ⟨.string ⟨#[101, 114, 114, 111, 114]⟩, .agg #[.int .i64 0, .bool true, .slice none 0 0, .map (some (w.heap.size + 1 + 1 + 1))], 1⟩, ⟨.string ⟨#[97, 110, 121]⟩, .agg #[.int .i64 0, .bool true, .slice none 0 0, .map none], 2⟩, ⟨.string ⟨#[98, 111, 111, 108]⟩, .agg #[.int .i64 1, .bool true, .slice none 0 0, .map none], 3⟩, ⟨.string ⟨#[105, 110, 116]⟩, .agg #[.int .i64 2, .bool true, .slice none 0 0, .map none], 4⟩] 5 (⟨#[102, 108, 111, 97, 116]⟩) _ rfl rfl rfl (by rw [heap_old _ _ _ (by simp <;> omega), heap_old _ _ _ (by simp <;> omega), heap_old _ _ _ (by simp <;> omega), heap_old _ _ _ (by simp <;> omega)]; exact heap_new _ _ _ (by simp)) rfl ?_; rw [setBlock_old _ _ _ _ (by simp <;> omega), setBlock_old _ _ _ _ (by simp <;> omega), setBlock_old _ _ _ _ (by simp <;> omega), setBlock_old _ _ _ _ (by simp <;> omega), setBlock_new _ _ _ _ (by simp)]))
 rw [rounds_succ]
 go_wp2_with (first | (refine wpList_upd _ rfl 146 _ _ _ (Or.inl rfl) 9 199 Tryz.underlying146 Tryz.underlying9 (w.heap.size) #[⟨.string ⟨#[102, 97, 117, 108, 116]⟩, .agg #[.int .i64 8, .bool true, .slice (some ⟨w.heap.size + 1, 0, none⟩) 2 2, .map (some (w.heap.size + 1 + 1))], 0⟩, ⟨.string ⟨#[101, 114, 114, 111, 114]⟩, .agg #[.int .i64 0, .bool true, .slice none 0 0, .map (some (w.heap.size + 1 + 1 + 1))], 1⟩, ⟨.string ⟨#[97, 110, 121]⟩, .agg #[.int .i64 0, .bool true, .slice none 0 0, .map none], 2⟩, ⟨.string ⟨#[98, 111, 111, 108]⟩, .agg #[.int .i64 1, .bool true, .slice none 0 0, .map none], 3⟩, ⟨.string ⟨#[105, 110, 116]⟩, .agg #[.int .i64 2, .bool true, .slice none 0 0, .map none], 4⟩, ⟨.string ⟨#[102, 108, 111, 97, 116]⟩, .agg #[.int .i64 3, .bool true, .slice none 0 0, .map none], 5⟩] 6 (⟨#[116, 101, 120, 116]⟩) _ rfl rfl rfl (by rw [heap_old _ _ _ (by simp <;> omega), heap_old _ _ _ (by simp <;> omega), heap_old _ _ _ (by simp <;> omega), heap_old _ _ _ (by simp <;> omega)]; exact heap_new _ _ _ (by simp)) rfl ?_; rw [setBlock_old _ _ _ _ (by simp <;> omega), setBlock_old _ _ _ _ (by simp <;> omega), setBlock_old _ _ _ _ (by simp <;> omega), setBlock_old _ _ _ _ (by simp <;> omega), setBlock_new _ _ _ _ (by simp)]))
 rw [rounds_succ]
 go_wp2_with (first | (refine wpList_upd _ rfl 146 _ _ _ (Or.inl rfl) 9 199 Tryz.underlying146 Tryz.underlying9 (w.heap.size) #[⟨.string ⟨#[102, 97, 117, 108, 116]⟩, .agg #[.int .i64 8, .bool true, .slice (some ⟨w.heap.size + 1, 0, none⟩) 2 2, .map (some (w.heap.size + 1 + 1))], 0⟩, ⟨.string ⟨#[101, 114, 114, 111, 114]⟩, .agg #[.int .i64 0, .bool true, .slice none 0 0, .map (some (w.heap.size + 1 + 1 + 1))], 1⟩, ⟨.string ⟨#[97, 110, 121]⟩, .agg #[.int .i64 0, .bool true, .slice none 0 0, .map none], 2⟩, ⟨.string ⟨#[98, 111, 111, 108]⟩, .agg #[.int .i64 1, .bool true, .slice none 0 0, .map none], 3⟩, ⟨.string ⟨#[105, 110, 116]⟩, .agg #[.int .i64 2, .bool true, .slice none 0 0, .map none], 4⟩, ⟨.string ⟨#[102, 108, 111, 97, 116]⟩, .agg #[.int .i64 3, .bool true, .slice none 0 0, .map none], 5⟩, ⟨.string ⟨#[116, 101, 120, 116]⟩, .agg #[.int .i64 4, .bool true, .slice none 0 0, .map none], 6⟩] 7 (⟨#[108, 105, 115, 116]⟩) _ rfl rfl rfl (by rw [heap_old _ _ _ (by simp <;> omega), heap_old _ _ _ (by simp <;> omega), heap_old _ _ _ (by simp <;> omega), heap_old _ _ _ (by simp <;> omega)]; exact heap_new _ _ _ (by simp)) rfl ?_; rw [setBlock_old _ _ _ _ (by simp <;> omega), setBlock_old _ _ _ _ (by simp <;> omega), setBlock_old _ _ _ _ (by simp <;> omega), setBlock_old _ _ _ _ (by simp <;> omega), setBlock_new _ _ _ _ (by simp)]))
 rw [rounds_succ]
 go_wp2_with (first | (refine wpList_upd _ rfl 146 _ _ _ (Or.inl rfl) 9 199 Tryz.underlying146 Tryz.underlying9 (w.heap.size) #[⟨.string ⟨#[102, 97, 117, 108, 116]⟩, .agg #[.int .i64 8, .bool true, .slice (some ⟨w.heap.size + 1, 0, none⟩) 2 2, .map (some (w.heap.size + 1 + 1))], 0⟩, ⟨.string ⟨#[101, 114, 114, 111, 114]⟩, .agg #[.int .i64 0, .bool true, .slice none 0 0, .map (some (w.heap.size + 1 + 1 + 1))], 1⟩, ⟨.string ⟨#[97, 110, 121]⟩, .agg #[.int .i64 0, .bool true, .slice none 0 0, .map none], 2⟩, ⟨.string ⟨#[98, 111, 111, 108]⟩, .agg #[.int .i64 1, .bool true, .slice none 0 0, .map none], 3⟩, ⟨.string ⟨#[105, 110, 116]⟩, .agg #[.int .i64 2, .bool true, .slice none 0 0, .map none], 4⟩, ⟨.string ⟨#[102, 108, 111, 97, 116]⟩, .agg #[.int .i64 3, .bool true, .slice none 0 0, .map none], 5⟩, ⟨.string ⟨#[116, 101, 120, 116]⟩, .agg #[.int .i64 4, .bool true, .slice none 0 0, .map none], 6⟩, ⟨.string ⟨#[108, 105, 115, 116]⟩, .agg #[.int .i64 5, .bool true, .slice none 0 0, .map none], 7⟩] 8 (⟨#[109, 97, 112]⟩) _ rfl rfl rfl (by rw [heap_old _ _ _ (by simp <;> omega), heap_old _ _ _ (by simp <;> omega), heap_old _ _ _ (by simp <;> omega), heap_old _ _ _ (by simp <;> omega)]; exact heap_new _ _ _ (by simp)) rfl ?_; rw [setBlock_old _ _ _ _ (by simp <;> omega), setBlock_old _ _ _ _ (by simp <;> omega), setBlock_old _ _ _ _ (by simp <;> omega), setBlock_old _ _ _ _ (by simp <;> omega), setBlock_new _ _ _ _ (by simp)]))
 rw [rounds_succ]
 go_wp2_with (first | (refine wpList_upd _ rfl 146 _ _ _ (Or.inl rfl) 9 199 Tryz.underlying146 Tryz.underlying9 (w.heap.size) #[⟨.string ⟨#[102, 97, 117, 108, 116]⟩, .agg #[.int .i64 8, .bool true, .slice (some ⟨w.heap.size + 1, 0, none⟩) 2 2, .map (some (w.heap.size + 1 + 1))], 0⟩, ⟨.string ⟨#[101, 114, 114, 111, 114]⟩, .agg #[.int .i64 0, .bool true, .slice none 0 0, .map (some (w.heap.size + 1 + 1 + 1))], 1⟩, ⟨.string ⟨#[97, 110, 121]⟩, .agg #[.int .i64 0, .bool true, .slice none 0 0, .map none], 2⟩, ⟨.string ⟨#[98, 111, 111, 108]⟩, .agg #[.int .i64 1, .bool true, .slice none 0 0, .map none], 3⟩, ⟨.string ⟨#[105, 110, 116]⟩, .agg #[.int .i64 2, .bool true, .slice none 0 0, .map none], 4⟩, ⟨.string ⟨#[102, 108, 111, 97, 116]⟩, .agg #[.int .i64 3, .bool true, .slice none 0 0, .map none], 5⟩, ⟨.string ⟨#[116, 101, 120, 116]⟩, .agg #[.int .i64 4, .bool true, .slice none 0 0, .map none], 6⟩, ⟨.string ⟨#[108, 105, 115, 116]⟩, .agg #[.int .i64 5, .bool true, .slice none 0 0, .map none], 7⟩, ⟨.string ⟨#[109, 97, 112]⟩, .agg #[.int .i64 6, .bool true, .slice none 0 0, .map none], 8⟩] 9 (⟨#[102, 117, 110, 99]⟩) _ rfl rfl rfl (by rw [heap_old _ _ _ (by simp <;> omega), heap_old _ _ _ (by simp <;> omega), heap_old _ _ _ (by simp <;> omega), heap_old _ _ _ (by simp <;> omega)]; exact heap_new _ _ _ (by simp)) rfl ?_; rw [setBlock_old _ _ _ _ (by simp <;> omega), setBlock_old _ _ _ _ (by simp <;> omega), setBlock_old _ _ _ _ (by simp <;> omega), setBlock_old _ _ _ _ (by simp <;> omega), setBlock_new _ _ _ _ (by simp)]))
 rw [rounds_succ]
 go_wp2_with fail
 go_ret
 exact ⟨rfl, rfl⟩
end Go.Proofs.YtdbijkgnddcneaaGreatDoor.Lx
namespace Go.Proofs.YtdbijkgnddcneaaGreatDoor.Lx
open Go.RowKit Go.ChangeMaps
set_option maxRecDepth 100000
set_option maxHeartbeats 4000000
theorem isName_S {gw ow gs os : Nat} (w : World) (ht : TabsAt gw ow gs os w) :
  Calls Tryz.prog 217 #[.string ⟨#[83]⟩] w fun e w' => e = .returned (.bool true) ∧ Below w.heap.size w w' := by
 go_enter Tryz.func217, Tryz.ntmps217
 go_wp2_with fail
 refine Calls.mono (name_any ⟨#[83]⟩ _ ht) ?_
 rintro _ w1 ⟨rfl, hb⟩
 rw [show isName (⟨#[83]⟩ : ByteArray).data.toList = true from by decide +kernel]
 go_wp2_with fail
 go_ret
 exact ⟨rfl, hb⟩
theorem isName_T {gw ow gs os : Nat} (w : World) (ht : TabsAt gw ow gs os w) :
  Calls Tryz.prog 217 #[.string ⟨#[84]⟩] w fun e w' => e = .returned (.bool true) ∧ Below w.heap.size w w' := by
 go_enter Tryz.func217, Tryz.ntmps217
 go_wp2_with fail
 refine Calls.mono (name_any ⟨#[84]⟩ _ ht) ?_
 rintro _ w1 ⟨rfl, hb⟩
 rw [show isName (⟨#[84]⟩ : ByteArray).data.toList = true from by decide +kernel]
 go_wp2_with fail
 go_ret
 exact ⟨rfl, hb⟩
theorem isName_f {gw ow gs os : Nat} (w : World) (ht : TabsAt gw ow gs os w) :
  Calls Tryz.prog 217 #[.string ⟨#[102]⟩] w fun e w' => e = .returned (.bool true) ∧ Below w.heap.size w w' := by
 go_enter Tryz.func217, Tryz.ntmps217
 go_wp2_with fail
 refine Calls.mono (name_any ⟨#[102]⟩ _ ht) ?_
 rintro _ w1 ⟨rfl, hb⟩
 rw [show isName (⟨#[102]⟩ : ByteArray).data.toList = true from by decide +kernel]
 go_wp2_with fail
 go_ret
 exact ⟨rfl, hb⟩
theorem isName_g {gw ow gs os : Nat} (w : World) (ht : TabsAt gw ow gs os w) :
  Calls Tryz.prog 217 #[.string ⟨#[103]⟩] w fun e w' => e = .returned (.bool true) ∧ Below w.heap.size w w' := by
 go_enter Tryz.func217, Tryz.ntmps217
 go_wp2_with fail
 refine Calls.mono (name_any ⟨#[103]⟩ _ ht) ?_
 rintro _ w1 ⟨rfl, hb⟩
 rw [show isName (⟨#[103]⟩ : ByteArray).data.toList = true from by decide +kernel]
 go_wp2_with fail
 go_ret
 exact ⟨rfl, hb⟩
theorem isName_a {gw ow gs os : Nat} (w : World) (ht : TabsAt gw ow gs os w) :
  Calls Tryz.prog 217 #[.string ⟨#[97]⟩] w fun e w' => e = .returned (.bool true) ∧ Below w.heap.size w w' := by
 go_enter Tryz.func217, Tryz.ntmps217
 go_wp2_with fail
 refine Calls.mono (name_any ⟨#[97]⟩ _ ht) ?_
 rintro _ w1 ⟨rfl, hb⟩
 rw [show isName (⟨#[97]⟩ : ByteArray).data.toList = true from by decide +kernel]
 go_wp2_with fail
 go_ret
 exact ⟨rfl, hb⟩
theorem textFits_P (KP : Nat) (w : World) :
  Calls Tryz.prog 191 #[.agg #[.int .i64 1, .string ⟨#[]⟩, .int .i64 0, .int .i64 0, .slice (some ⟨KP, 0, none⟩) 2 2], .int .i64 0] w fun e w' => e = .returned (.bool true) ∧ Below w.heap.size w w' := by
 go_enter Tryz.func191, Tryz.ntmps191
 go_wp2_with fail
 go_ret
 exact ⟨rfl, below1 w _⟩
theorem textFits_S {gw ow gs os : Nat} (KS : Nat) (w : World) (ht : TabsAt gw ow gs os w) :
  Calls Tryz.prog 191 #[.agg #[.int .i64 3, .string ⟨#[83]⟩, .int .i64 0, .int .i64 0, .slice (some ⟨KS, 0, none⟩) 2 2], .int .i64 2] w fun e w' => e = .returned (.bool true) ∧ Below w.heap.size w w' := by
 go_enter Tryz.func191, Tryz.ntmps191
 go_wp2_with fail
 refine Calls.mono (isName_S _ (ht.below (Nat.le_refl _) (below1 w _))) ?_
 rintro _ w1 ⟨rfl, hb⟩
 go_wp2_with fail
 go_ret
 exact ⟨rfl, (below1 w _).trans (hb.mono (by simp))⟩
theorem textFits_T {gw ow gs os : Nat} (KT : Nat) (w : World) (ht : TabsAt gw ow gs os w) :
  Calls Tryz.prog 191 #[.agg #[.int .i64 3, .string ⟨#[84]⟩, .int .i64 0, .int .i64 0, .slice (some ⟨KT, 0, none⟩) 1 1], .int .i64 2] w fun e w' => e = .returned (.bool true) ∧ Below w.heap.size w w' := by
 go_enter Tryz.func191, Tryz.ntmps191
 go_wp2_with fail
 refine Calls.mono (isName_T _ (ht.below (Nat.le_refl _) (below1 w _))) ?_
 rintro _ w1 ⟨rfl, hb⟩
 go_wp2_with fail
 go_ret
 exact ⟨rfl, (below1 w _).trans (hb.mono (by simp))⟩
theorem textFits_f {gw ow gs os : Nat} (w : World) (ht : TabsAt gw ow gs os w) :
  Calls Tryz.prog 191 #[.agg #[.int .i64 8, .string ⟨#[102]⟩, .int .i64 0, .int .i64 0, .slice none 0 0], .int .i64 3] w fun e w' => e = .returned (.bool true) ∧ Below w.heap.size w w' := by
 go_enter Tryz.func191, Tryz.ntmps191
 go_wp2_with fail
 refine Calls.mono (isName_f _ (ht.below (Nat.le_refl _) (below1 w _))) ?_
 rintro _ w1 ⟨rfl, hb⟩
 go_wp2_with fail
 go_ret
 exact ⟨rfl, (below1 w _).trans (hb.mono (by simp))⟩
theorem textFits_g {gw ow gs os : Nat} (w : World) (ht : TabsAt gw ow gs os w) :
  Calls Tryz.prog 191 #[.agg #[.int .i64 8, .string ⟨#[103]⟩, .int .i64 0, .int .i64 0, .slice none 0 0], .int .i64 3] w fun e w' => e = .returned (.bool true) ∧ Below w.heap.size w w' := by
 go_enter Tryz.func191, Tryz.ntmps191
 go_wp2_with fail
 refine Calls.mono (isName_g _ (ht.below (Nat.le_refl _) (below1 w _))) ?_
 rintro _ w1 ⟨rfl, hb⟩
 go_wp2_with fail
 go_ret
 exact ⟨rfl, (below1 w _).trans (hb.mono (by simp))⟩
theorem textFits_a {gw ow gs os : Nat} (w : World) (ht : TabsAt gw ow gs os w) :
  Calls Tryz.prog 191 #[.agg #[.int .i64 8, .string ⟨#[97]⟩, .int .i64 0, .int .i64 0, .slice none 0 0], .int .i64 3] w fun e w' => e = .returned (.bool true) ∧ Below w.heap.size w w' := by
 go_enter Tryz.func191, Tryz.ntmps191
 go_wp2_with fail
 refine Calls.mono (isName_a _ (ht.below (Nat.le_refl _) (below1 w _))) ?_
 rintro _ w1 ⟨rfl, hb⟩
 go_wp2_with fail
 go_ret
 exact ⟨rfl, (below1 w _).trans (hb.mono (by simp))⟩
theorem numberFits_P (KP : Nat) (w : World) :
  Calls Tryz.prog 192 #[.agg #[.int .i64 1, .string ⟨#[]⟩, .int .i64 0, .int .i64 0, .slice (some ⟨KP, 0, none⟩) 2 2]] w fun e w' => e = .returned (.bool true) ∧ Below w.heap.size w w' := by
 go_enter Tryz.func192, Tryz.ntmps192
 go_wp2_with fail
 go_ret
 exact ⟨rfl, below1 w _⟩
theorem shapeFault_P (g : Nat) (w : World) :
  Calls Tryz.prog 193 #[.agg #[.slice (some ⟨g, 0, none⟩) 1 1, .int .i64 0, .int .i64 (-1), .bool false], .int .i64 2] w fun e w' => e = .returned (.int .i64 0) ∧ Below w.heap.size w w' := by
 go_enter Tryz.func193, Tryz.ntmps193
 go_wp2_with fail
 go_ret
 exact ⟨rfl, below1 w _⟩
theorem fault_P (c : Nat) (a : Int) (ha : a < 20000) (KP : Nat) (g : Nat) (w : World) (hc : w.cell? ⟨c, 0, none⟩ = some (.int .i64 a)) (hcl : c < w.heap.size) :
  Calls Tryz.prog 147 #[.pointer (some ⟨c, 0, none⟩), .agg #[.int .i64 1, .string ⟨#[]⟩, .int .i64 0, .int .i64 0, .slice (some ⟨KP, 0, none⟩) 2 2], .int .i64 0, .int .i64 1, .agg #[.slice (some ⟨g, 0, none⟩) 1 1, .int .i64 0, .int .i64 (-1), .bool false]] w fun e w' => e = .returned (.int .i64 0) ∧ Below w.heap.size w w' := by
 go_enter Tryz.func147, Tryz.ntmps147
 go_wp2_with fail
 refine Calls.mono (takes_1 _) ?_
 rintro _ _ ⟨rfl, rfl⟩
 go_wp2_with fail
 refine Calls.mono (textFits_P KP _) ?_
 rintro _ w2 ⟨rfl, hb2⟩
 have e1 : ∀ j, w2.cell? ⟨w.heap.size, j, none⟩ = (#[.int .i64 1, .string ⟨#[]⟩, .int .i64 0, .int .i64 0, .slice (some ⟨KP, 0, none⟩) 2 2] : Array Value)[j]? := fun j => (hb2.cell (p := ⟨w.heap.size, j, none⟩) (by simp <;> omega)).trans (by rw [World.cell?_alloc_lt _ _ _ (by simp <;> omega), World.cell?_alloc_new])
 have e2 : ∀ j, w2.cell? ⟨w.heap.size + 1, j, none⟩ = (#[.slice (some ⟨g, 0, none⟩) 1 1, .int .i64 0, .int .i64 (-1), .bool false] : Array Value)[j]? := fun j => (hb2.cell (p := ⟨w.heap.size + 1, j, none⟩) (by simp <;> omega)).trans (by rw [World.cell?_alloc_at _ _ _ _ (by simp)])
 go_wp2_with fail
 refine Calls.mono (numberFits_P KP _) ?_
 rintro _ w3 ⟨rfl, hb3⟩
 have s2 : w.heap.size + 1 + 1 ≤ w2.heap.size := by have := hb2.size; simpa using this
 have f1 : ∀ j, w3.cell? ⟨w.heap.size, j, none⟩ = (#[.int .i64 1, .string ⟨#[]⟩, .int .i64 0, .int .i64 0, .slice (some ⟨KP, 0, none⟩) 2 2] : Array Value)[j]? := fun j => (hb3.cell (p := ⟨w.heap.size, j, none⟩) (by show w.heap.size < w2.heap.size; omega)).trans (e1 j)
 have f2 : ∀ j, w3.cell? ⟨w.heap.size + 1, j, none⟩ = (#[.slice (some ⟨g, 0, none⟩) 1 1, .int .i64 0, .int .i64 (-1), .bool false] : Array Value)[j]? := fun j => (hb3.cell (p := ⟨w.heap.size + 1, j, none⟩) (by show w.heap.size + 1 < w2.heap.size; omega)).trans (e2 j)
 go_wp2_with fail
 refine Calls.mono (shapeFault_P g _) ?_
 rintro _ w4 ⟨rfl, hb4⟩
 go_wp2_with fail
 go_ret
 have h2 : Below w.heap.size w w2 := (below2 w _ _).trans (hb2.mono (by simp; omega))
 have h3 : Below w.heap.size w w3 := h2.trans (hb3.mono h2.size)
 exact ⟨rfl, h3.trans (hb4.mono h3.size)⟩
theorem numberFits_S (KS : Nat) (w : World) :
  Calls Tryz.prog 192 #[.agg #[.int .i64 3, .string ⟨#[83]⟩, .int .i64 0, .int .i64 0, .slice (some ⟨KS, 0, none⟩) 2 2]] w fun e w' => e = .returned (.bool true) ∧ Below w.heap.size w w' := by
 go_enter Tryz.func192, Tryz.ntmps192
 go_wp2_with fail
 go_ret
 exact ⟨rfl, below1 w _⟩
theorem shapeFault_S (g : Nat) (w : World) :
  Calls Tryz.prog 193 #[.agg #[.slice (some ⟨g, 0, none⟩) 1 1, .int .i64 0, .int .i64 30, .bool true], .int .i64 2] w fun e w' => e = .returned (.int .i64 0) ∧ Below w.heap.size w w' := by
 go_enter Tryz.func193, Tryz.ntmps193
 go_wp2_with fail
 go_ret
 exact ⟨rfl, below1 w _⟩
theorem fault_S {gw ow gs os : Nat} (c : Nat) (a : Int) (ha : a < 20000) (KS : Nat) (g : Nat) (w : World) (ht : TabsAt gw ow gs os w) (hc : w.cell? ⟨c, 0, none⟩ = some (.int .i64 a)) (hcl : c < w.heap.size) :
  Calls Tryz.prog 147 #[.pointer (some ⟨c, 0, none⟩), .agg #[.int .i64 3, .string ⟨#[83]⟩, .int .i64 0, .int .i64 0, .slice (some ⟨KS, 0, none⟩) 2 2], .int .i64 2, .int .i64 2, .agg #[.slice (some ⟨g, 0, none⟩) 1 1, .int .i64 0, .int .i64 30, .bool true]] w fun e w' => e = .returned (.int .i64 0) ∧ Below w.heap.size w w' := by
 go_enter Tryz.func147, Tryz.ntmps147
 go_wp2_with fail
 refine Calls.mono (takes_3 _) ?_
 rintro _ _ ⟨rfl, rfl⟩
 go_wp2_with fail
 refine Calls.mono (textFits_S KS _ (ht.below (Nat.le_refl _) (below2 w _ _))) ?_
 rintro _ w2 ⟨rfl, hb2⟩
 have e1 : ∀ j, w2.cell? ⟨w.heap.size, j, none⟩ = (#[.int .i64 3, .string ⟨#[83]⟩, .int .i64 0, .int .i64 0, .slice (some ⟨KS, 0, none⟩) 2 2] : Array Value)[j]? := fun j => (hb2.cell (p := ⟨w.heap.size, j, none⟩) (by simp <;> omega)).trans (by rw [World.cell?_alloc_lt _ _ _ (by simp <;> omega), World.cell?_alloc_new])
 have e2 : ∀ j, w2.cell? ⟨w.heap.size + 1, j, none⟩ = (#[.slice (some ⟨g, 0, none⟩) 1 1, .int .i64 0, .int .i64 30, .bool true] : Array Value)[j]? := fun j => (hb2.cell (p := ⟨w.heap.size + 1, j, none⟩) (by simp <;> omega)).trans (by rw [World.cell?_alloc_at _ _ _ _ (by simp)])
 go_wp2_with fail
 refine Calls.mono (numberFits_S KS _) ?_
 rintro _ w3 ⟨rfl, hb3⟩
 have s2 : w.heap.size + 1 + 1 ≤ w2.heap.size := by have := hb2.size; simpa using this
 have f1 : ∀ j, w3.cell? ⟨w.heap.size, j, none⟩ = (#[.int .i64 3, .string ⟨#[83]⟩, .int .i64 0, .int .i64 0, .slice (some ⟨KS, 0, none⟩) 2 2] : Array Value)[j]? := fun j => (hb3.cell (p := ⟨w.heap.size, j, none⟩) (by show w.heap.size < w2.heap.size; omega)).trans (e1 j)
 have f2 : ∀ j, w3.cell? ⟨w.heap.size + 1, j, none⟩ = (#[.slice (some ⟨g, 0, none⟩) 1 1, .int .i64 0, .int .i64 30, .bool true] : Array Value)[j]? := fun j => (hb3.cell (p := ⟨w.heap.size + 1, j, none⟩) (by show w.heap.size + 1 < w2.heap.size; omega)).trans (e2 j)
 go_wp2_with fail
 refine Calls.mono (shapeFault_S g _) ?_
 rintro _ w4 ⟨rfl, hb4⟩
 go_wp2_with fail
 go_ret
 have h2 : Below w.heap.size w w2 := (below2 w _ _).trans (hb2.mono (by simp; omega))
 have h3 : Below w.heap.size w w3 := h2.trans (hb3.mono h2.size)
 exact ⟨rfl, h3.trans (hb4.mono h3.size)⟩
theorem numberFits_T (KT : Nat) (w : World) :
  Calls Tryz.prog 192 #[.agg #[.int .i64 3, .string ⟨#[84]⟩, .int .i64 0, .int .i64 0, .slice (some ⟨KT, 0, none⟩) 1 1]] w fun e w' => e = .returned (.bool true) ∧ Below w.heap.size w w' := by
 go_enter Tryz.func192, Tryz.ntmps192
 go_wp2_with fail
 go_ret
 exact ⟨rfl, below1 w _⟩
theorem shapeFault_T (g : Nat) (w : World) :
  Calls Tryz.prog 193 #[.agg #[.slice (some ⟨g, 0, none⟩) 1 1, .int .i64 0, .int .i64 30, .bool true], .int .i64 1] w fun e w' => e = .returned (.int .i64 0) ∧ Below w.heap.size w w' := by
 go_enter Tryz.func193, Tryz.ntmps193
 go_wp2_with fail
 go_ret
 exact ⟨rfl, below1 w _⟩
theorem fault_T {gw ow gs os : Nat} (c : Nat) (a : Int) (ha : a < 20000) (KT : Nat) (g : Nat) (w : World) (ht : TabsAt gw ow gs os w) (hc : w.cell? ⟨c, 0, none⟩ = some (.int .i64 a)) (hcl : c < w.heap.size) :
  Calls Tryz.prog 147 #[.pointer (some ⟨c, 0, none⟩), .agg #[.int .i64 3, .string ⟨#[84]⟩, .int .i64 0, .int .i64 0, .slice (some ⟨KT, 0, none⟩) 1 1], .int .i64 2, .int .i64 2, .agg #[.slice (some ⟨g, 0, none⟩) 1 1, .int .i64 0, .int .i64 30, .bool true]] w fun e w' => e = .returned (.int .i64 0) ∧ Below w.heap.size w w' := by
 go_enter Tryz.func147, Tryz.ntmps147
 go_wp2_with fail
 refine Calls.mono (takes_3 _) ?_
 rintro _ _ ⟨rfl, rfl⟩
 go_wp2_with fail
 refine Calls.mono (textFits_T KT _ (ht.below (Nat.le_refl _) (below2 w _ _))) ?_
 rintro _ w2 ⟨rfl, hb2⟩
 have e1 : ∀ j, w2.cell? ⟨w.heap.size, j, none⟩ = (#[.int .i64 3, .string ⟨#[84]⟩, .int .i64 0, .int .i64 0, .slice (some ⟨KT, 0, none⟩) 1 1] : Array Value)[j]? := fun j => (hb2.cell (p := ⟨w.heap.size, j, none⟩) (by simp <;> omega)).trans (by rw [World.cell?_alloc_lt _ _ _ (by simp <;> omega), World.cell?_alloc_new])
 have e2 : ∀ j, w2.cell? ⟨w.heap.size + 1, j, none⟩ = (#[.slice (some ⟨g, 0, none⟩) 1 1, .int .i64 0, .int .i64 30, .bool true] : Array Value)[j]? := fun j => (hb2.cell (p := ⟨w.heap.size + 1, j, none⟩) (by simp <;> omega)).trans (by rw [World.cell?_alloc_at _ _ _ _ (by simp)])
 go_wp2_with fail
 refine Calls.mono (numberFits_T KT _) ?_
 rintro _ w3 ⟨rfl, hb3⟩
 have s2 : w.heap.size + 1 + 1 ≤ w2.heap.size := by have := hb2.size; simpa using this
 have f1 : ∀ j, w3.cell? ⟨w.heap.size, j, none⟩ = (#[.int .i64 3, .string ⟨#[84]⟩, .int .i64 0, .int .i64 0, .slice (some ⟨KT, 0, none⟩) 1 1] : Array Value)[j]? := fun j => (hb3.cell (p := ⟨w.heap.size, j, none⟩) (by show w.heap.size < w2.heap.size; omega)).trans (e1 j)
 have f2 : ∀ j, w3.cell? ⟨w.heap.size + 1, j, none⟩ = (#[.slice (some ⟨g, 0, none⟩) 1 1, .int .i64 0, .int .i64 30, .bool true] : Array Value)[j]? := fun j => (hb3.cell (p := ⟨w.heap.size + 1, j, none⟩) (by show w.heap.size + 1 < w2.heap.size; omega)).trans (e2 j)
 go_wp2_with fail
 refine Calls.mono (shapeFault_T g _) ?_
 rintro _ w4 ⟨rfl, hb4⟩
 go_wp2_with fail
 go_ret
 have h2 : Below w.heap.size w w2 := (below2 w _ _).trans (hb2.mono (by simp; omega))
 have h3 : Below w.heap.size w w3 := h2.trans (hb3.mono h2.size)
 exact ⟨rfl, h3.trans (hb4.mono h3.size)⟩
theorem numberFits_f (w : World) :
  Calls Tryz.prog 192 #[.agg #[.int .i64 8, .string ⟨#[102]⟩, .int .i64 0, .int .i64 0, .slice none 0 0]] w fun e w' => e = .returned (.bool true) ∧ Below w.heap.size w w' := by
 go_enter Tryz.func192, Tryz.ntmps192
 go_wp2_with fail
 go_ret
 exact ⟨rfl, below1 w _⟩
theorem shapeFault_f (w : World) :
  Calls Tryz.prog 193 #[.agg #[.slice none 0 0, .int .i64 0, .int .i64 0, .bool false], .int .i64 0] w fun e w' => e = .returned (.int .i64 0) ∧ Below w.heap.size w w' := by
 go_enter Tryz.func193, Tryz.ntmps193
 go_wp2_with fail
 go_ret
 exact ⟨rfl, below1 w _⟩
theorem fault_f {gw ow gs os : Nat} (c : Nat) (a : Int) (ha : a < 20000) (w : World) (ht : TabsAt gw ow gs os w) (hc : w.cell? ⟨c, 0, none⟩ = some (.int .i64 a)) (hcl : c < w.heap.size) :
  Calls Tryz.prog 147 #[.pointer (some ⟨c, 0, none⟩), .agg #[.int .i64 8, .string ⟨#[102]⟩, .int .i64 0, .int .i64 0, .slice none 0 0], .int .i64 3, .int .i64 3, .agg #[.slice none 0 0, .int .i64 0, .int .i64 0, .bool false]] w fun e w' => e = .returned (.int .i64 0) ∧ Below w.heap.size w w' := by
 go_enter Tryz.func147, Tryz.ntmps147
 go_wp2_with fail
 refine Calls.mono (takes_8 _) ?_
 rintro _ _ ⟨rfl, rfl⟩
 go_wp2_with fail
 refine Calls.mono (textFits_f _ (ht.below (Nat.le_refl _) (below2 w _ _))) ?_
 rintro _ w2 ⟨rfl, hb2⟩
 have e1 : ∀ j, w2.cell? ⟨w.heap.size, j, none⟩ = (#[.int .i64 8, .string ⟨#[102]⟩, .int .i64 0, .int .i64 0, .slice none 0 0] : Array Value)[j]? := fun j => (hb2.cell (p := ⟨w.heap.size, j, none⟩) (by simp <;> omega)).trans (by rw [World.cell?_alloc_lt _ _ _ (by simp <;> omega), World.cell?_alloc_new])
 have e2 : ∀ j, w2.cell? ⟨w.heap.size + 1, j, none⟩ = (#[.slice none 0 0, .int .i64 0, .int .i64 0, .bool false] : Array Value)[j]? := fun j => (hb2.cell (p := ⟨w.heap.size + 1, j, none⟩) (by simp <;> omega)).trans (by rw [World.cell?_alloc_at _ _ _ _ (by simp)])
 go_wp2_with fail
 refine Calls.mono (numberFits_f _) ?_
 rintro _ w3 ⟨rfl, hb3⟩
 have s2 : w.heap.size + 1 + 1 ≤ w2.heap.size := by have := hb2.size; simpa using this
 have f1 : ∀ j, w3.cell? ⟨w.heap.size, j, none⟩ = (#[.int .i64 8, .string ⟨#[102]⟩, .int .i64 0, .int .i64 0, .slice none 0 0] : Array Value)[j]? := fun j => (hb3.cell (p := ⟨w.heap.size, j, none⟩) (by show w.heap.size < w2.heap.size; omega)).trans (e1 j)
 have f2 : ∀ j, w3.cell? ⟨w.heap.size + 1, j, none⟩ = (#[.slice none 0 0, .int .i64 0, .int .i64 0, .bool false] : Array Value)[j]? := fun j => (hb3.cell (p := ⟨w.heap.size + 1, j, none⟩) (by show w.heap.size + 1 < w2.heap.size; omega)).trans (e2 j)
 go_wp2_with fail
 refine Calls.mono (shapeFault_f _) ?_
 rintro _ w4 ⟨rfl, hb4⟩
 go_wp2_with fail
 go_ret
 have h2 : Below w.heap.size w w2 := (below2 w _ _).trans (hb2.mono (by simp; omega))
 have h3 : Below w.heap.size w w3 := h2.trans (hb3.mono h2.size)
 exact ⟨rfl, h3.trans (hb4.mono h3.size)⟩
theorem numberFits_g (w : World) :
  Calls Tryz.prog 192 #[.agg #[.int .i64 8, .string ⟨#[103]⟩, .int .i64 0, .int .i64 0, .slice none 0 0]] w fun e w' => e = .returned (.bool true) ∧ Below w.heap.size w w' := by
 go_enter Tryz.func192, Tryz.ntmps192
 go_wp2_with fail
 go_ret
 exact ⟨rfl, below1 w _⟩
theorem shapeFault_g (w : World) :
  Calls Tryz.prog 193 #[.agg #[.slice none 0 0, .int .i64 0, .int .i64 0, .bool false], .int .i64 0] w fun e w' => e = .returned (.int .i64 0) ∧ Below w.heap.size w w' := by
 go_enter Tryz.func193, Tryz.ntmps193
 go_wp2_with fail
 go_ret
 exact ⟨rfl, below1 w _⟩
theorem fault_g {gw ow gs os : Nat} (c : Nat) (a : Int) (ha : a < 20000) (w : World) (ht : TabsAt gw ow gs os w) (hc : w.cell? ⟨c, 0, none⟩ = some (.int .i64 a)) (hcl : c < w.heap.size) :
  Calls Tryz.prog 147 #[.pointer (some ⟨c, 0, none⟩), .agg #[.int .i64 8, .string ⟨#[103]⟩, .int .i64 0, .int .i64 0, .slice none 0 0], .int .i64 3, .int .i64 3, .agg #[.slice none 0 0, .int .i64 0, .int .i64 0, .bool false]] w fun e w' => e = .returned (.int .i64 0) ∧ Below w.heap.size w w' := by
 go_enter Tryz.func147, Tryz.ntmps147
 go_wp2_with fail
 refine Calls.mono (takes_8 _) ?_
 rintro _ _ ⟨rfl, rfl⟩
 go_wp2_with fail
 refine Calls.mono (textFits_g _ (ht.below (Nat.le_refl _) (below2 w _ _))) ?_
 rintro _ w2 ⟨rfl, hb2⟩
 have e1 : ∀ j, w2.cell? ⟨w.heap.size, j, none⟩ = (#[.int .i64 8, .string ⟨#[103]⟩, .int .i64 0, .int .i64 0, .slice none 0 0] : Array Value)[j]? := fun j => (hb2.cell (p := ⟨w.heap.size, j, none⟩) (by simp <;> omega)).trans (by rw [World.cell?_alloc_lt _ _ _ (by simp <;> omega), World.cell?_alloc_new])
 have e2 : ∀ j, w2.cell? ⟨w.heap.size + 1, j, none⟩ = (#[.slice none 0 0, .int .i64 0, .int .i64 0, .bool false] : Array Value)[j]? := fun j => (hb2.cell (p := ⟨w.heap.size + 1, j, none⟩) (by simp <;> omega)).trans (by rw [World.cell?_alloc_at _ _ _ _ (by simp)])
 go_wp2_with fail
 refine Calls.mono (numberFits_g _) ?_
 rintro _ w3 ⟨rfl, hb3⟩
 have s2 : w.heap.size + 1 + 1 ≤ w2.heap.size := by have := hb2.size; simpa using this
 have f1 : ∀ j, w3.cell? ⟨w.heap.size, j, none⟩ = (#[.int .i64 8, .string ⟨#[103]⟩, .int .i64 0, .int .i64 0, .slice none 0 0] : Array Value)[j]? := fun j => (hb3.cell (p := ⟨w.heap.size, j, none⟩) (by show w.heap.size < w2.heap.size; omega)).trans (e1 j)
 have f2 : ∀ j, w3.cell? ⟨w.heap.size + 1, j, none⟩ = (#[.slice none 0 0, .int .i64 0, .int .i64 0, .bool false] : Array Value)[j]? := fun j => (hb3.cell (p := ⟨w.heap.size + 1, j, none⟩) (by show w.heap.size + 1 < w2.heap.size; omega)).trans (e2 j)
 go_wp2_with fail
 refine Calls.mono (shapeFault_g _) ?_
 rintro _ w4 ⟨rfl, hb4⟩
 go_wp2_with fail
 go_ret
 have h2 : Below w.heap.size w w2 := (below2 w _ _).trans (hb2.mono (by simp; omega))
 have h3 : Below w.heap.size w w3 := h2.trans (hb3.mono h2.size)
 exact ⟨rfl, h3.trans (hb4.mono h3.size)⟩
theorem numberFits_a (w : World) :
  Calls Tryz.prog 192 #[.agg #[.int .i64 8, .string ⟨#[97]⟩, .int .i64 0, .int .i64 0, .slice none 0 0]] w fun e w' => e = .returned (.bool true) ∧ Below w.heap.size w w' := by
 go_enter Tryz.func192, Tryz.ntmps192
 go_wp2_with fail
 go_ret
 exact ⟨rfl, below1 w _⟩
theorem shapeFault_a (w : World) :
  Calls Tryz.prog 193 #[.agg #[.slice none 0 0, .int .i64 0, .int .i64 0, .bool false], .int .i64 0] w fun e w' => e = .returned (.int .i64 0) ∧ Below w.heap.size w w' := by
 go_enter Tryz.func193, Tryz.ntmps193
 go_wp2_with fail
 go_ret
 exact ⟨rfl, below1 w _⟩
theorem fault_a {gw ow gs os : Nat} (c : Nat) (a : Int) (ha : a < 20000) (w : World) (ht : TabsAt gw ow gs os w) (hc : w.cell? ⟨c, 0, none⟩ = some (.int .i64 a)) (hcl : c < w.heap.size) :
  Calls Tryz.prog 147 #[.pointer (some ⟨c, 0, none⟩), .agg #[.int .i64 8, .string ⟨#[97]⟩, .int .i64 0, .int .i64 0, .slice none 0 0], .int .i64 3, .int .i64 3, .agg #[.slice none 0 0, .int .i64 0, .int .i64 0, .bool false]] w fun e w' => e = .returned (.int .i64 0) ∧ Below w.heap.size w w' := by
 go_enter Tryz.func147, Tryz.ntmps147
 go_wp2_with fail
 refine Calls.mono (takes_8 _) ?_
 rintro _ _ ⟨rfl, rfl⟩
 go_wp2_with fail
 refine Calls.mono (textFits_a _ (ht.below (Nat.le_refl _) (below2 w _ _))) ?_
 rintro _ w2 ⟨rfl, hb2⟩
 have e1 : ∀ j, w2.cell? ⟨w.heap.size, j, none⟩ = (#[.int .i64 8, .string ⟨#[97]⟩, .int .i64 0, .int .i64 0, .slice none 0 0] : Array Value)[j]? := fun j => (hb2.cell (p := ⟨w.heap.size, j, none⟩) (by simp <;> omega)).trans (by rw [World.cell?_alloc_lt _ _ _ (by simp <;> omega), World.cell?_alloc_new])
 have e2 : ∀ j, w2.cell? ⟨w.heap.size + 1, j, none⟩ = (#[.slice none 0 0, .int .i64 0, .int .i64 0, .bool false] : Array Value)[j]? := fun j => (hb2.cell (p := ⟨w.heap.size + 1, j, none⟩) (by simp <;> omega)).trans (by rw [World.cell?_alloc_at _ _ _ _ (by simp)])
 go_wp2_with fail
 refine Calls.mono (numberFits_a _) ?_
 rintro _ w3 ⟨rfl, hb3⟩
 have s2 : w.heap.size + 1 + 1 ≤ w2.heap.size := by have := hb2.size; simpa using this
 have f1 : ∀ j, w3.cell? ⟨w.heap.size, j, none⟩ = (#[.int .i64 8, .string ⟨#[97]⟩, .int .i64 0, .int .i64 0, .slice none 0 0] : Array Value)[j]? := fun j => (hb3.cell (p := ⟨w.heap.size, j, none⟩) (by show w.heap.size < w2.heap.size; omega)).trans (e1 j)
 have f2 : ∀ j, w3.cell? ⟨w.heap.size + 1, j, none⟩ = (#[.slice none 0 0, .int .i64 0, .int .i64 0, .bool false] : Array Value)[j]? := fun j => (hb3.cell (p := ⟨w.heap.size + 1, j, none⟩) (by show w.heap.size + 1 < w2.heap.size; omega)).trans (e2 j)
 go_wp2_with fail
 refine Calls.mono (shapeFault_a _) ?_
 rintro _ w4 ⟨rfl, hb4⟩
 go_wp2_with fail
 go_ret
 have h2 : Below w.heap.size w w2 := (below2 w _ _).trans (hb2.mono (by simp; omega))
 have h3 : Below w.heap.size w w3 := h2.trans (hb3.mono h2.size)
 exact ⟨rfl, h3.trans (hb4.mono h3.size)⟩
theorem role_0 (g : Nat) (r l m : Int) (cr : Bool) (w : World) (hg : g < w.heap.size) (hc : w.cell? ⟨g, 0, none⟩ = some (.int .i64 r)) :
  Calls Tryz.prog 150 #[.agg #[.slice (some ⟨g, 0, none⟩) 1 1, .int .i64 l, .int .i64 m, .bool cr], .int .i64 0] w fun e w' => e = .returned (.int .i64 r) ∧ Below w.heap.size w w' := by
 go_enter Tryz.func150, Tryz.ntmps150
 go_wp2_with fail
 go_ret
 exact ⟨rfl, below1 w _⟩
theorem role_1 (g : Nat) (r l m : Int) (cr : Bool) (w : World) (hg : g < w.heap.size) (hc : w.cell? ⟨g, 0, none⟩ = some (.int .i64 r)) :
  Calls Tryz.prog 150 #[.agg #[.slice (some ⟨g, 0, none⟩) 1 1, .int .i64 l, .int .i64 m, .bool cr], .int .i64 1] w fun e w' => e = .returned (.int .i64 r) ∧ Below w.heap.size w w' := by
 have hm : (min 1 0 : Int) = 0 := by decide
 go_enter Tryz.func150, Tryz.ntmps150
 go_wp2_with fail
 go_ret
 exact ⟨rfl, below1 w _⟩
theorem second_f (w : World) :
  Calls Tryz.prog 149 #[.agg #[.int .i64 8, .string ⟨#[102]⟩, .int .i64 0, .int .i64 0, .slice none 0 0]] w fun e w' => e = .returned (.int .i64 (-1)) ∧ Below w.heap.size w w' := by
 go_enter Tryz.func149, Tryz.ntmps149
 go_wp2_with fail
 refine wp_loop_rounds 1 ?_
 rw [rounds_succ]
 go_wp2_with fail
 go_ret
 exact ⟨rfl, below1 w _⟩
theorem second_g (w : World) :
  Calls Tryz.prog 149 #[.agg #[.int .i64 8, .string ⟨#[103]⟩, .int .i64 0, .int .i64 0, .slice none 0 0]] w fun e w' => e = .returned (.int .i64 (-1)) ∧ Below w.heap.size w w' := by
 go_enter Tryz.func149, Tryz.ntmps149
 go_wp2_with fail
 refine wp_loop_rounds 1 ?_
 rw [rounds_succ]
 go_wp2_with fail
 go_ret
 exact ⟨rfl, below1 w _⟩
theorem second_a (w : World) :
  Calls Tryz.prog 149 #[.agg #[.int .i64 8, .string ⟨#[97]⟩, .int .i64 0, .int .i64 0, .slice none 0 0]] w fun e w' => e = .returned (.int .i64 (-1)) ∧ Below w.heap.size w w' := by
 go_enter Tryz.func149, Tryz.ntmps149
 go_wp2_with fail
 refine wp_loop_rounds 1 ?_
 rw [rounds_succ]
 go_wp2_with fail
 go_ret
 exact ⟨rfl, below1 w _⟩
theorem second_S (KS : Nat) (w : World) (hK : w.heap[KS]? = some (.cells #[.int .i64 8, .string ⟨#[102]⟩, .int .i64 0, .int .i64 0, .slice none 0 0, .int .i64 8, .string ⟨#[103]⟩, .int .i64 0, .int .i64 0, .slice none 0 0] 98)) :
  Calls Tryz.prog 149 #[.agg #[.int .i64 3, .string ⟨#[83]⟩, .int .i64 0, .int .i64 0, .slice (some ⟨KS, 0, none⟩) 2 2]] w fun e w' => e = .returned (.int .i64 (-1)) ∧ Below w.heap.size w w' := by
 have hKl := heap_lt hK
 have kc := (cells_of hK).1
 go_enter Tryz.func149, Tryz.ntmps149
 go_wp2_with fail
 refine wp_loop_rounds 3 ?_
 rw [rounds_succ]
 go_wp2_with fail
 rw [rounds_succ]
 go_wp2_with fail
 rw [rounds_succ]
 go_wp2_with fail
 go_ret
 exact ⟨rfl, below3 w _ _ _ ⟩
theorem second_T (KT : Nat) (w : World) (hK : w.heap[KT]? = some (.cells #[.int .i64 8, .string ⟨#[97]⟩, .int .i64 0, .int .i64 0, .slice none 0 0] 98)) :
  Calls Tryz.prog 149 #[.agg #[.int .i64 3, .string ⟨#[84]⟩, .int .i64 0, .int .i64 0, .slice (some ⟨KT, 0, none⟩) 1 1]] w fun e w' => e = .returned (.int .i64 (-1)) ∧ Below w.heap.size w w' := by
 have hKl := heap_lt hK
 have kc := (cells_of hK).1
 go_enter Tryz.func149, Tryz.ntmps149
 go_wp2_with fail
 refine wp_loop_rounds 2 ?_
 rw [rounds_succ]
 go_wp2_with fail
 rw [rounds_succ]
 go_wp2_with fail
 go_ret
 exact ⟨rfl, below2 w _ _ ⟩
theorem second_P (KP : Nat) (KS : Nat) (KT : Nat) (w : World) (hK : w.heap[KP]? = some (.cells #[.int .i64 3, .string ⟨#[83]⟩, .int .i64 0, .int .i64 0, .slice (some ⟨KS, 0, none⟩) 2 2, .int .i64 3, .string ⟨#[84]⟩, .int .i64 0, .int .i64 0, .slice (some ⟨KT, 0, none⟩) 1 1] 98)) :
  Calls Tryz.prog 149 #[.agg #[.int .i64 1, .string ⟨#[]⟩, .int .i64 0, .int .i64 0, .slice (some ⟨KP, 0, none⟩) 2 2]] w fun e w' => e = .returned (.int .i64 (-1)) ∧ Below w.heap.size w w' := by
 have hKl := heap_lt hK
 have kc := (cells_of hK).1
 go_enter Tryz.func149, Tryz.ntmps149
 go_wp2_with fail
 refine wp_loop_rounds 3 ?_
 rw [rounds_succ]
 go_wp2_with fail
 rw [rounds_succ]
 go_wp2_with fail
 rw [rounds_succ]
 go_wp2_with fail
 go_ret
 exact ⟨rfl, below3 w _ _ _ ⟩
end Go.Proofs.YtdbijkgnddcneaaGreatDoor.Lx
namespace Go.Proofs.YtdbijkgnddcneaaGreatDoor.Lx
open Go.RowKit Go.ChangeMaps
set_option maxRecDepth 100000
set_option maxHeartbeats 4000000
theorem TabsAt.kp {gw ow gs os c : Nat} {w w' : World} (h : TabsAt gw ow gs os w) (q : Kp (· = c) w w') (h1 : gw ≠ c) (h2 : gs ≠ c) (h3 : 6 ≠ c) (h4 : 7 ≠ c) : TabsAt gw ow gs os w' :=
 have e := h.two
 ⟨(q.cell (by omega) h3).trans h.words, (q.cell (by omega) h4).trans h.signs, fun k hk => ⟨(q.cell h.gwLt h1).trans (h.word k hk).1, (q.cell h.gwLt h1).trans (h.word k hk).2⟩, fun k hk => (q.cell h.gsLt h2).trans (h.sign k hk), Nat.le_trans e q.size, Nat.lt_of_lt_of_le h.gwLt q.size, Nat.lt_of_lt_of_le h.gsLt q.size⟩
theorem check_f {gw ow gs os : Nat} (c : Nat) (a : Int) (ha : 0 ≤ a) (ha2 : a < 1000) (w : World) (ht : TabsAt gw ow gs os w) (hc : w.cell? ⟨c, 0, none⟩ = some (.int .i64 a)) (hcl : c < w.heap.size) (hf : w.frozen? ⟨c, 0, none⟩ = false) :
  Calls Tryz.prog 103 #[.pointer (some ⟨c, 0, none⟩), .agg #[.int .i64 8, .string ⟨#[102]⟩, .int .i64 0, .int .i64 0, .slice none 0 0], .int .i64 3, .int .i64 3] w fun e w' => e = .returned .nilIface ∧ Kp (· = c) w w' ∧ w'.cell? ⟨c, 0, none⟩ = some (.int .i64 (a + 1)) ∧ w'.frozen? ⟨c, 0, none⟩ = false := by
 go_enter Tryz.func103, Tryz.ntmps103
 go_wp2_with fail
 refine Calls.mono (shapeOf_f _) ?_
 rintro _ _ ⟨rfl, rfl⟩
 go_wp2_with fail
 obtain ⟨W1, hW1⟩ : ∃ W, W = (((((((w.alloc (.cells #[.int .i64 8, .string ⟨#[102]⟩, .int .i64 0, .int .i64 0, .slice none 0 0] 98)).alloc (.cells #[.int .i64 8, .string ⟨#[102]⟩, .int .i64 0, .int .i64 0, .slice none 0 0] 98)).alloc (.cells #[.slice none 0 0, .int .i64 0, .int .i64 0, .bool false] 237)).alloc (.cells #[.int .i64 8, .string ⟨#[102]⟩, .int .i64 0, .int .i64 0, .slice none 0 0] 98)).alloc (.cells #[.slice none 0 0, .int .i64 0, .int .i64 0, .bool false] 237)).alloc (.cells #[.slice none 0 0, .int .i64 0, .int .i64 0, .bool false] 237)).alloc (.cells #[.slice none 0 0, .int .i64 0, .int .i64 0, .bool false] 237)) := ⟨_, rfl⟩
 have b1 : Below w.heap.size w W1 := by rw [hW1]; repeat (first | exact Below.refl _ _ | refine Below.alloc ?_ (by simp <;> omega) _)
 have z1 : W1.heap.size = w.heap.size + 1 + 1 + 1 + 1 + 1 + 1 + 1 := by rw [hW1]; simp
 have n1 : W1.heap[w.heap.size]? = some (.cells #[.int .i64 8, .string ⟨#[102]⟩, .int .i64 0, .int .i64 0, .slice none 0 0] 98) := by rw [hW1, heap_old _ _ _ (by simp <;> omega), heap_old _ _ _ (by simp <;> omega), heap_old _ _ _ (by simp <;> omega), heap_old _ _ _ (by simp <;> omega), heap_old _ _ _ (by simp <;> omega), heap_old _ _ _ (by simp <;> omega)]; exact heap_new _ _ _ (by simp)
 have m1 : W1.heap[w.heap.size + 1 + 1 + 1 + 1 + 1 + 1]? = some (.cells #[.slice none 0 0, .int .i64 0, .int .i64 0, .bool false] 237) := by rw [hW1]; exact heap_new _ _ _ (by simp)
 rw [← hW1]
 clear hW1
 refine Calls.mono (fault_f c a (by omega) _ (ht.below (Nat.le_refl _) b1) ((b1.cell (p := ⟨c, 0, none⟩) hcl).trans hc) (Nat.lt_of_lt_of_le hcl b1.size)) ?_
 rintro _ W2 ⟨rfl, hb2⟩
 have cc1 : W1.cell? ⟨c, 0, none⟩ = some (.int .i64 (a)) := (b1.cell (p := ⟨c, 0, none⟩) hcl).trans hc
 have cf1 : W1.frozen? ⟨c, 0, none⟩ = false := (b1.frozen (p := ⟨c, 0, none⟩) hcl).trans hf
 have q2 : Kp (· = c) W1 W2 := Kp.of hb2
 have z2 : W1.heap.size ≤ W2.heap.size := q2.size
 have x2 : ∀ b, b < W1.heap.size → b ≠ c → W2.heap[b]? = W1.heap[b]? := fun b hb hn => q2.block b hb hn
 have n2 : W2.heap[w.heap.size]? = some (.cells #[.int .i64 8, .string ⟨#[102]⟩, .int .i64 0, .int .i64 0, .slice none 0 0] 98) := (x2 (w.heap.size) (by omega) (by omega)).trans n1
 have m2 : W2.heap[w.heap.size + 1 + 1 + 1 + 1 + 1 + 1]? = some (.cells #[.slice none 0 0, .int .i64 0, .int .i64 0, .bool false] 237) := (x2 (w.heap.size + 1 + 1 + 1 + 1 + 1 + 1) (by omega) (by omega)).trans m1
 clear x2 n1 m1
 have cc2 : W2.cell? ⟨c, 0, none⟩ = some (.int .i64 (a)) := (hb2.cell (p := ⟨c, 0, none⟩) (by show c < W1.heap.size; omega)).trans cc1
 have cf2 : W2.frozen? ⟨c, 0, none⟩ = false := (hb2.frozen (p := ⟨c, 0, none⟩) (by show c < W1.heap.size; omega)).trans cf1
 clear cc1 cf1
 have nc := (cells_of n2).1
 have mc := (cells_of m2).1
 go_wp2_with fail
 clear nc mc
 obtain ⟨W3, hW3⟩ : ∃ W, W = W2.setCell ⟨c, 0, none⟩ (.int .i64 (a + 1)) := ⟨_, rfl⟩
 rw [← hW3]
 have q3 : Kp (· = c) W2 W3 := by rw [hW3]; exact Kp.set _ _ _ _ rfl
 have cc3 : W3.cell? ⟨c, 0, none⟩ = some (.int .i64 (a + 1)) := by rw [hW3]; exact World.cell?_setCell_same _ _ _ cc2
 have cf3 : W3.frozen? ⟨c, 0, none⟩ = false := by rw [hW3]; simpa using cf2
 clear hW3 cc2 cf2
 have z3 : W2.heap.size ≤ W3.heap.size := q3.size
 have x3 : ∀ b, b < W2.heap.size → b ≠ c → W3.heap[b]? = W2.heap[b]? := fun b hb hn => q3.block b hb hn
 have n3 : W3.heap[w.heap.size]? = some (.cells #[.int .i64 8, .string ⟨#[102]⟩, .int .i64 0, .int .i64 0, .slice none 0 0] 98) := (x3 (w.heap.size) (by omega) (by omega)).trans n2
 have m3 : W3.heap[w.heap.size + 1 + 1 + 1 + 1 + 1 + 1]? = some (.cells #[.slice none 0 0, .int .i64 0, .int .i64 0, .bool false] 237) := (x3 (w.heap.size + 1 + 1 + 1 + 1 + 1 + 1) (by omega) (by omega)).trans m2
 clear x3 n2 m2
 refine Calls.mono (second_f _) ?_
 rintro _ W4 ⟨rfl, hb4⟩
 have q4 : Kp (· = c) W3 W4 := Kp.of hb4
 have z4 : W3.heap.size ≤ W4.heap.size := q4.size
 have x4 : ∀ b, b < W3.heap.size → b ≠ c → W4.heap[b]? = W3.heap[b]? := fun b hb hn => q4.block b hb hn
 have n4 : W4.heap[w.heap.size]? = some (.cells #[.int .i64 8, .string ⟨#[102]⟩, .int .i64 0, .int .i64 0, .slice none 0 0] 98) := (x4 (w.heap.size) (by omega) (by omega)).trans n3
 have m4 : W4.heap[w.heap.size + 1 + 1 + 1 + 1 + 1 + 1]? = some (.cells #[.slice none 0 0, .int .i64 0, .int .i64 0, .bool false] 237) := (x4 (w.heap.size + 1 + 1 + 1 + 1 + 1 + 1) (by omega) (by omega)).trans m3
 clear x4 n3 m3
 have cc4 : W4.cell? ⟨c, 0, none⟩ = some (.int .i64 (a + 1)) := (hb4.cell (p := ⟨c, 0, none⟩) (by show c < W3.heap.size; omega)).trans cc3
 have cf4 : W4.frozen? ⟨c, 0, none⟩ = false := (hb4.frozen (p := ⟨c, 0, none⟩) (by show c < W3.heap.size; omega)).trans cf3
 clear cc3 cf3
 have Q4 : Kp (· = c) w W4 := (((Kp.of b1).trans q2 fun _ _ h => h).trans q3 fun _ _ h => h).trans q4 fun _ _ h => h
 have nc := (cells_of n4).1
 have mc := (cells_of m4).1
 go_wp2_with fail
 refine wp_loop_rounds 1 ?_
 rw [rounds_succ]
 go_wp2_with fail
 go_ret
 exact ⟨rfl, Q4, cc4, cf4⟩
theorem check_g {gw ow gs os : Nat} (c : Nat) (a : Int) (ha : 0 ≤ a) (ha2 : a < 1000) (w : World) (ht : TabsAt gw ow gs os w) (hc : w.cell? ⟨c, 0, none⟩ = some (.int .i64 a)) (hcl : c < w.heap.size) (hf : w.frozen? ⟨c, 0, none⟩ = false) :
  Calls Tryz.prog 103 #[.pointer (some ⟨c, 0, none⟩), .agg #[.int .i64 8, .string ⟨#[103]⟩, .int .i64 0, .int .i64 0, .slice none 0 0], .int .i64 3, .int .i64 3] w fun e w' => e = .returned .nilIface ∧ Kp (· = c) w w' ∧ w'.cell? ⟨c, 0, none⟩ = some (.int .i64 (a + 1)) ∧ w'.frozen? ⟨c, 0, none⟩ = false := by
 go_enter Tryz.func103, Tryz.ntmps103
 go_wp2_with fail
 refine Calls.mono (shapeOf_g _) ?_
 rintro _ _ ⟨rfl, rfl⟩
 go_wp2_with fail
 obtain ⟨W1, hW1⟩ : ∃ W, W = (((((((w.alloc (.cells #[.int .i64 8, .string ⟨#[103]⟩, .int .i64 0, .int .i64 0, .slice none 0 0] 98)).alloc (.cells #[.int .i64 8, .string ⟨#[103]⟩, .int .i64 0, .int .i64 0, .slice none 0 0] 98)).alloc (.cells #[.slice none 0 0, .int .i64 0, .int .i64 0, .bool false] 237)).alloc (.cells #[.int .i64 8, .string ⟨#[103]⟩, .int .i64 0, .int .i64 0, .slice none 0 0] 98)).alloc (.cells #[.slice none 0 0, .int .i64 0, .int .i64 0, .bool false] 237)).alloc (.cells #[.slice none 0 0, .int .i64 0, .int .i64 0, .bool false] 237)).alloc (.cells #[.slice none 0 0, .int .i64 0, .int .i64 0, .bool false] 237)) := ⟨_, rfl⟩
 have b1 : Below w.heap.size w W1 := by rw [hW1]; repeat (first | exact Below.refl _ _ | refine Below.alloc ?_ (by simp <;> omega) _)
 have z1 : W1.heap.size = w.heap.size + 1 + 1 + 1 + 1 + 1 + 1 + 1 := by rw [hW1]; simp
 have n1 : W1.heap[w.heap.size]? = some (.cells #[.int .i64 8, .string ⟨#[103]⟩, .int .i64 0, .int .i64 0, .slice none 0 0] 98) := by rw [hW1, heap_old _ _ _ (by simp <;> omega), heap_old _ _ _ (by simp <;> omega), heap_old _ _ _ (by simp <;> omega), heap_old _ _ _ (by simp <;> omega), heap_old _ _ _ (by simp <;> omega), heap_old _ _ _ (by simp <;> omega)]; exact heap_new _ _ _ (by simp)
 have m1 : W1.heap[w.heap.size + 1 + 1 + 1 + 1 + 1 + 1]? = some (.cells #[.slice none 0 0, .int .i64 0, .int .i64 0, .bool false] 237) := by rw [hW1]; exact heap_new _ _ _ (by simp)
 rw [← hW1]
 clear hW1
 refine Calls.mono (fault_g c a (by omega) _ (ht.below (Nat.le_refl _) b1) ((b1.cell (p := ⟨c, 0, none⟩) hcl).trans hc) (Nat.lt_of_lt_of_le hcl b1.size)) ?_
 rintro _ W2 ⟨rfl, hb2⟩
 have cc1 : W1.cell? ⟨c, 0, none⟩ = some (.int .i64 (a)) := (b1.cell (p := ⟨c, 0, none⟩) hcl).trans hc
 have cf1 : W1.frozen? ⟨c, 0, none⟩ = false := (b1.frozen (p := ⟨c, 0, none⟩) hcl).trans hf
 have q2 : Kp (· = c) W1 W2 := Kp.of hb2
 have z2 : W1.heap.size ≤ W2.heap.size := q2.size
 have x2 : ∀ b, b < W1.heap.size → b ≠ c → W2.heap[b]? = W1.heap[b]? := fun b hb hn => q2.block b hb hn
 have n2 : W2.heap[w.heap.size]? = some (.cells #[.int .i64 8, .string ⟨#[103]⟩, .int .i64 0, .int .i64 0, .slice none 0 0] 98) := (x2 (w.heap.size) (by omega) (by omega)).trans n1
 have m2 : W2.heap[w.heap.size + 1 + 1 + 1 + 1 + 1 + 1]? = some (.cells #[.slice none 0 0, .int .i64 0, .int .i64 0, .bool false] 237) := (x2 (w.heap.size + 1 + 1 + 1 + 1 + 1 + 1) (by omega) (by omega)).trans m1
 clear x2 n1 m1
 have cc2 : W2.cell? ⟨c, 0, none⟩ = some (.int .i64 (a)) := (hb2.cell (p := ⟨c, 0, none⟩) (by show c < W1.heap.size; omega)).trans cc1
 have cf2 : W2.frozen? ⟨c, 0, none⟩ = false := (hb2.frozen (p := ⟨c, 0, none⟩) (by show c < W1.heap.size; omega)).trans cf1
 clear cc1 cf1
 have nc := (cells_of n2).1
 have mc := (cells_of m2).1
 go_wp2_with fail
 clear nc mc
 obtain ⟨W3, hW3⟩ : ∃ W, W = W2.setCell ⟨c, 0, none⟩ (.int .i64 (a + 1)) := ⟨_, rfl⟩
 rw [← hW3]
 have q3 : Kp (· = c) W2 W3 := by rw [hW3]; exact Kp.set _ _ _ _ rfl
 have cc3 : W3.cell? ⟨c, 0, none⟩ = some (.int .i64 (a + 1)) := by rw [hW3]; exact World.cell?_setCell_same _ _ _ cc2
 have cf3 : W3.frozen? ⟨c, 0, none⟩ = false := by rw [hW3]; simpa using cf2
 clear hW3 cc2 cf2
 have z3 : W2.heap.size ≤ W3.heap.size := q3.size
 have x3 : ∀ b, b < W2.heap.size → b ≠ c → W3.heap[b]? = W2.heap[b]? := fun b hb hn => q3.block b hb hn
 have n3 : W3.heap[w.heap.size]? = some (.cells #[.int .i64 8, .string ⟨#[103]⟩, .int .i64 0, .int .i64 0, .slice none 0 0] 98) := (x3 (w.heap.size) (by omega) (by omega)).trans n2
 have m3 : W3.heap[w.heap.size + 1 + 1 + 1 + 1 + 1 + 1]? = some (.cells #[.slice none 0 0, .int .i64 0, .int .i64 0, .bool false] 237) := (x3 (w.heap.size + 1 + 1 + 1 + 1 + 1 + 1) (by omega) (by omega)).trans m2
 clear x3 n2 m2
 refine Calls.mono (second_g _) ?_
 rintro _ W4 ⟨rfl, hb4⟩
 have q4 : Kp (· = c) W3 W4 := Kp.of hb4
 have z4 : W3.heap.size ≤ W4.heap.size := q4.size
 have x4 : ∀ b, b < W3.heap.size → b ≠ c → W4.heap[b]? = W3.heap[b]? := fun b hb hn => q4.block b hb hn
 have n4 : W4.heap[w.heap.size]? = some (.cells #[.int .i64 8, .string ⟨#[103]⟩, .int .i64 0, .int .i64 0, .slice none 0 0] 98) := (x4 (w.heap.size) (by omega) (by omega)).trans n3
 have m4 : W4.heap[w.heap.size + 1 + 1 + 1 + 1 + 1 + 1]? = some (.cells #[.slice none 0 0, .int .i64 0, .int .i64 0, .bool false] 237) := (x4 (w.heap.size + 1 + 1 + 1 + 1 + 1 + 1) (by omega) (by omega)).trans m3
 clear x4 n3 m3
 have cc4 : W4.cell? ⟨c, 0, none⟩ = some (.int .i64 (a + 1)) := (hb4.cell (p := ⟨c, 0, none⟩) (by show c < W3.heap.size; omega)).trans cc3
 have cf4 : W4.frozen? ⟨c, 0, none⟩ = false := (hb4.frozen (p := ⟨c, 0, none⟩) (by show c < W3.heap.size; omega)).trans cf3
 clear cc3 cf3
 have Q4 : Kp (· = c) w W4 := (((Kp.of b1).trans q2 fun _ _ h => h).trans q3 fun _ _ h => h).trans q4 fun _ _ h => h
 have nc := (cells_of n4).1
 have mc := (cells_of m4).1
 go_wp2_with fail
 refine wp_loop_rounds 1 ?_
 rw [rounds_succ]
 go_wp2_with fail
 go_ret
 exact ⟨rfl, Q4, cc4, cf4⟩
theorem check_a {gw ow gs os : Nat} (c : Nat) (a : Int) (ha : 0 ≤ a) (ha2 : a < 1000) (w : World) (ht : TabsAt gw ow gs os w) (hc : w.cell? ⟨c, 0, none⟩ = some (.int .i64 a)) (hcl : c < w.heap.size) (hf : w.frozen? ⟨c, 0, none⟩ = false) :
  Calls Tryz.prog 103 #[.pointer (some ⟨c, 0, none⟩), .agg #[.int .i64 8, .string ⟨#[97]⟩, .int .i64 0, .int .i64 0, .slice none 0 0], .int .i64 3, .int .i64 3] w fun e w' => e = .returned .nilIface ∧ Kp (· = c) w w' ∧ w'.cell? ⟨c, 0, none⟩ = some (.int .i64 (a + 1)) ∧ w'.frozen? ⟨c, 0, none⟩ = false := by
 go_enter Tryz.func103, Tryz.ntmps103
 go_wp2_with fail
 refine Calls.mono (shapeOf_a _) ?_
 rintro _ _ ⟨rfl, rfl⟩
 go_wp2_with fail
 obtain ⟨W1, hW1⟩ : ∃ W, W = (((((((w.alloc (.cells #[.int .i64 8, .string ⟨#[97]⟩, .int .i64 0, .int .i64 0, .slice none 0 0] 98)).alloc (.cells #[.int .i64 8, .string ⟨#[97]⟩, .int .i64 0, .int .i64 0, .slice none 0 0] 98)).alloc (.cells #[.slice none 0 0, .int .i64 0, .int .i64 0, .bool false] 237)).alloc (.cells #[.int .i64 8, .string ⟨#[97]⟩, .int .i64 0, .int .i64 0, .slice none 0 0] 98)).alloc (.cells #[.slice none 0 0, .int .i64 0, .int .i64 0, .bool false] 237)).alloc (.cells #[.slice none 0 0, .int .i64 0, .int .i64 0, .bool false] 237)).alloc (.cells #[.slice none 0 0, .int .i64 0, .int .i64 0, .bool false] 237)) := ⟨_, rfl⟩
 have b1 : Below w.heap.size w W1 := by rw [hW1]; repeat (first | exact Below.refl _ _ | refine Below.alloc ?_ (by simp <;> omega) _)
 have z1 : W1.heap.size = w.heap.size + 1 + 1 + 1 + 1 + 1 + 1 + 1 := by rw [hW1]; simp
 have n1 : W1.heap[w.heap.size]? = some (.cells #[.int .i64 8, .string ⟨#[97]⟩, .int .i64 0, .int .i64 0, .slice none 0 0] 98) := by rw [hW1, heap_old _ _ _ (by simp <;> omega), heap_old _ _ _ (by simp <;> omega), heap_old _ _ _ (by simp <;> omega), heap_old _ _ _ (by simp <;> omega), heap_old _ _ _ (by simp <;> omega), heap_old _ _ _ (by simp <;> omega)]; exact heap_new _ _ _ (by simp)
 have m1 : W1.heap[w.heap.size + 1 + 1 + 1 + 1 + 1 + 1]? = some (.cells #[.slice none 0 0, .int .i64 0, .int .i64 0, .bool false] 237) := by rw [hW1]; exact heap_new _ _ _ (by simp)
 rw [← hW1]
 clear hW1
 refine Calls.mono (fault_a c a (by omega) _ (ht.below (Nat.le_refl _) b1) ((b1.cell (p := ⟨c, 0, none⟩) hcl).trans hc) (Nat.lt_of_lt_of_le hcl b1.size)) ?_
 rintro _ W2 ⟨rfl, hb2⟩
 have cc1 : W1.cell? ⟨c, 0, none⟩ = some (.int .i64 (a)) := (b1.cell (p := ⟨c, 0, none⟩) hcl).trans hc
 have cf1 : W1.frozen? ⟨c, 0, none⟩ = false := (b1.frozen (p := ⟨c, 0, none⟩) hcl).trans hf
 have q2 : Kp (· = c) W1 W2 := Kp.of hb2
 have z2 : W1.heap.size ≤ W2.heap.size := q2.size
 have x2 : ∀ b, b < W1.heap.size → b ≠ c → W2.heap[b]? = W1.heap[b]? := fun b hb hn => q2.block b hb hn
 have n2 : W2.heap[w.heap.size]? = some (.cells #[.int .i64 8, .string ⟨#[97]⟩, .int .i64 0, .int .i64 0, .slice none 0 0] 98) := (x2 (w.heap.size) (by omega) (by omega)).trans n1
 have m2 : W2.heap[w.heap.size + 1 + 1 + 1 + 1 + 1 + 1]? = some (.cells #[.slice none 0 0, .int .i64 0, .int .i64 0, .bool false] 237) := (x2 (w.heap.size + 1 + 1 + 1 + 1 + 1 + 1) (by omega) (by omega)).trans m1
 clear x2 n1 m1
 have cc2 : W2.cell? ⟨c, 0, none⟩ = some (.int .i64 (a)) := (hb2.cell (p := ⟨c, 0, none⟩) (by show c < W1.heap.size; omega)).trans cc1
 have cf2 : W2.frozen? ⟨c, 0, none⟩ = false := (hb2.frozen (p := ⟨c, 0, none⟩) (by show c < W1.heap.size; omega)).trans cf1
 clear cc1 cf1
 have nc := (cells_of n2).1
 have mc := (cells_of m2).1
 go_wp2_with fail
 clear nc mc
 obtain ⟨W3, hW3⟩ : ∃ W, W = W2.setCell ⟨c, 0, none⟩ (.int .i64 (a + 1)) := ⟨_, rfl⟩
 rw [← hW3]
 have q3 : Kp (· = c) W2 W3 := by rw [hW3]; exact Kp.set _ _ _ _ rfl
 have cc3 : W3.cell? ⟨c, 0, none⟩ = some (.int .i64 (a + 1)) := by rw [hW3]; exact World.cell?_setCell_same _ _ _ cc2
 have cf3 : W3.frozen? ⟨c, 0, none⟩ = false := by rw [hW3]; simpa using cf2
 clear hW3 cc2 cf2
 have z3 : W2.heap.size ≤ W3.heap.size := q3.size
 have x3 : ∀ b, b < W2.heap.size → b ≠ c → W3.heap[b]? = W2.heap[b]? := fun b hb hn => q3.block b hb hn
 have n3 : W3.heap[w.heap.size]? = some (.cells #[.int .i64 8, .string ⟨#[97]⟩, .int .i64 0, .int .i64 0, .slice none 0 0] 98) := (x3 (w.heap.size) (by omega) (by omega)).trans n2
 have m3 : W3.heap[w.heap.size + 1 + 1 + 1 + 1 + 1 + 1]? = some (.cells #[.slice none 0 0, .int .i64 0, .int .i64 0, .bool false] 237) := (x3 (w.heap.size + 1 + 1 + 1 + 1 + 1 + 1) (by omega) (by omega)).trans m2
 clear x3 n2 m2
 refine Calls.mono (second_a _) ?_
 rintro _ W4 ⟨rfl, hb4⟩
 have q4 : Kp (· = c) W3 W4 := Kp.of hb4
 have z4 : W3.heap.size ≤ W4.heap.size := q4.size
 have x4 : ∀ b, b < W3.heap.size → b ≠ c → W4.heap[b]? = W3.heap[b]? := fun b hb hn => q4.block b hb hn
 have n4 : W4.heap[w.heap.size]? = some (.cells #[.int .i64 8, .string ⟨#[97]⟩, .int .i64 0, .int .i64 0, .slice none 0 0] 98) := (x4 (w.heap.size) (by omega) (by omega)).trans n3
 have m4 : W4.heap[w.heap.size + 1 + 1 + 1 + 1 + 1 + 1]? = some (.cells #[.slice none 0 0, .int .i64 0, .int .i64 0, .bool false] 237) := (x4 (w.heap.size + 1 + 1 + 1 + 1 + 1 + 1) (by omega) (by omega)).trans m3
 clear x4 n3 m3
 have cc4 : W4.cell? ⟨c, 0, none⟩ = some (.int .i64 (a + 1)) := (hb4.cell (p := ⟨c, 0, none⟩) (by show c < W3.heap.size; omega)).trans cc3
 have cf4 : W4.frozen? ⟨c, 0, none⟩ = false := (hb4.frozen (p := ⟨c, 0, none⟩) (by show c < W3.heap.size; omega)).trans cf3
 clear cc3 cf3
 have Q4 : Kp (· = c) w W4 := (((Kp.of b1).trans q2 fun _ _ h => h).trans q3 fun _ _ h => h).trans q4 fun _ _ h => h
 have nc := (cells_of n4).1
 have mc := (cells_of m4).1
 go_wp2_with fail
 refine wp_loop_rounds 1 ?_
 rw [rounds_succ]
 go_wp2_with fail
 go_ret
 exact ⟨rfl, Q4, cc4, cf4⟩
end Go.Proofs.YtdbijkgnddcneaaGreatDoor.Lx
namespace Go.Proofs.YtdbijkgnddcneaaGreatDoor.Lx
open Go.RowKit Go.ChangeMaps
set_option maxRecDepth 100000
set_option maxHeartbeats 4000000
theorem check_S {gw ow gs os : Nat} (c : Nat) (a : Int) (ha : 0 ≤ a) (ha2 : a < 995) (KS : Nat) (w : World) (ht : TabsAt gw ow gs os w) (hgc1 : gw ≠ c) (hgc2 : gs ≠ c) (hgc3 : 6 ≠ c) (hgc4 : 7 ≠ c) (hc : w.cell? ⟨c, 0, none⟩ = some (.int .i64 a)) (hcl : c < w.heap.size) (hf : w.frozen? ⟨c, 0, none⟩ = false) (hk : w.heap[KS]? = some (.cells #[.int .i64 8, .string ⟨#[102]⟩, .int .i64 0, .int .i64 0, .slice none 0 0, .int .i64 8, .string ⟨#[103]⟩, .int .i64 0, .int .i64 0, .slice none 0 0] 98)) (hkc : KS ≠ c) :
  Calls Tryz.prog 103 #[.pointer (some ⟨c, 0, none⟩), .agg #[.int .i64 3, .string ⟨#[83]⟩, .int .i64 0, .int .i64 0, .slice (some ⟨KS, 0, none⟩) 2 2], .int .i64 2, .int .i64 2] w fun e w' => e = .returned .nilIface ∧ Kp (· = c) w w' ∧ w'.cell? ⟨c, 0, none⟩ = some (.int .i64 (a + 3)) ∧ w'.frozen? ⟨c, 0, none⟩ = false := by
 have hk_l := heap_lt hk
 go_enter Tryz.func103, Tryz.ntmps103
 go_wp2_with fail
 refine Calls.mono (shapeOf_S KS _) ?_
 rintro _ _ ⟨rfl, rfl⟩
 go_wp2_with fail
 obtain ⟨W1, hW1⟩ : ∃ W, W = ((((((((w.alloc (.cells #[.int .i64 3, .string ⟨#[83]⟩, .int .i64 0, .int .i64 0, .slice (some ⟨KS, 0, none⟩) 2 2] 98)).alloc (.cells #[.int .i64 3, .string ⟨#[83]⟩, .int .i64 0, .int .i64 0, .slice (some ⟨KS, 0, none⟩) 2 2] 98)).alloc (.cells #[.slice (some ⟨w.heap.size + 1 + 1 + 1 + 1 + 1 + 1, 0, none⟩) 1 1, .int .i64 0, .int .i64 30, .bool true] 237)).alloc (.cells #[.int .i64 3, .string ⟨#[83]⟩, .int .i64 0, .int .i64 0, .slice (some ⟨KS, 0, none⟩) 2 2] 98)).alloc (.cells #[.slice (some ⟨w.heap.size + 1 + 1 + 1 + 1 + 1 + 1, 0, none⟩) 1 1, .int .i64 0, .int .i64 30, .bool true] 237)).alloc (.cells #[.slice (some ⟨w.heap.size + 1 + 1 + 1 + 1 + 1 + 1, 0, none⟩) 1 1, .int .i64 0, .int .i64 30, .bool true] 237)).alloc (.cells #[.int .i64 3] 190)).alloc (.cells #[.slice (some ⟨w.heap.size + 1 + 1 + 1 + 1 + 1 + 1, 0, none⟩) 1 1, .int .i64 0, .int .i64 30, .bool true] 237)) := ⟨_, rfl⟩
 have b1 : Below w.heap.size w W1 := by rw [hW1]; repeat (first | exact Below.refl _ _ | refine Below.alloc ?_ (by simp <;> omega) _)
 have z1 : W1.heap.size = w.heap.size + 1 + 1 + 1 + 1 + 1 + 1 + 1 + 1 := by rw [hW1]; simp
 have n1 : W1.heap[w.heap.size]? = some (.cells #[.int .i64 3, .string ⟨#[83]⟩, .int .i64 0, .int .i64 0, .slice (some ⟨KS, 0, none⟩) 2 2] 98) := by rw [hW1, heap_old _ _ _ (by simp <;> omega), heap_old _ _ _ (by simp <;> omega), heap_old _ _ _ (by simp <;> omega), heap_old _ _ _ (by simp <;> omega), heap_old _ _ _ (by simp <;> omega), heap_old _ _ _ (by simp <;> omega), heap_old _ _ _ (by simp <;> omega)]; exact heap_new _ _ _ (by simp)
 have m1 : W1.heap[w.heap.size + 1 + 1 + 1 + 1 + 1 + 1 + 1]? = some (.cells #[.slice (some ⟨w.heap.size + 1 + 1 + 1 + 1 + 1 + 1, 0, none⟩) 1 1, .int .i64 0, .int .i64 30, .bool true] 237) := by rw [hW1]; exact heap_new _ _ _ (by simp)
 have g1 : W1.heap[w.heap.size + 1 + 1 + 1 + 1 + 1 + 1]? = some (.cells #[.int .i64 3] 190) := by rw [hW1, heap_old _ _ _ (by simp <;> omega)]; exact heap_new _ _ _ (by simp)
 have k1 : W1.heap[KS]? = some (.cells #[.int .i64 8, .string ⟨#[102]⟩, .int .i64 0, .int .i64 0, .slice none 0 0, .int .i64 8, .string ⟨#[103]⟩, .int .i64 0, .int .i64 0, .slice none 0 0] 98) := (b1.block _ hk_l).trans hk
 rw [← hW1]
 clear hW1
 refine Calls.mono (fault_S c a (by omega) KS _ _ (ht.below (Nat.le_refl _) b1) ((b1.cell (p := ⟨c, 0, none⟩) hcl).trans hc) (Nat.lt_of_lt_of_le hcl b1.size)) ?_
 rintro _ W2 ⟨rfl, hb2⟩
 have cc1 : W1.cell? ⟨c, 0, none⟩ = some (.int .i64 (a)) := (b1.cell (p := ⟨c, 0, none⟩) hcl).trans hc
 have cf1 : W1.frozen? ⟨c, 0, none⟩ = false := (b1.frozen (p := ⟨c, 0, none⟩) hcl).trans hf
 have q2 : Kp (· = c) W1 W2 := Kp.of hb2
 have z2 : W1.heap.size ≤ W2.heap.size := q2.size
 have x2 : ∀ b, b < W1.heap.size → b ≠ c → W2.heap[b]? = W1.heap[b]? := fun b hb hn => q2.block b hb hn
 have n2 : W2.heap[w.heap.size]? = some (.cells #[.int .i64 3, .string ⟨#[83]⟩, .int .i64 0, .int .i64 0, .slice (some ⟨KS, 0, none⟩) 2 2] 98) := (x2 (w.heap.size) (by omega) (by omega)).trans n1
 have m2 : W2.heap[w.heap.size + 1 + 1 + 1 + 1 + 1 + 1 + 1]? = some (.cells #[.slice (some ⟨w.heap.size + 1 + 1 + 1 + 1 + 1 + 1, 0, none⟩) 1 1, .int .i64 0, .int .i64 30, .bool true] 237) := (x2 (w.heap.size + 1 + 1 + 1 + 1 + 1 + 1 + 1) (by omega) (by omega)).trans m1
 have g2 : W2.heap[w.heap.size + 1 + 1 + 1 + 1 + 1 + 1]? = some (.cells #[.int .i64 3] 190) := (x2 (w.heap.size + 1 + 1 + 1 + 1 + 1 + 1) (by omega) (by omega)).trans g1
 have k2 : W2.heap[KS]? = some (.cells #[.int .i64 8, .string ⟨#[102]⟩, .int .i64 0, .int .i64 0, .slice none 0 0, .int .i64 8, .string ⟨#[103]⟩, .int .i64 0, .int .i64 0, .slice none 0 0] 98) := (x2 (KS) (by omega) (by omega)).trans k1
 clear x2 n1 m1 g1 k1
 have cc2 : W2.cell? ⟨c, 0, none⟩ = some (.int .i64 (a)) := (hb2.cell (p := ⟨c, 0, none⟩) (by show c < W1.heap.size; omega)).trans cc1
 have cf2 : W2.frozen? ⟨c, 0, none⟩ = false := (hb2.frozen (p := ⟨c, 0, none⟩) (by show c < W1.heap.size; omega)).trans cf1
 clear cc1 cf1
 have nc := (cells_of n2).1
 have mc := (cells_of m2).1
 go_wp2_with fail
 clear nc mc
 obtain ⟨W3, hW3⟩ : ∃ W, W = W2.setCell ⟨c, 0, none⟩ (.int .i64 (a + 1)) := ⟨_, rfl⟩
 rw [← hW3]
 have q3 : Kp (· = c) W2 W3 := by rw [hW3]; exact Kp.set _ _ _ _ rfl
 have cc3 : W3.cell? ⟨c, 0, none⟩ = some (.int .i64 (a + 1)) := by rw [hW3]; exact World.cell?_setCell_same _ _ _ cc2
 have cf3 : W3.frozen? ⟨c, 0, none⟩ = false := by rw [hW3]; simpa using cf2
 clear hW3 cc2 cf2
 have z3 : W2.heap.size ≤ W3.heap.size := q3.size
 have x3 : ∀ b, b < W2.heap.size → b ≠ c → W3.heap[b]? = W2.heap[b]? := fun b hb hn => q3.block b hb hn
 have n3 : W3.heap[w.heap.size]? = some (.cells #[.int .i64 3, .string ⟨#[83]⟩, .int .i64 0, .int .i64 0, .slice (some ⟨KS, 0, none⟩) 2 2] 98) := (x3 (w.heap.size) (by omega) (by omega)).trans n2
 have m3 : W3.heap[w.heap.size + 1 + 1 + 1 + 1 + 1 + 1 + 1]? = some (.cells #[.slice (some ⟨w.heap.size + 1 + 1 + 1 + 1 + 1 + 1, 0, none⟩) 1 1, .int .i64 0, .int .i64 30, .bool true] 237) := (x3 (w.heap.size + 1 + 1 + 1 + 1 + 1 + 1 + 1) (by omega) (by omega)).trans m2
 have g3 : W3.heap[w.heap.size + 1 + 1 + 1 + 1 + 1 + 1]? = some (.cells #[.int .i64 3] 190) := (x3 (w.heap.size + 1 + 1 + 1 + 1 + 1 + 1) (by omega) (by omega)).trans g2
 have k3 : W3.heap[KS]? = some (.cells #[.int .i64 8, .string ⟨#[102]⟩, .int .i64 0, .int .i64 0, .slice none 0 0, .int .i64 8, .string ⟨#[103]⟩, .int .i64 0, .int .i64 0, .slice none 0 0] 98) := (x3 (KS) (by omega) (by omega)).trans k2
 clear x3 n2 m2 g2 k2
 refine Calls.mono (second_S KS _ k3) ?_
 rintro _ W4 ⟨rfl, hb4⟩
 have q4 : Kp (· = c) W3 W4 := Kp.of hb4
 have z4 : W3.heap.size ≤ W4.heap.size := q4.size
 have x4 : ∀ b, b < W3.heap.size → b ≠ c → W4.heap[b]? = W3.heap[b]? := fun b hb hn => q4.block b hb hn
 have n4 : W4.heap[w.heap.size]? = some (.cells #[.int .i64 3, .string ⟨#[83]⟩, .int .i64 0, .int .i64 0, .slice (some ⟨KS, 0, none⟩) 2 2] 98) := (x4 (w.heap.size) (by omega) (by omega)).trans n3
 have m4 : W4.heap[w.heap.size + 1 + 1 + 1 + 1 + 1 + 1 + 1]? = some (.cells #[.slice (some ⟨w.heap.size + 1 + 1 + 1 + 1 + 1 + 1, 0, none⟩) 1 1, .int .i64 0, .int .i64 30, .bool true] 237) := (x4 (w.heap.size + 1 + 1 + 1 + 1 + 1 + 1 + 1) (by omega) (by omega)).trans m3
 have g4 : W4.heap[w.heap.size + 1 + 1 + 1 + 1 + 1 + 1]? = some (.cells #[.int .i64 3] 190) := (x4 (w.heap.size + 1 + 1 + 1 + 1 + 1 + 1) (by omega) (by omega)).trans g3
 have k4 : W4.heap[KS]? = some (.cells #[.int .i64 8, .string ⟨#[102]⟩, .int .i64 0, .int .i64 0, .slice none 0 0, .int .i64 8, .string ⟨#[103]⟩, .int .i64 0, .int .i64 0, .slice none 0 0] 98) := (x4 (KS) (by omega) (by omega)).trans k3
 clear x4 n3 m3 g3 k3
 have cc4 : W4.cell? ⟨c, 0, none⟩ = some (.int .i64 (a + 1)) := (hb4.cell (p := ⟨c, 0, none⟩) (by show c < W3.heap.size; omega)).trans cc3
 have cf4 : W4.frozen? ⟨c, 0, none⟩ = false := (hb4.frozen (p := ⟨c, 0, none⟩) (by show c < W3.heap.size; omega)).trans cf3
 clear cc3 cf3
 have Q4 : Kp (· = c) w W4 := (((Kp.of b1).trans q2 fun _ _ h => h).trans q3 fun _ _ h => h).trans q4 fun _ _ h => h
 have hK4 : KS < W4.heap.size := by omega
 have hs4 : w.heap.size + 1 + 1 + 1 + 1 + 1 + 1 + 1 < W4.heap.size := by omega
 have hn4 : w.heap.size < W4.heap.size := by omega
 have nc := (cells_of n4).1
 have mc := (cells_of m4).1
 have kc := (cells_of k4).1
 go_wp2_with fail
 refine wp_loop_rounds 3 ?_
 rw [rounds_succ]
 go_wp2_with fail
 clear nc mc kc
 obtain ⟨W5, hW5⟩ : ∃ W, W = W4.alloc (.cells #[.int .i64 8, .string ⟨#[102]⟩, .int .i64 0, .int .i64 0, .slice none 0 0] 98) := ⟨_, rfl⟩
 rw [← hW5]
 have hb5 : Below W4.heap.size W4 W5 := by rw [hW5]; exact below1 _ _
 have q5 : Kp (· = c) W4 W5 := Kp.of hb5
 have y5 : W5.heap.size = W4.heap.size + 1 := by rw [hW5]; simp
 have kb5 : W5.heap[W4.heap.size]? = some (.cells #[.int .i64 8, .string ⟨#[102]⟩, .int .i64 0, .int .i64 0, .slice none 0 0] 98) := by rw [hW5]; exact heap_new _ _ _ rfl
 clear hW5
 have z5 : W4.heap.size ≤ W5.heap.size := q5.size
 have x5 : ∀ b, b < W4.heap.size → b ≠ c → W5.heap[b]? = W4.heap[b]? := fun b hb hn => q5.block b hb hn
 have n5 : W5.heap[w.heap.size]? = some (.cells #[.int .i64 3, .string ⟨#[83]⟩, .int .i64 0, .int .i64 0, .slice (some ⟨KS, 0, none⟩) 2 2] 98) := (x5 (w.heap.size) (by omega) (by omega)).trans n4
 have m5 : W5.heap[w.heap.size + 1 + 1 + 1 + 1 + 1 + 1 + 1]? = some (.cells #[.slice (some ⟨w.heap.size + 1 + 1 + 1 + 1 + 1 + 1, 0, none⟩) 1 1, .int .i64 0, .int .i64 30, .bool true] 237) := (x5 (w.heap.size + 1 + 1 + 1 + 1 + 1 + 1 + 1) (by omega) (by omega)).trans m4
 have g5 : W5.heap[w.heap.size + 1 + 1 + 1 + 1 + 1 + 1]? = some (.cells #[.int .i64 3] 190) := (x5 (w.heap.size + 1 + 1 + 1 + 1 + 1 + 1) (by omega) (by omega)).trans g4
 have k5 : W5.heap[KS]? = some (.cells #[.int .i64 8, .string ⟨#[102]⟩, .int .i64 0, .int .i64 0, .slice none 0 0, .int .i64 8, .string ⟨#[103]⟩, .int .i64 0, .int .i64 0, .slice none 0 0] 98) := (x5 (KS) (by omega) (by omega)).trans k4
 clear x5 n4 m4 g4 k4
 have cc5 : W5.cell? ⟨c, 0, none⟩ = some (.int .i64 (a + 1)) := (hb5.cell (p := ⟨c, 0, none⟩) (by show c < W4.heap.size; omega)).trans cc4
 have cf5 : W5.frozen? ⟨c, 0, none⟩ = false := (hb5.frozen (p := ⟨c, 0, none⟩) (by show c < W4.heap.size; omega)).trans cf4
 clear cc4 cf4
 have gc := (cells_of g5).1
 refine Calls.mono (role_0 _ _ _ _ _ _ (by omega) (gc 0)) ?_
 rintro _ W6 ⟨rfl, hb6⟩
 clear gc
 have q6 : Kp (· = c) W5 W6 := Kp.of hb6
 have kb6 : W6.heap[W4.heap.size]? = some (.cells #[.int .i64 8, .string ⟨#[102]⟩, .int .i64 0, .int .i64 0, .slice none 0 0] 98) := (hb6.block _ (by omega)).trans kb5
 have z6 : W5.heap.size ≤ W6.heap.size := q6.size
 have x6 : ∀ b, b < W5.heap.size → b ≠ c → W6.heap[b]? = W5.heap[b]? := fun b hb hn => q6.block b hb hn
 have n6 : W6.heap[w.heap.size]? = some (.cells #[.int .i64 3, .string ⟨#[83]⟩, .int .i64 0, .int .i64 0, .slice (some ⟨KS, 0, none⟩) 2 2] 98) := (x6 (w.heap.size) (by omega) (by omega)).trans n5
 have m6 : W6.heap[w.heap.size + 1 + 1 + 1 + 1 + 1 + 1 + 1]? = some (.cells #[.slice (some ⟨w.heap.size + 1 + 1 + 1 + 1 + 1 + 1, 0, none⟩) 1 1, .int .i64 0, .int .i64 30, .bool true] 237) := (x6 (w.heap.size + 1 + 1 + 1 + 1 + 1 + 1 + 1) (by omega) (by omega)).trans m5
 have g6 : W6.heap[w.heap.size + 1 + 1 + 1 + 1 + 1 + 1]? = some (.cells #[.int .i64 3] 190) := (x6 (w.heap.size + 1 + 1 + 1 + 1 + 1 + 1) (by omega) (by omega)).trans g5
 have k6 : W6.heap[KS]? = some (.cells #[.int .i64 8, .string ⟨#[102]⟩, .int .i64 0, .int .i64 0, .slice none 0 0, .int .i64 8, .string ⟨#[103]⟩, .int .i64 0, .int .i64 0, .slice none 0 0] 98) := (x6 (KS) (by omega) (by omega)).trans k5
 clear x6 n5 m5 g5 k5
 have cc6 : W6.cell? ⟨c, 0, none⟩ = some (.int .i64 (a + 1)) := (hb6.cell (p := ⟨c, 0, none⟩) (by show c < W5.heap.size; omega)).trans cc5
 have cf6 : W6.frozen? ⟨c, 0, none⟩ = false := (hb6.frozen (p := ⟨c, 0, none⟩) (by show c < W5.heap.size; omega)).trans cf5
 clear cc5 cf5
 have Q6 : Kp (· = c) w W6 := (Q4.trans q5 fun _ _ h => h).trans q6 fun _ _ h => h
 have kbc := (cells_of kb6).1
 have nc := (cells_of n6).1
 have mc := (cells_of m6).1
 go_wp2_with fail
 clear kbc
 clear nc mc
 refine Calls.mono (check_f c (a + 1) (by omega) (by omega) _ (ht.kp Q6 hgc1 hgc2 hgc3 hgc4) cc6 (by omega) cf6) ?_
 rintro _ W7 ⟨rfl, q7, cc7, cf7⟩
 clear cc6 cf6
 have z7 : W6.heap.size ≤ W7.heap.size := q7.size
 have x7 : ∀ b, b < W6.heap.size → b ≠ c → W7.heap[b]? = W6.heap[b]? := fun b hb hn => q7.block b hb hn
 have n7 : W7.heap[w.heap.size]? = some (.cells #[.int .i64 3, .string ⟨#[83]⟩, .int .i64 0, .int .i64 0, .slice (some ⟨KS, 0, none⟩) 2 2] 98) := (x7 (w.heap.size) (by omega) (by omega)).trans n6
 have m7 : W7.heap[w.heap.size + 1 + 1 + 1 + 1 + 1 + 1 + 1]? = some (.cells #[.slice (some ⟨w.heap.size + 1 + 1 + 1 + 1 + 1 + 1, 0, none⟩) 1 1, .int .i64 0, .int .i64 30, .bool true] 237) := (x7 (w.heap.size + 1 + 1 + 1 + 1 + 1 + 1 + 1) (by omega) (by omega)).trans m6
 have g7 : W7.heap[w.heap.size + 1 + 1 + 1 + 1 + 1 + 1]? = some (.cells #[.int .i64 3] 190) := (x7 (w.heap.size + 1 + 1 + 1 + 1 + 1 + 1) (by omega) (by omega)).trans g6
 have k7 : W7.heap[KS]? = some (.cells #[.int .i64 8, .string ⟨#[102]⟩, .int .i64 0, .int .i64 0, .slice none 0 0, .int .i64 8, .string ⟨#[103]⟩, .int .i64 0, .int .i64 0, .slice none 0 0] 98) := (x7 (KS) (by omega) (by omega)).trans k6
 clear x7 n6 m6 g6 k6
 have Q7 : Kp (· = c) w W7 := Q6.trans q7 fun _ _ h => h
 have hK7 : KS < W7.heap.size := by omega
 have hs7 : w.heap.size + 1 + 1 + 1 + 1 + 1 + 1 + 1 < W7.heap.size := by omega
 have hn7 : w.heap.size < W7.heap.size := by omega
 have nc := (cells_of n7).1
 have mc := (cells_of m7).1
 have kc := (cells_of k7).1
 go_wp2_with fail
 rw [rounds_succ]
 go_wp2_with fail
 clear nc mc kc
 obtain ⟨W8, hW8⟩ : ∃ W, W = W7.alloc (.cells #[.int .i64 8, .string ⟨#[103]⟩, .int .i64 0, .int .i64 0, .slice none 0 0] 98) := ⟨_, rfl⟩
 rw [← hW8]
 have hb8 : Below W7.heap.size W7 W8 := by rw [hW8]; exact below1 _ _
 have q8 : Kp (· = c) W7 W8 := Kp.of hb8
 have y8 : W8.heap.size = W7.heap.size + 1 := by rw [hW8]; simp
 have kb8 : W8.heap[W7.heap.size]? = some (.cells #[.int .i64 8, .string ⟨#[103]⟩, .int .i64 0, .int .i64 0, .slice none 0 0] 98) := by rw [hW8]; exact heap_new _ _ _ rfl
 clear hW8
 have z8 : W7.heap.size ≤ W8.heap.size := q8.size
 have x8 : ∀ b, b < W7.heap.size → b ≠ c → W8.heap[b]? = W7.heap[b]? := fun b hb hn => q8.block b hb hn
 have n8 : W8.heap[w.heap.size]? = some (.cells #[.int .i64 3, .string ⟨#[83]⟩, .int .i64 0, .int .i64 0, .slice (some ⟨KS, 0, none⟩) 2 2] 98) := (x8 (w.heap.size) (by omega) (by omega)).trans n7
 have m8 : W8.heap[w.heap.size + 1 + 1 + 1 + 1 + 1 + 1 + 1]? = some (.cells #[.slice (some ⟨w.heap.size + 1 + 1 + 1 + 1 + 1 + 1, 0, none⟩) 1 1, .int .i64 0, .int .i64 30, .bool true] 237) := (x8 (w.heap.size + 1 + 1 + 1 + 1 + 1 + 1 + 1) (by omega) (by omega)).trans m7
 have g8 : W8.heap[w.heap.size + 1 + 1 + 1 + 1 + 1 + 1]? = some (.cells #[.int .i64 3] 190) := (x8 (w.heap.size + 1 + 1 + 1 + 1 + 1 + 1) (by omega) (by omega)).trans g7
 have k8 : W8.heap[KS]? = some (.cells #[.int .i64 8, .string ⟨#[102]⟩, .int .i64 0, .int .i64 0, .slice none 0 0, .int .i64 8, .string ⟨#[103]⟩, .int .i64 0, .int .i64 0, .slice none 0 0] 98) := (x8 (KS) (by omega) (by omega)).trans k7
 clear x8 n7 m7 g7 k7
 have cc8 : W8.cell? ⟨c, 0, none⟩ = some (.int .i64 (a + 1 + 1)) := (hb8.cell (p := ⟨c, 0, none⟩) (by show c < W7.heap.size; omega)).trans cc7
 have cf8 : W8.frozen? ⟨c, 0, none⟩ = false := (hb8.frozen (p := ⟨c, 0, none⟩) (by show c < W7.heap.size; omega)).trans cf7
 clear cc7 cf7
 have gc := (cells_of g8).1
 refine Calls.mono (role_1 _ _ _ _ _ _ (by omega) (gc 0)) ?_
 rintro _ W9 ⟨rfl, hb9⟩
 clear gc
 have q9 : Kp (· = c) W8 W9 := Kp.of hb9
 have kb9 : W9.heap[W7.heap.size]? = some (.cells #[.int .i64 8, .string ⟨#[103]⟩, .int .i64 0, .int .i64 0, .slice none 0 0] 98) := (hb9.block _ (by omega)).trans kb8
 have z9 : W8.heap.size ≤ W9.heap.size := q9.size
 have x9 : ∀ b, b < W8.heap.size → b ≠ c → W9.heap[b]? = W8.heap[b]? := fun b hb hn => q9.block b hb hn
 have n9 : W9.heap[w.heap.size]? = some (.cells #[.int .i64 3, .string ⟨#[83]⟩, .int .i64 0, .int .i64 0, .slice (some ⟨KS, 0, none⟩) 2 2] 98) := (x9 (w.heap.size) (by omega) (by omega)).trans n8
 have m9 : W9.heap[w.heap.size + 1 + 1 + 1 + 1 + 1 + 1 + 1]? = some (.cells #[.slice (some ⟨w.heap.size + 1 + 1 + 1 + 1 + 1 + 1, 0, none⟩) 1 1, .int .i64 0, .int .i64 30, .bool true] 237) := (x9 (w.heap.size + 1 + 1 + 1 + 1 + 1 + 1 + 1) (by omega) (by omega)).trans m8
 have g9 : W9.heap[w.heap.size + 1 + 1 + 1 + 1 + 1 + 1]? = some (.cells #[.int .i64 3] 190) := (x9 (w.heap.size + 1 + 1 + 1 + 1 + 1 + 1) (by omega) (by omega)).trans g8
 have k9 : W9.heap[KS]? = some (.cells #[.int .i64 8, .string ⟨#[102]⟩, .int .i64 0, .int .i64 0, .slice none 0 0, .int .i64 8, .string ⟨#[103]⟩, .int .i64 0, .int .i64 0, .slice none 0 0] 98) := (x9 (KS) (by omega) (by omega)).trans k8
 clear x9 n8 m8 g8 k8
 have cc9 : W9.cell? ⟨c, 0, none⟩ = some (.int .i64 (a + 1 + 1)) := (hb9.cell (p := ⟨c, 0, none⟩) (by show c < W8.heap.size; omega)).trans cc8
 have cf9 : W9.frozen? ⟨c, 0, none⟩ = false := (hb9.frozen (p := ⟨c, 0, none⟩) (by show c < W8.heap.size; omega)).trans cf8
 clear cc8 cf8
 have Q9 : Kp (· = c) w W9 := (Q7.trans q8 fun _ _ h => h).trans q9 fun _ _ h => h
 have kbc := (cells_of kb9).1
 have nc := (cells_of n9).1
 have mc := (cells_of m9).1
 go_wp2_with fail
 clear kbc
 clear nc mc
 refine Calls.mono (check_g c (a + 1 + 1) (by omega) (by omega) _ (ht.kp Q9 hgc1 hgc2 hgc3 hgc4) cc9 (by omega) cf9) ?_
 rintro _ W10 ⟨rfl, q10, cc10, cf10⟩
 clear cc9 cf9
 have z10 : W9.heap.size ≤ W10.heap.size := q10.size
 have x10 : ∀ b, b < W9.heap.size → b ≠ c → W10.heap[b]? = W9.heap[b]? := fun b hb hn => q10.block b hb hn
 have n10 : W10.heap[w.heap.size]? = some (.cells #[.int .i64 3, .string ⟨#[83]⟩, .int .i64 0, .int .i64 0, .slice (some ⟨KS, 0, none⟩) 2 2] 98) := (x10 (w.heap.size) (by omega) (by omega)).trans n9
 have m10 : W10.heap[w.heap.size + 1 + 1 + 1 + 1 + 1 + 1 + 1]? = some (.cells #[.slice (some ⟨w.heap.size + 1 + 1 + 1 + 1 + 1 + 1, 0, none⟩) 1 1, .int .i64 0, .int .i64 30, .bool true] 237) := (x10 (w.heap.size + 1 + 1 + 1 + 1 + 1 + 1 + 1) (by omega) (by omega)).trans m9
 have g10 : W10.heap[w.heap.size + 1 + 1 + 1 + 1 + 1 + 1]? = some (.cells #[.int .i64 3] 190) := (x10 (w.heap.size + 1 + 1 + 1 + 1 + 1 + 1) (by omega) (by omega)).trans g9
 have k10 : W10.heap[KS]? = some (.cells #[.int .i64 8, .string ⟨#[102]⟩, .int .i64 0, .int .i64 0, .slice none 0 0, .int .i64 8, .string ⟨#[103]⟩, .int .i64 0, .int .i64 0, .slice none 0 0] 98) := (x10 (KS) (by omega) (by omega)).trans k9
 clear x10 n9 m9 g9 k9
 have Q10 : Kp (· = c) w W10 := Q9.trans q10 fun _ _ h => h
 have hK10 : KS < W10.heap.size := by omega
 have hs10 : w.heap.size + 1 + 1 + 1 + 1 + 1 + 1 + 1 < W10.heap.size := by omega
 have hn10 : w.heap.size < W10.heap.size := by omega
 have nc := (cells_of n10).1
 have mc := (cells_of m10).1
 have kc := (cells_of k10).1
 go_wp2_with fail
 rw [rounds_succ]
 go_wp2_with fail
 clear nc mc kc
 go_ret
 exact ⟨rfl, Q10, by rw [cc10]; congr 2; omega, cf10⟩
theorem check_T {gw ow gs os : Nat} (c : Nat) (a : Int) (ha : 0 ≤ a) (ha2 : a < 995) (KT : Nat) (w : World) (ht : TabsAt gw ow gs os w) (hgc1 : gw ≠ c) (hgc2 : gs ≠ c) (hgc3 : 6 ≠ c) (hgc4 : 7 ≠ c) (hc : w.cell? ⟨c, 0, none⟩ = some (.int .i64 a)) (hcl : c < w.heap.size) (hf : w.frozen? ⟨c, 0, none⟩ = false) (hk : w.heap[KT]? = some (.cells #[.int .i64 8, .string ⟨#[97]⟩, .int .i64 0, .int .i64 0, .slice none 0 0] 98)) (hkc : KT ≠ c) :
  Calls Tryz.prog 103 #[.pointer (some ⟨c, 0, none⟩), .agg #[.int .i64 3, .string ⟨#[84]⟩, .int .i64 0, .int .i64 0, .slice (some ⟨KT, 0, none⟩) 1 1], .int .i64 2, .int .i64 2] w fun e w' => e = .returned .nilIface ∧ Kp (· = c) w w' ∧ w'.cell? ⟨c, 0, none⟩ = some (.int .i64 (a + 2)) ∧ w'.frozen? ⟨c, 0, none⟩ = false := by
 have hk_l := heap_lt hk
 go_enter Tryz.func103, Tryz.ntmps103
 go_wp2_with fail
 refine Calls.mono (shapeOf_T KT _) ?_
 rintro _ _ ⟨rfl, rfl⟩
 go_wp2_with fail
 obtain ⟨W1, hW1⟩ : ∃ W, W = ((((((((w.alloc (.cells #[.int .i64 3, .string ⟨#[84]⟩, .int .i64 0, .int .i64 0, .slice (some ⟨KT, 0, none⟩) 1 1] 98)).alloc (.cells #[.int .i64 3, .string ⟨#[84]⟩, .int .i64 0, .int .i64 0, .slice (some ⟨KT, 0, none⟩) 1 1] 98)).alloc (.cells #[.slice (some ⟨w.heap.size + 1 + 1 + 1 + 1 + 1 + 1, 0, none⟩) 1 1, .int .i64 0, .int .i64 30, .bool true] 237)).alloc (.cells #[.int .i64 3, .string ⟨#[84]⟩, .int .i64 0, .int .i64 0, .slice (some ⟨KT, 0, none⟩) 1 1] 98)).alloc (.cells #[.slice (some ⟨w.heap.size + 1 + 1 + 1 + 1 + 1 + 1, 0, none⟩) 1 1, .int .i64 0, .int .i64 30, .bool true] 237)).alloc (.cells #[.slice (some ⟨w.heap.size + 1 + 1 + 1 + 1 + 1 + 1, 0, none⟩) 1 1, .int .i64 0, .int .i64 30, .bool true] 237)).alloc (.cells #[.int .i64 3] 190)).alloc (.cells #[.slice (some ⟨w.heap.size + 1 + 1 + 1 + 1 + 1 + 1, 0, none⟩) 1 1, .int .i64 0, .int .i64 30, .bool true] 237)) := ⟨_, rfl⟩
 have b1 : Below w.heap.size w W1 := by rw [hW1]; repeat (first | exact Below.refl _ _ | refine Below.alloc ?_ (by simp <;> omega) _)
 have z1 : W1.heap.size = w.heap.size + 1 + 1 + 1 + 1 + 1 + 1 + 1 + 1 := by rw [hW1]; simp
 have n1 : W1.heap[w.heap.size]? = some (.cells #[.int .i64 3, .string ⟨#[84]⟩, .int .i64 0, .int .i64 0, .slice (some ⟨KT, 0, none⟩) 1 1] 98) := by rw [hW1, heap_old _ _ _ (by simp <;> omega), heap_old _ _ _ (by simp <;> omega), heap_old _ _ _ (by simp <;> omega), heap_old _ _ _ (by simp <;> omega), heap_old _ _ _ (by simp <;> omega), heap_old _ _ _ (by simp <;> omega), heap_old _ _ _ (by simp <;> omega)]; exact heap_new _ _ _ (by simp)
 have m1 : W1.heap[w.heap.size + 1 + 1 + 1 + 1 + 1 + 1 + 1]? = some (.cells #[.slice (some ⟨w.heap.size + 1 + 1 + 1 + 1 + 1 + 1, 0, none⟩) 1 1, .int .i64 0, .int .i64 30, .bool true] 237) := by rw [hW1]; exact heap_new _ _ _ (by simp)
 have g1 : W1.heap[w.heap.size + 1 + 1 + 1 + 1 + 1 + 1]? = some (.cells #[.int .i64 3] 190) := by rw [hW1, heap_old _ _ _ (by simp <;> omega)]; exact heap_new _ _ _ (by simp)
 have k1 : W1.heap[KT]? = some (.cells #[.int .i64 8, .string ⟨#[97]⟩, .int .i64 0, .int .i64 0, .slice none 0 0] 98) := (b1.block _ hk_l).trans hk
 rw [← hW1]
 clear hW1
 refine Calls.mono (fault_T c a (by omega) KT _ _ (ht.below (Nat.le_refl _) b1) ((b1.cell (p := ⟨c, 0, none⟩) hcl).trans hc) (Nat.lt_of_lt_of_le hcl b1.size)) ?_
 rintro _ W2 ⟨rfl, hb2⟩
 have cc1 : W1.cell? ⟨c, 0, none⟩ = some (.int .i64 (a)) := (b1.cell (p := ⟨c, 0, none⟩) hcl).trans hc
 have cf1 : W1.frozen? ⟨c, 0, none⟩ = false := (b1.frozen (p := ⟨c, 0, none⟩) hcl).trans hf
 have q2 : Kp (· = c) W1 W2 := Kp.of hb2
 have z2 : W1.heap.size ≤ W2.heap.size := q2.size
 have x2 : ∀ b, b < W1.heap.size → b ≠ c → W2.heap[b]? = W1.heap[b]? := fun b hb hn => q2.block b hb hn
 have n2 : W2.heap[w.heap.size]? = some (.cells #[.int .i64 3, .string ⟨#[84]⟩, .int .i64 0, .int .i64 0, .slice (some ⟨KT, 0, none⟩) 1 1] 98) := (x2 (w.heap.size) (by omega) (by omega)).trans n1
 have m2 : W2.heap[w.heap.size + 1 + 1 + 1 + 1 + 1 + 1 + 1]? = some (.cells #[.slice (some ⟨w.heap.size + 1 + 1 + 1 + 1 + 1 + 1, 0, none⟩) 1 1, .int .i64 0, .int .i64 30, .bool true] 237) := (x2 (w.heap.size + 1 + 1 + 1 + 1 + 1 + 1 + 1) (by omega) (by omega)).trans m1
 have g2 : W2.heap[w.heap.size + 1 + 1 + 1 + 1 + 1 + 1]? = some (.cells #[.int .i64 3] 190) := (x2 (w.heap.size + 1 + 1 + 1 + 1 + 1 + 1) (by omega) (by omega)).trans g1
 have k2 : W2.heap[KT]? = some (.cells #[.int .i64 8, .string ⟨#[97]⟩, .int .i64 0, .int .i64 0, .slice none 0 0] 98) := (x2 (KT) (by omega) (by omega)).trans k1
 clear x2 n1 m1 g1 k1
 have cc2 : W2.cell? ⟨c, 0, none⟩ = some (.int .i64 (a)) := (hb2.cell (p := ⟨c, 0, none⟩) (by show c < W1.heap.size; omega)).trans cc1
 have cf2 : W2.frozen? ⟨c, 0, none⟩ = false := (hb2.frozen (p := ⟨c, 0, none⟩) (by show c < W1.heap.size; omega)).trans cf1
 clear cc1 cf1
 have nc := (cells_of n2).1
 have mc := (cells_of m2).1
 go_wp2_with fail
 clear nc mc
 obtain ⟨W3, hW3⟩ : ∃ W, W = W2.setCell ⟨c, 0, none⟩ (.int .i64 (a + 1)) := ⟨_, rfl⟩
 rw [← hW3]
 have q3 : Kp (· = c) W2 W3 := by rw [hW3]; exact Kp.set _ _ _ _ rfl
 have cc3 : W3.cell? ⟨c, 0, none⟩ = some (.int .i64 (a + 1)) := by rw [hW3]; exact World.cell?_setCell_same _ _ _ cc2
 have cf3 : W3.frozen? ⟨c, 0, none⟩ = false := by rw [hW3]; simpa using cf2
 clear hW3 cc2 cf2
 have z3 : W2.heap.size ≤ W3.heap.size := q3.size
 have x3 : ∀ b, b < W2.heap.size → b ≠ c → W3.heap[b]? = W2.heap[b]? := fun b hb hn => q3.block b hb hn
 have n3 : W3.heap[w.heap.size]? = some (.cells #[.int .i64 3, .string ⟨#[84]⟩, .int .i64 0, .int .i64 0, .slice (some ⟨KT, 0, none⟩) 1 1] 98) := (x3 (w.heap.size) (by omega) (by omega)).trans n2
 have m3 : W3.heap[w.heap.size + 1 + 1 + 1 + 1 + 1 + 1 + 1]? = some (.cells #[.slice (some ⟨w.heap.size + 1 + 1 + 1 + 1 + 1 + 1, 0, none⟩) 1 1, .int .i64 0, .int .i64 30, .bool true] 237) := (x3 (w.heap.size + 1 + 1 + 1 + 1 + 1 + 1 + 1) (by omega) (by omega)).trans m2
 have g3 : W3.heap[w.heap.size + 1 + 1 + 1 + 1 + 1 + 1]? = some (.cells #[.int .i64 3] 190) := (x3 (w.heap.size + 1 + 1 + 1 + 1 + 1 + 1) (by omega) (by omega)).trans g2
 have k3 : W3.heap[KT]? = some (.cells #[.int .i64 8, .string ⟨#[97]⟩, .int .i64 0, .int .i64 0, .slice none 0 0] 98) := (x3 (KT) (by omega) (by omega)).trans k2
 clear x3 n2 m2 g2 k2
 refine Calls.mono (second_T KT _ k3) ?_
 rintro _ W4 ⟨rfl, hb4⟩
 have q4 : Kp (· = c) W3 W4 := Kp.of hb4
 have z4 : W3.heap.size ≤ W4.heap.size := q4.size
 have x4 : ∀ b, b < W3.heap.size → b ≠ c → W4.heap[b]? = W3.heap[b]? := fun b hb hn => q4.block b hb hn
 have n4 : W4.heap[w.heap.size]? = some (.cells #[.int .i64 3, .string ⟨#[84]⟩, .int .i64 0, .int .i64 0, .slice (some ⟨KT, 0, none⟩) 1 1] 98) := (x4 (w.heap.size) (by omega) (by omega)).trans n3
 have m4 : W4.heap[w.heap.size + 1 + 1 + 1 + 1 + 1 + 1 + 1]? = some (.cells #[.slice (some ⟨w.heap.size + 1 + 1 + 1 + 1 + 1 + 1, 0, none⟩) 1 1, .int .i64 0, .int .i64 30, .bool true] 237) := (x4 (w.heap.size + 1 + 1 + 1 + 1 + 1 + 1 + 1) (by omega) (by omega)).trans m3
 have g4 : W4.heap[w.heap.size + 1 + 1 + 1 + 1 + 1 + 1]? = some (.cells #[.int .i64 3] 190) := (x4 (w.heap.size + 1 + 1 + 1 + 1 + 1 + 1) (by omega) (by omega)).trans g3
 have k4 : W4.heap[KT]? = some (.cells #[.int .i64 8, .string ⟨#[97]⟩, .int .i64 0, .int .i64 0, .slice none 0 0] 98) := (x4 (KT) (by omega) (by omega)).trans k3
 clear x4 n3 m3 g3 k3
 have cc4 : W4.cell? ⟨c, 0, none⟩ = some (.int .i64 (a + 1)) := (hb4.cell (p := ⟨c, 0, none⟩) (by show c < W3.heap.size; omega)).trans cc3
 have cf4 : W4.frozen? ⟨c, 0, none⟩ = false := (hb4.frozen (p := ⟨c, 0, none⟩) (by show c < W3.heap.size; omega)).trans cf3
 clear cc3 cf3
 have Q4 : Kp (· = c) w W4 := (((Kp.of b1).trans q2 fun _ _ h => h).trans q3 fun _ _ h => h).trans q4 fun _ _ h => h
 have hK4 : KT < W4.heap.size := by omega
 have hs4 : w.heap.size + 1 + 1 + 1 + 1 + 1 + 1 + 1 < W4.heap.size := by omega
 have hn4 : w.heap.size < W4.heap.size := by omega
 have nc := (cells_of n4).1
 have mc := (cells_of m4).1
 have kc := (cells_of k4).1
 go_wp2_with fail
 refine wp_loop_rounds 2 ?_
 rw [rounds_succ]
 go_wp2_with fail
 clear nc mc kc
 obtain ⟨W5, hW5⟩ : ∃ W, W = W4.alloc (.cells #[.int .i64 8, .string ⟨#[97]⟩, .int .i64 0, .int .i64 0, .slice none 0 0] 98) := ⟨_, rfl⟩
 rw [← hW5]
 have hb5 : Below W4.heap.size W4 W5 := by rw [hW5]; exact below1 _ _
 have q5 : Kp (· = c) W4 W5 := Kp.of hb5
 have y5 : W5.heap.size = W4.heap.size + 1 := by rw [hW5]; simp
 have kb5 : W5.heap[W4.heap.size]? = some (.cells #[.int .i64 8, .string ⟨#[97]⟩, .int .i64 0, .int .i64 0, .slice none 0 0] 98) := by rw [hW5]; exact heap_new _ _ _ rfl
 clear hW5
 have z5 : W4.heap.size ≤ W5.heap.size := q5.size
 have x5 : ∀ b, b < W4.heap.size → b ≠ c → W5.heap[b]? = W4.heap[b]? := fun b hb hn => q5.block b hb hn
 have n5 : W5.heap[w.heap.size]? = some (.cells #[.int .i64 3, .string ⟨#[84]⟩, .int .i64 0, .int .i64 0, .slice (some ⟨KT, 0, none⟩) 1 1] 98) := (x5 (w.heap.size) (by omega) (by omega)).trans n4
 have m5 : W5.heap[w.heap.size + 1 + 1 + 1 + 1 + 1 + 1 + 1]? = some (.cells #[.slice (some ⟨w.heap.size + 1 + 1 + 1 + 1 + 1 + 1, 0, none⟩) 1 1, .int .i64 0, .int .i64 30, .bool true] 237) := (x5 (w.heap.size + 1 + 1 + 1 + 1 + 1 + 1 + 1) (by omega) (by omega)).trans m4
 have g5 : W5.heap[w.heap.size + 1 + 1 + 1 + 1 + 1 + 1]? = some (.cells #[.int .i64 3] 190) := (x5 (w.heap.size + 1 + 1 + 1 + 1 + 1 + 1) (by omega) (by omega)).trans g4
 have k5 : W5.heap[KT]? = some (.cells #[.int .i64 8, .string ⟨#[97]⟩, .int .i64 0, .int .i64 0, .slice none 0 0] 98) := (x5 (KT) (by omega) (by omega)).trans k4
 clear x5 n4 m4 g4 k4
 have cc5 : W5.cell? ⟨c, 0, none⟩ = some (.int .i64 (a + 1)) := (hb5.cell (p := ⟨c, 0, none⟩) (by show c < W4.heap.size; omega)).trans cc4
 have cf5 : W5.frozen? ⟨c, 0, none⟩ = false := (hb5.frozen (p := ⟨c, 0, none⟩) (by show c < W4.heap.size; omega)).trans cf4
 clear cc4 cf4
 have gc := (cells_of g5).1
 refine Calls.mono (role_0 _ _ _ _ _ _ (by omega) (gc 0)) ?_
 rintro _ W6 ⟨rfl, hb6⟩
 clear gc
 have q6 : Kp (· = c) W5 W6 := Kp.of hb6
 have kb6 : W6.heap[W4.heap.size]? = some (.cells #[.int .i64 8, .string ⟨#[97]⟩, .int .i64 0, .int .i64 0, .slice none 0 0] 98) := (hb6.block _ (by omega)).trans kb5
 have z6 : W5.heap.size ≤ W6.heap.size := q6.size
 have x6 : ∀ b, b < W5.heap.size → b ≠ c → W6.heap[b]? = W5.heap[b]? := fun b hb hn => q6.block b hb hn
 have n6 : W6.heap[w.heap.size]? = some (.cells #[.int .i64 3, .string ⟨#[84]⟩, .int .i64 0, .int .i64 0, .slice (some ⟨KT, 0, none⟩) 1 1] 98) := (x6 (w.heap.size) (by omega) (by omega)).trans n5
 have m6 : W6.heap[w.heap.size + 1 + 1 + 1 + 1 + 1 + 1 + 1]? = some (.cells #[.slice (some ⟨w.heap.size + 1 + 1 + 1 + 1 + 1 + 1, 0, none⟩) 1 1, .int .i64 0, .int .i64 30, .bool true] 237) := (x6 (w.heap.size + 1 + 1 + 1 + 1 + 1 + 1 + 1) (by omega) (by omega)).trans m5
 have g6 : W6.heap[w.heap.size + 1 + 1 + 1 + 1 + 1 + 1]? = some (.cells #[.int .i64 3] 190) := (x6 (w.heap.size + 1 + 1 + 1 + 1 + 1 + 1) (by omega) (by omega)).trans g5
 have k6 : W6.heap[KT]? = some (.cells #[.int .i64 8, .string ⟨#[97]⟩, .int .i64 0, .int .i64 0, .slice none 0 0] 98) := (x6 (KT) (by omega) (by omega)).trans k5
 clear x6 n5 m5 g5 k5
 have cc6 : W6.cell? ⟨c, 0, none⟩ = some (.int .i64 (a + 1)) := (hb6.cell (p := ⟨c, 0, none⟩) (by show c < W5.heap.size; omega)).trans cc5
 have cf6 : W6.frozen? ⟨c, 0, none⟩ = false := (hb6.frozen (p := ⟨c, 0, none⟩) (by show c < W5.heap.size; omega)).trans cf5
 clear cc5 cf5
 have Q6 : Kp (· = c) w W6 := (Q4.trans q5 fun _ _ h => h).trans q6 fun _ _ h => h
 have kbc := (cells_of kb6).1
 have nc := (cells_of n6).1
 have mc := (cells_of m6).1
 go_wp2_with fail
 clear kbc
 clear nc mc
 refine Calls.mono (check_a c (a + 1) (by omega) (by omega) _ (ht.kp Q6 hgc1 hgc2 hgc3 hgc4) cc6 (by omega) cf6) ?_
 rintro _ W7 ⟨rfl, q7, cc7, cf7⟩
 clear cc6 cf6
 have z7 : W6.heap.size ≤ W7.heap.size := q7.size
 have x7 : ∀ b, b < W6.heap.size → b ≠ c → W7.heap[b]? = W6.heap[b]? := fun b hb hn => q7.block b hb hn
 have n7 : W7.heap[w.heap.size]? = some (.cells #[.int .i64 3, .string ⟨#[84]⟩, .int .i64 0, .int .i64 0, .slice (some ⟨KT, 0, none⟩) 1 1] 98) := (x7 (w.heap.size) (by omega) (by omega)).trans n6
 have m7 : W7.heap[w.heap.size + 1 + 1 + 1 + 1 + 1 + 1 + 1]? = some (.cells #[.slice (some ⟨w.heap.size + 1 + 1 + 1 + 1 + 1 + 1, 0, none⟩) 1 1, .int .i64 0, .int .i64 30, .bool true] 237) := (x7 (w.heap.size + 1 + 1 + 1 + 1 + 1 + 1 + 1) (by omega) (by omega)).trans m6
 have g7 : W7.heap[w.heap.size + 1 + 1 + 1 + 1 + 1 + 1]? = some (.cells #[.int .i64 3] 190) := (x7 (w.heap.size + 1 + 1 + 1 + 1 + 1 + 1) (by omega) (by omega)).trans g6
 have k7 : W7.heap[KT]? = some (.cells #[.int .i64 8, .string ⟨#[97]⟩, .int .i64 0, .int .i64 0, .slice none 0 0] 98) := (x7 (KT) (by omega) (by omega)).trans k6
 clear x7 n6 m6 g6 k6
 have Q7 : Kp (· = c) w W7 := Q6.trans q7 fun _ _ h => h
 have hK7 : KT < W7.heap.size := by omega
 have hs7 : w.heap.size + 1 + 1 + 1 + 1 + 1 + 1 + 1 < W7.heap.size := by omega
 have hn7 : w.heap.size < W7.heap.size := by omega
 have nc := (cells_of n7).1
 have mc := (cells_of m7).1
 have kc := (cells_of k7).1
 go_wp2_with fail
 rw [rounds_succ]
 go_wp2_with fail
 clear nc mc kc
 go_ret
 exact ⟨rfl, Q7, by rw [cc7]; congr 2; omega, cf7⟩
end Go.Proofs.YtdbijkgnddcneaaGreatDoor.Lx
