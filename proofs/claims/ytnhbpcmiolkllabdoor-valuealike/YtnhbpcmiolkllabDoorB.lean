/-
  Small walks of layer 7: a type's name, letters, what stands at a datum's head.
-/
import Derived.Test.YtnhbpcmiolkllabDoorA
import Derived.Deep.RegionHeld3
import Derived.Handy
namespace Go.Proofs.YtnhbpcmiolkllabDoor
open Go.RowKit

theorem refold2 (w : World) (o1 o : Obj) : ({ heap := (w.alloc o1).heap.push o, tape := w.tape, drawn := w.drawn, os := (w.alloc o1).os, output := (w.alloc o1).output } : World) = (w.alloc o1).alloc o := rfl
theorem ite_yes {c A B : Prop} [Decidable c] (h : c) (a : A) : if c then A else B := by rw [if_pos h]; exact a
theorem cell3_0 (w : World) (cs : Array Value) (t : TypeId) (o2 o3 : Obj) (i : Nat) : (((w.alloc (.cells cs t)).alloc o2).alloc o3).cell? ⟨w.heap.size, i, none⟩ = cs[i]? := by
  rw [World.cell?_alloc_lt _ _ _ (by simp; omega), World.cell?_alloc_lt _ _ _ (by simp), World.cell?_alloc_new]
theorem cell3_1 (w : World) (cs : Array Value) (t : TypeId) (o1 o3 : Obj) (i : Nat) : (((w.alloc o1).alloc (.cells cs t)).alloc o3).cell? ⟨w.heap.size + 1, i, none⟩ = cs[i]? := by
  rw [World.cell?_alloc_lt _ _ _ (by simp), show w.heap.size + 1 = (w.alloc o1).heap.size by simp, World.cell?_alloc_new]
theorem heap2_1 (w : World) (o1 o2 : Obj) : ((w.alloc o1).alloc o2).heap[w.heap.size + 1]? = some o2 := by
  rw [show w.heap.size + 1 = (w.alloc o1).heap.size by simp]; exact heap_alloc_new _ _
theorem heap3_2 (w : World) (o1 o2 o3 : Obj) : (((w.alloc o1).alloc o2).alloc o3).heap[w.heap.size + 1 + 1]? = some o3 := by
  rw [show w.heap.size + 1 + 1 = ((w.alloc o1).alloc o2).heap.size by simp]; exact heap_alloc_new _ _
theorem row_at {W : World} {b : Nat} {cs : Array Value} {t : TypeId} (h : W.heap[b]? = some (.cells cs t (0, 0))) (j : Nat) : W.cell? ⟨b, j, none⟩ = cs[j]? := by
  unfold World.cell?; rw [h]; rfl
theorem fz (w : World) (b : Nat) (c : Array Value) (t : TypeId) (i : Nat) (h : w.heap[b]? = some (.cells c t (0, 0))) : w.frozen? ⟨b, i, none⟩ = false := by unfold World.frozen?; rw [h]; simp

theorem srow {W : World} {g b j : Nat} {cs : Array Value} (h : b ≠ g) : (W.setRow g cs).cell? ⟨b, j, none⟩ = W.cell? ⟨b, j, none⟩ := World.cell?_of_block (setRow_other _ _ _ _ h)
theorem rowT {w : World} {g : Nat} {cs old : Array Value} {t : TypeId} (hg : w.heap[g]? = some (.cells old t (0, 0))) (j : Nat) : (w.setRow g cs).cell? ⟨g, j, none⟩ = cs[j]? := by
  simp [World.cell?, setRow_heap w g old cs t (0, 0) hg]

/-- A type's name. -/
def nm (k : Int) (t : ByteArray) : ByteArray := if k = 0 then ⟨#[110, 105, 108]⟩ else if k = 9 then ⟨#[42]⟩ ++ t else t

set_option maxRecDepth 100000 in
set_option maxHeartbeats 1000000 in
theorem name_any (k : Int) (t : ByteArray) (a f : Int) (s : ByteArray) (r0 r1 r2 r3 : Int) (p i : Value) (w : World) (ht : t.size ≤ 140737488351232) :
    Calls Tryd.prog 45 #[D k t a f s r0 r1 r2 r3 p i] w fun r w' => r = .returned (.string (nm k t)) ∧ Below w.heap.size w w' := by
  simp only [D]
  by_cases h0 : k = 0
  · subst h0
    rw [show nm 0 t = ⟨#[110, 105, 108]⟩ from rfl]
    go_enter Tryd.func45, Tryd.ntmps45
    go_wp2
    go_ret
    exact ⟨rfl, below1 _ _⟩
  · by_cases h9 : k = 9
    · subst h9
      rw [show nm 9 t = ⟨#[42]⟩ ++ t from rfl]
      go_enter Tryd.func45, Tryd.ntmps45
      go_wp2
      go_ret
      exact ⟨rfl, below1 _ _⟩
    · rw [show nm k t = t by unfold nm; rw [if_neg h0, if_neg h9]]
      go_enter Tryd.func45, Tryd.ntmps45
      go_wp2_with (go_at_call 47; refine (clone_any _ _ ht).mono ?_; rintro r w' ⟨rfl, hb⟩)
      go_ret
      exact ⟨rfl, (below1 w _).trans (hb.mono (by simp))⟩

/-- Is a byte a letter, a digit? -/
def isLetter (c : Int) : Bool := (97 ≤ c && c ≤ 122) || (65 ≤ c && c ≤ 90) || c == 95
def isDigit (c : Int) : Bool := 48 ≤ c && c ≤ 57

set_option maxHeartbeats 1000000 in
theorem letter_any (c : Int) (w : World) : Calls Tryd.prog 53 #[.int .u8 c] w fun r w' => r = .returned (.bool (isLetter c)) ∧ w' = w := by
  unfold isLetter
  go_enter Tryd.func53, Tryd.ntmps53
  go_wp2
  all_goals (go_ret; refine ⟨?_, rfl⟩; simp_all)
  all_goals first | omega | skip
  have h1 : ¬ c ≤ 90 := by omega
  have h2 : ¬ 97 ≤ c := by omega
  simp [h1, h2]

set_option maxHeartbeats 1000000 in
theorem digit_any (c : Int) (w : World) : Calls Tryd.prog 54 #[.int .u8 c] w fun r w' => r = .returned (.bool (isDigit c)) ∧ w' = w := by
  unfold isDigit
  go_enter Tryd.func54, Tryd.ntmps54
  go_wp2
  all_goals (go_ret; refine ⟨?_, rfl⟩; simp_all)
  all_goals (try omega)

/-- What stirs a number in. -/
def stir (h n : Int) : Int := bits BinOp.xor IntKind.u64 (IntKind.u64.wrap (bits BinOp.xor IntKind.u64 h n * 11400714819323198485)) (IntKind.u64.wrap (bits BinOp.xor IntKind.u64 h n * 11400714819323198485) / 4294967296)

set_option maxHeartbeats 1000000 in
theorem stirred_any (h n : Int) (w : World) : Calls Tryd.prog 50 #[.int .u64 h, .int .u64 n] w fun r w' => r = .returned (.int .u64 (stir h n)) ∧ w' = w := by
  unfold stir
  go_enter Tryd.func50, Tryd.ntmps50
  go_wp2
  go_ret
  exact ⟨rfl, rfl⟩

set_option maxRecDepth 100000 in
set_option maxHeartbeats 1000000 in
theorem typeOf_any (k : Int) (t : ByteArray) (a f : Int) (s : ByteArray) (r0 r1 r2 r3 : Int) (p i : Value) (w : World) :
    Calls Tryd.prog 42 #[D k t a f s r0 r1 r2 r3 p i] w fun r w' => r = .returned (.agg #[.int .i64 k, .string t]) ∧ Below w.heap.size w w' := by
  simp only [D]
  go_enter Tryd.func42, Tryd.ntmps42
  go_wp2
  refine bodyPost_ret (v := .agg #[.int .i64 k, .string t]) (by simp [results, Tryd.results42, go_sem]) rfl ⟨rfl, below2 _ _ _⟩

/-- A head's cells, all zero. -/
def zerosH : Array Value := #[.int .i64 0, .string ⟨#[]⟩, .int .i64 0, .int .u64 0, .string ⟨#[]⟩, .int .i64 0, .int .i64 0, .int .i64 0, .int .i64 0, .int .i64 0, .int .i64 0]
theorem b79 (k : Int) (t : ByteArray) (a f : Int) (s : ByteArray) (r0 r1 r2 r3 m l : Int) (w : World) : (Instr.build 79 #[(0, .agg #[.int .i64 k, .string t]), (1, .int .i64 a), (2, .int .u64 f), (3, .string s), (4, .int .i64 r0), (5, .int .i64 r1), (6, .int .i64 r2), (7, .int .i64 r3), (8, .int .i64 m), (9, .int .i64 l)]).run Tryd.prog w = .ok (.agg #[.int .i64 k, .string t, .int .i64 a, .int .u64 f, .string s, .int .i64 r0, .int .i64 r1, .int .i64 r2, .int .i64 r3, .int .i64 m, .int .i64 l]) w := run_build w 79 _ _ (by kernel_rfl)
theorem info79 : (Tryd.prog.info? 79).map (·.size) = some 11 := by kernel_rfl
attribute [local go_sem] b79 refold2

set_option maxRecDepth 100000 in
set_option maxHeartbeats 4000000 in
theorem headOf_any (k : Int) (t : ByteArray) (a f : Int) (s : ByteArray) (r0 r1 r2 r3 : Int) (pp : Option Addr) (m c : Nat) (ip : Option Addr) (il ic : Nat) (w : World) :
    Calls Tryd.prog 27 #[D k t a f s r0 r1 r2 r3 (.slice pp m c) (.slice ip il ic)] w fun r w' => r = .returned (.agg #[.int .i64 k, .string t, .int .i64 a, .int .u64 f, .string s, .int .i64 r0, .int .i64 r1, .int .i64 r2, .int .i64 r3, .int .i64 m, .int .i64 il]) ∧ Below w.heap.size w w' := by
  have HT : Hid (∀ W, Calls Tryd.prog 42 #[.agg #[.int .i64 k, .string t, .int .i64 a, .int .u64 f, .string s, .int .i64 r0, .int .i64 r1, .int .i64 r2, .int .i64 r3, .slice pp m c, .slice ip il ic]] W fun r w' => r = .returned (.agg #[.int .i64 k, .string t]) ∧ Below W.heap.size W w') := fun W => typeOf_any k t a f s r0 r1 r2 r3 _ _ W
  simp only [D]
  obtain ⟨W3, hW3⟩ : ∃ W3, W3 = ((w.alloc (.cells #[.int .i64 k, .string t, .int .i64 a, .int .u64 f, .string s, .int .i64 r0, .int .i64 r1, .int .i64 r2, .int .i64 r3, .slice pp m c, .slice ip il ic] 32)).alloc (.cells #[.int .i64 0, .string ⟨#[]⟩, .int .i64 0, .int .u64 0, .string ⟨#[]⟩, .int .i64 0, .int .i64 0, .int .i64 0, .int .i64 0, .int .i64 0, .int .i64 0] 79)).alloc (.cells #[.int .i64 r0, .int .i64 r1, .int .i64 r2, .int .i64 r3, .slice pp m c] 29) := ⟨_, rfl⟩
  have HK : Hid (∀ W, Below W3.heap.size W3 W → ((∀ j, W.cell? ⟨w.heap.size, j, none⟩ = (#[.int .i64 k, .string t, .int .i64 a, .int .u64 f, .string s, .int .i64 r0, .int .i64 r1, .int .i64 r2, .int .i64 r3, .slice pp m c, .slice ip il ic] : Array Value)[j]?) ∧ (∀ j, W.cell? ⟨w.heap.size + 1 + 1, j, none⟩ = (#[.int .i64 r0, .int .i64 r1, .int .i64 r2, .int .i64 r3, .slice pp m c] : Array Value)[j]?))) := fun W hW => by
    have h1 : ∀ j, W.cell? ⟨w.heap.size, j, none⟩ = (#[.int .i64 k, .string t, .int .i64 a, .int .u64 f, .string s, .int .i64 r0, .int .i64 r1, .int .i64 r2, .int .i64 r3, .slice pp m c, .slice ip il ic] : Array Value)[j]? := fun j => by rw [hW.cell (p := ⟨w.heap.size, j, none⟩) (by rw [hW3]; simp; omega), hW3]; exact cell3_0 _ _ _ _ _ _
    have h2 : ∀ j, W.cell? ⟨w.heap.size + 1 + 1, j, none⟩ = (#[.int .i64 r0, .int .i64 r1, .int .i64 r2, .int .i64 r3, .slice pp m c] : Array Value)[j]? := fun j => by rw [hW.cell (p := ⟨w.heap.size + 1 + 1, j, none⟩) (by rw [hW3]; simp), hW3]; exact row_at (heap3_2 _ _ _ _) _
    exact ⟨h1, h2⟩
  have hrow : Hid (W3.heap[w.heap.size + 1]? = some (.cells zerosH 79 (0, 0))) := by rw [hW3, Below.heap_alloc _ _ _ (by simp)]; exact heap2_1 _ _ _
  have hB3 : Below w.heap.size w W3 := by rw [hW3]; exact below3 _ _ _ _
  have hz3 : W3.heap.size = w.heap.size + 3 := by rw [hW3]; simp
  go_enter Tryd.func27, Tryd.ntmps27
  go_wp2_with fail
  rw [← hW3]
  clear hW3
  refine wp_region_noPanic ?_
  refine wp_region_held (S := fun W => (∀ j, W.cell? ⟨w.heap.size, j, none⟩ = (#[.int .i64 k, .string t, .int .i64 a, .int .u64 f, .string s, .int .i64 r0, .int .i64 r1, .int .i64 r2, .int .i64 r3, .slice pp m c, .slice ip il ic] : Array Value)[j]?) ∧ (∀ j, W.cell? ⟨w.heap.size + 1 + 1, j, none⟩ = (#[.int .i64 r0, .int .i64 r1, .int .i64 r2, .int .i64 r3, .slice pp m c] : Array Value)[j]?)) (by kernel_rfl) ?_
  obtain ⟨W4, hW4⟩ : ∃ W4, W4 = W3.drew := ⟨_, rfl⟩
  have e4 : ({ W3 with drawn := W3.drawn + 1 } : World) = W4 := hW4.symm
  rw [e4]
  have hB4 : Below W3.heap.size W3 W4 := by rw [hW4]; exact (Below.refl _ _).drew
  have hz4 : W4.heap.size = W3.heap.size := by rw [hW4]; rfl
  have hS := HK.out W4 hB4
  clear e4 hW4
  refine wpAnyH_take (i := 0) (v := .agg #[.int .i64 k, .string t, .int .i64 a, .int .u64 f, .string s, .int .i64 r0, .int .i64 r1, .int .i64 r2, .int .i64 r3, .slice pp m c, .slice ip il ic]) rfl (by kernel_rfl) (by kernel_rfl) (by kernel_rfl) (fun _ _ _ h => h) (Or.inl ⟨by rfl, ?r⟩) hS ?_
  case r => intro W hW; simp [go_sem, execOp, Act.eval, hW.1]
  simp only [List.getElem_toArray, List.getElem_cons_zero, Act.put, List.setIfInBounds_toArray, List.set_cons_succ, List.set_cons_zero]
  refine wpAnyH_take (i := 2) (v := .pointer (some ⟨w.heap.size, 2, none⟩)) rfl (by kernel_rfl) (by kernel_rfl) (by kernel_rfl) (fun _ _ _ h => h) (Or.inl ⟨by rfl, ?r⟩) hS ?_
  case r => intro W hW; simp [go_sem, execOp, Act.eval]
  simp only [List.getElem_toArray, List.getElem_cons_zero, List.getElem_cons_succ, Act.put, List.setIfInBounds_toArray, List.set_cons_succ, List.set_cons_zero]
  refine wpAnyH_take (i := 3) (v := .int .i64 a) rfl (by kernel_rfl) (by kernel_rfl) (by kernel_rfl) (fun _ _ _ h => h) (Or.inl ⟨by rfl, ?r⟩) hS ?_
  case r => intro W hW; simp [go_sem, execOp, Act.eval, hW.1]
  simp only [List.getElem_toArray, List.getElem_cons_zero, List.getElem_cons_succ, Act.put, List.setIfInBounds_toArray, List.set_cons_succ, List.set_cons_zero]
  refine wpAnyH_take (i := 4) (v := .pointer (some ⟨w.heap.size, 3, none⟩)) rfl (by kernel_rfl) (by kernel_rfl) (by kernel_rfl) (fun _ _ _ h => h) (Or.inl ⟨by rfl, ?r⟩) hS ?_
  case r => intro W hW; simp [go_sem, execOp, Act.eval]
  simp only [List.getElem_toArray, List.getElem_cons_zero, List.getElem_cons_succ, Act.put, List.setIfInBounds_toArray, List.set_cons_succ, List.set_cons_zero]
  refine wpAnyH_take (i := 5) (v := .int .u64 f) rfl (by kernel_rfl) (by kernel_rfl) (by kernel_rfl) (fun _ _ _ h => h) (Or.inl ⟨by rfl, ?r⟩) hS ?_
  case r => intro W hW; simp [go_sem, execOp, Act.eval, hW.1]
  simp only [List.getElem_toArray, List.getElem_cons_zero, List.getElem_cons_succ, Act.put, List.setIfInBounds_toArray, List.set_cons_succ, List.set_cons_zero]
  refine wpAnyH_take (i := 6) (v := .pointer (some ⟨w.heap.size, 4, none⟩)) rfl (by kernel_rfl) (by kernel_rfl) (by kernel_rfl) (fun _ _ _ h => h) (Or.inl ⟨by rfl, ?r⟩) hS ?_
  case r => intro W hW; simp [go_sem, execOp, Act.eval]
  simp only [List.getElem_toArray, List.getElem_cons_zero, List.getElem_cons_succ, Act.put, List.setIfInBounds_toArray, List.set_cons_succ, List.set_cons_zero]
  refine wpAnyH_take (i := 7) (v := .string s) rfl (by kernel_rfl) (by kernel_rfl) (by kernel_rfl) (fun _ _ _ h => h) (Or.inl ⟨by rfl, ?r⟩) hS ?_
  case r => intro W hW; simp [go_sem, execOp, Act.eval, hW.1]
  simp only [List.getElem_toArray, List.getElem_cons_zero, List.getElem_cons_succ, Act.put, List.setIfInBounds_toArray, List.set_cons_succ, List.set_cons_zero]
  refine wpAnyH_take (i := 8) (v := .pointer (some ⟨w.heap.size + 1 + 1, 0, none⟩)) rfl (by kernel_rfl) (by kernel_rfl) (by kernel_rfl) (fun _ _ _ h => h) (Or.inl ⟨by rfl, ?r⟩) hS ?_
  case r => intro W hW; simp [go_sem, execOp, Act.eval]
  simp only [List.getElem_toArray, List.getElem_cons_zero, List.getElem_cons_succ, Act.put, List.setIfInBounds_toArray, List.set_cons_succ, List.set_cons_zero]
  refine wpAnyH_take (i := 9) (v := .int .i64 r0) rfl (by kernel_rfl) (by kernel_rfl) (by kernel_rfl) (fun _ _ _ h => h) (Or.inl ⟨by rfl, ?r⟩) hS ?_
  case r => intro W hW; simp [go_sem, execOp, Act.eval, hW.2]
  simp only [List.getElem_toArray, List.getElem_cons_zero, List.getElem_cons_succ, Act.put, List.setIfInBounds_toArray, List.set_cons_succ, List.set_cons_zero]
  refine wpAnyH_take (i := 10) (v := .pointer (some ⟨w.heap.size + 1 + 1, 1, none⟩)) rfl (by kernel_rfl) (by kernel_rfl) (by kernel_rfl) (fun _ _ _ h => h) (Or.inl ⟨by rfl, ?r⟩) hS ?_
  case r => intro W hW; simp [go_sem, execOp, Act.eval]
  simp only [List.getElem_toArray, List.getElem_cons_zero, List.getElem_cons_succ, Act.put, List.setIfInBounds_toArray, List.set_cons_succ, List.set_cons_zero]
  refine wpAnyH_take (i := 11) (v := .int .i64 r1) rfl (by kernel_rfl) (by kernel_rfl) (by kernel_rfl) (fun _ _ _ h => h) (Or.inl ⟨by rfl, ?r⟩) hS ?_
  case r => intro W hW; simp [go_sem, execOp, Act.eval, hW.2]
  simp only [List.getElem_toArray, List.getElem_cons_zero, List.getElem_cons_succ, Act.put, List.setIfInBounds_toArray, List.set_cons_succ, List.set_cons_zero]
  refine wpAnyH_take (i := 12) (v := .pointer (some ⟨w.heap.size + 1 + 1, 2, none⟩)) rfl (by kernel_rfl) (by kernel_rfl) (by kernel_rfl) (fun _ _ _ h => h) (Or.inl ⟨by rfl, ?r⟩) hS ?_
  case r => intro W hW; simp [go_sem, execOp, Act.eval]
  simp only [List.getElem_toArray, List.getElem_cons_zero, List.getElem_cons_succ, Act.put, List.setIfInBounds_toArray, List.set_cons_succ, List.set_cons_zero]
  refine wpAnyH_take (i := 13) (v := .int .i64 r2) rfl (by kernel_rfl) (by kernel_rfl) (by kernel_rfl) (fun _ _ _ h => h) (Or.inl ⟨by rfl, ?r⟩) hS ?_
  case r => intro W hW; simp [go_sem, execOp, Act.eval, hW.2]
  simp only [List.getElem_toArray, List.getElem_cons_zero, List.getElem_cons_succ, Act.put, List.setIfInBounds_toArray, List.set_cons_succ, List.set_cons_zero]
  refine wpAnyH_take (i := 14) (v := .pointer (some ⟨w.heap.size + 1 + 1, 3, none⟩)) rfl (by kernel_rfl) (by kernel_rfl) (by kernel_rfl) (fun _ _ _ h => h) (Or.inl ⟨by rfl, ?r⟩) hS ?_
  case r => intro W hW; simp [go_sem, execOp, Act.eval]
  simp only [List.getElem_toArray, List.getElem_cons_zero, List.getElem_cons_succ, Act.put, List.setIfInBounds_toArray, List.set_cons_succ, List.set_cons_zero]
  refine wpAnyH_take (i := 15) (v := .int .i64 r3) rfl (by kernel_rfl) (by kernel_rfl) (by kernel_rfl) (fun _ _ _ h => h) (Or.inl ⟨by rfl, ?r⟩) hS ?_
  case r => intro W hW; simp [go_sem, execOp, Act.eval, hW.2]
  simp only [List.getElem_toArray, List.getElem_cons_zero, List.getElem_cons_succ, Act.put, List.setIfInBounds_toArray, List.set_cons_succ, List.set_cons_zero]
  refine wpAnyH_take (i := 16) (v := .pointer (some ⟨w.heap.size + 1 + 1, 4, none⟩)) rfl (by kernel_rfl) (by kernel_rfl) (by kernel_rfl) (fun _ _ _ h => h) (Or.inl ⟨by rfl, ?r⟩) hS ?_
  case r => intro W hW; simp [go_sem, execOp, Act.eval]
  simp only [List.getElem_toArray, List.getElem_cons_zero, List.getElem_cons_succ, Act.put, List.setIfInBounds_toArray, List.set_cons_succ, List.set_cons_zero]
  refine wpAnyH_take (i := 17) (v := .slice pp m c) rfl (by kernel_rfl) (by kernel_rfl) (by kernel_rfl) (fun _ _ _ h => h) (Or.inl ⟨by rfl, ?r⟩) hS ?_
  case r => intro W hW; simp [go_sem, execOp, Act.eval, hW.2]
  simp only [List.getElem_toArray, List.getElem_cons_zero, List.getElem_cons_succ, Act.put, List.setIfInBounds_toArray, List.set_cons_succ, List.set_cons_zero]
  refine wpAnyH_take (i := 18) (v := .int .i64 m) rfl (by kernel_rfl) (by kernel_rfl) (by kernel_rfl) (fun _ _ _ h => h) (Or.inl ⟨by rfl, ?r⟩) hS ?_
  case r => intro W hW; simp [go_sem, execOp, Act.eval]
  simp only [List.getElem_toArray, List.getElem_cons_zero, List.getElem_cons_succ, Act.put, List.setIfInBounds_toArray, List.set_cons_succ, List.set_cons_zero]
  refine wpAnyH_take (i := 19) (v := .pointer (some ⟨w.heap.size, 10, none⟩)) rfl (by kernel_rfl) (by kernel_rfl) (by kernel_rfl) (fun _ _ _ h => h) (Or.inl ⟨by rfl, ?r⟩) hS ?_
  case r => intro W hW; simp [go_sem, execOp, Act.eval]
  simp only [List.getElem_toArray, List.getElem_cons_zero, List.getElem_cons_succ, Act.put, List.setIfInBounds_toArray, List.set_cons_succ, List.set_cons_zero]
  refine wpAnyH_take (i := 20) (v := .slice ip il ic) rfl (by kernel_rfl) (by kernel_rfl) (by kernel_rfl) (fun _ _ _ h => h) (Or.inl ⟨by rfl, ?r⟩) hS ?_
  case r => intro W hW; simp [go_sem, execOp, Act.eval, hW.1]
  simp only [List.getElem_toArray, List.getElem_cons_zero, List.getElem_cons_succ, Act.put, List.setIfInBounds_toArray, List.set_cons_succ, List.set_cons_zero]
  refine wpAnyH_take (i := 21) (v := .int .i64 il) rfl (by kernel_rfl) (by kernel_rfl) (by kernel_rfl) (fun _ _ _ h => h) (Or.inl ⟨by rfl, ?r⟩) hS ?_
  case r => intro W hW; simp [go_sem, execOp, Act.eval]
  simp only [List.getElem_toArray, List.getElem_cons_zero, List.getElem_cons_succ, Act.put, List.setIfInBounds_toArray, List.set_cons_succ, List.set_cons_zero]
  refine wpAnyH_all (rs := [1]) (by kernel_rfl) (by simp) (fun i2 hi2 => ?_)
  obtain rfl : i2 = 1 := by simpa using hi2
  clear hi2
  refine wpOp_step rfl (fun K hK => ite_yes rfl ?_)
  simp only [List.getElem_toArray, List.getElem_cons_zero, List.getElem_cons_succ]
  go_simp
  refine (HT.out _).mono ?_
  rintro e w5 ⟨rfl, hb⟩
  have hb5 : Below W3.heap.size W3 w5 := hB4.trans (hb.mono (by omega))
  go_simp
  refine hK _ _ ⟨HK.out _ hb5, ?_⟩
  clear hK K
  refine wpAnyH_all (rs := [22]) (by kernel_rfl) (by simp) (fun i2 hi2 => ?_)
  obtain rfl : i2 = 22 := by simpa using hi2
  clear hi2
  refine wpOp_step rfl (fun K hK => ite_yes rfl ?_)
  simp only [List.getElem_toArray, List.getElem_cons_zero, List.getElem_cons_succ]
  go_simp
  refine hK _ _ ⟨HK.out _ hb5, ?_⟩
  clear hK K
  refine wpAnyH_all (rs := [23]) (by kernel_rfl) (by simp) (fun i2 hi2 => ?_)
  obtain rfl : i2 = 23 := by simpa using hi2
  clear hi2
  refine wpOp_step rfl (fun K hK => ite_yes rfl ?_)
  simp only [List.getElem_toArray, List.getElem_cons_zero, List.getElem_cons_succ]
  have hr3 := (hb5.block (w.heap.size + 1) (by omega)).trans hrow.out
  refine wp_store_row 79 _ _ rfl (w.heap.size + 1) _ rfl rfl 79 zerosH hr3 info79 rfl (by simp [Value.oneCell']) ?_
  refine hK _ _ ⟨⟨fun j => (srow (by omega)).trans ((HK.out _ hb5).1 j), fun j => (srow (by omega)).trans ((HK.out _ hb5).2 j)⟩, ?_⟩
  clear hK K
  refine wpAnyH_done (by kernel_rfl) ?_ _
  refine NoPanic.normal ?_
  try simp only [Act.put]
  go_wp2_with fail
  refine bodyPost_ret (v := .agg #[.int .i64 k, .string t, .int .i64 a, .int .u64 f, .string s, .int .i64 r0, .int .i64 r1, .int .i64 r2, .int .i64 r3, .int .i64 m, .int .i64 il]) (by simp [results, Tryd.results27, go_sem, rowT hr3]) rfl ⟨rfl, ?_⟩
  exact brow (hB3.trans (hb5.mono (by omega))) (by omega) _
end Go.Proofs.YtnhbpcmiolkllabDoor
