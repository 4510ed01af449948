/-
  .
  .
  .
-/
import Derived.Test.YtdbijkgnddcneaaGreatDoorSq
import Derived.Test.YtdbijkgnddcneaaGreatDoorA
import Derived.Deep.RegionHeld3
import Derived.Handy
namespace Go.Proofs.YtdbijkgnddcneaaGreatDoor
open Go.RowKit
set_option maxRecDepth 100000
set_option maxHeartbeats 4000000
theorem refold2 (w : World) (o1 o : Obj) : ({ heap := (w.alloc o1).heap.push o, tape := w.tape, drawn := w.drawn, os := (w.alloc o1).os, output := (w.alloc o1).output } : World) = (w.alloc o1).alloc o := rfl
theorem ite_yes {c A B : Prop} [Decidable c] (h : c) (a : A) : if c then A else B := by rw [if_pos h]; exact a
theorem cell3_0 (w : World) (cs : Array Value) (t : TypeId) (o2 o3 : Obj) (i : Nat) : (((w.alloc (.cells cs t)).alloc o2).alloc o3).cell? ⟨w.heap.size, i, none⟩ = cs[i]? := by
 rw [World.cell?_alloc_lt _ _ _ (by simp; omega), World.cell?_alloc_lt _ _ _ (by simp), World.cell?_alloc_new]
theorem cell3_1 (w : World) (cs : Array Value) (t : TypeId) (o1 o3 : Obj) (i : Nat) : (((w.alloc o1).alloc (.cells cs t)).alloc o3).cell? ⟨w.heap.size + 1, i, none⟩ = cs[i]? := by
 rw [World.cell?_alloc_lt _ _ _ (by simp), show w.heap.size + 1 = (w.alloc o1).heap.size by simp, World.cell?_alloc_new]
theorem heap2_1 (w : World) (o1 o2 : Obj) : ((w.alloc o1).alloc o2).heap[w.heap.size + 1]? = some o2 := by
 rw [show w.heap.size + 1 = (w.alloc o1).heap.size by simp]; exact heap_alloc_new _ _
theorem an2 (w : World) (o p : Obj) : ∃ W, W = (w.alloc o).alloc p ∧ Below w.heap.size w W ∧ W.heap[w.heap.size]? = some o ∧ W.heap[w.heap.size + 1]? = some p := ⟨_, rfl, below2 w _ _, by rw [Below.heap_alloc _ _ _ (by simp)]; exact heap_alloc_new _ _, heap2_1 _ _ _⟩
theorem heap3_2 (w : World) (o1 o2 o3 : Obj) : (((w.alloc o1).alloc o2).alloc o3).heap[w.heap.size + 1 + 1]? = some o3 := by
 rw [show w.heap.size + 1 + 1 = ((w.alloc o1).alloc o2).heap.size by simp]; exact heap_alloc_new _ _
theorem row_at {W : World} {b : Nat} {cs : Array Value} {t : TypeId} (h : W.heap[b]? = some (.cells cs t (0, 0))) (j : Nat) : W.cell? ⟨b, j, none⟩ = cs[j]? := by
 unfold World.cell?; rw [h]; rfl
theorem fz (w : World) (b : Nat) (c : Array Value) (t : TypeId) (i : Nat) (h : w.heap[b]? = some (.cells c t (0, 0))) : w.frozen? ⟨b, i, none⟩ = false := by unfold World.frozen?; rw [h]; simp
theorem srow {W : World} {g b j : Nat} {cs : Array Value} (h : b ≠ g) : (W.setRow g cs).cell? ⟨b, j, none⟩ = W.cell? ⟨b, j, none⟩ := World.cell?_of_block (setRow_other _ _ _ _ h)
theorem rowT {w : World} {g : Nat} {cs old : Array Value} {t : TypeId} (hg : w.heap[g]? = some (.cells old t (0, 0))) (j : Nat) : (w.setRow g cs).cell? ⟨g, j, none⟩ = cs[j]? := by
 simp [World.cell?, setRow_heap w g old cs t (0, 0) hg]
def nm (k : Int) (t : ByteArray) : ByteArray := if k = 0 then ⟨#[110, 105, 108]⟩ else if k = 9 then ⟨#[42]⟩ ++ t else t
theorem name_any (k : Int) (t : ByteArray) (a f : Int) (s : ByteArray) (r0 r1 r2 r3 : Int) (p i : Value) (w : World) (ht : t.size ≤ 140737488351232) :
  Calls Tryz.prog 48 #[D k t a f s r0 r1 r2 r3 p i] w fun r w' => r = .returned (.string (nm k t)) ∧ Below w.heap.size w w' := by
 simp only [D]
 by_cases h0 : k = 0
 ·subst h0
  rw [show nm 0 t = ⟨#[110, 105, 108]⟩ from rfl]
  go_enter Tryz.func48, Tryz.ntmps48
  go_wp2
  go_ret
  exact ⟨rfl, below1 _ _⟩
 ·by_cases h9 : k = 9
  ·subst h9
   rw [show nm 9 t = ⟨#[42]⟩ ++ t from rfl]
   go_enter Tryz.func48, Tryz.ntmps48
   go_wp2
   go_ret
   exact ⟨rfl, below1 _ _⟩
  ·rw [show nm k t = t by unfold nm; rw [if_neg h0, if_neg h9]]
   go_enter Tryz.func48, Tryz.ntmps48
   go_wp2_with (go_at_call 66; refine (clone_any _ _ ht).mono ?_; rintro r w' ⟨rfl, hb⟩)
   go_ret
   exact ⟨rfl, (below1 w _).trans (hb.mono (by simp))⟩
def isLetter (c : Int) : Bool := (97 ≤ c && c ≤ 122) || (65 ≤ c && c ≤ 90) || c == 95
def isDigit (c : Int) : Bool := 48 ≤ c && c ≤ 57
theorem letter_any (c : Int) (w : World) : Calls Tryz.prog 181 #[.int .u8 c] w fun r w' => r = .returned (.bool (isLetter c)) ∧ w' = w := by
 unfold isLetter
 go_enter Tryz.func181, Tryz.ntmps181
 go_wp2
 all_goals (go_ret; refine ⟨?_, rfl⟩; simp_all)
 all_goals first | omega | skip
 have h1 : ¬ c ≤ 90 := by omega
 have h2 : ¬ 97 ≤ c := by omega
 simp [h1, h2]
theorem digit_any (c : Int) (w : World) : Calls Tryz.prog 182 #[.int .u8 c] w fun r w' => r = .returned (.bool (isDigit c)) ∧ w' = w := by
 unfold isDigit
 go_enter Tryz.func182, Tryz.ntmps182
 go_wp2
 all_goals (go_ret; refine ⟨?_, rfl⟩; simp_all)
 all_goals (try omega)
def stir (h n : Int) : Int := bits BinOp.xor IntKind.u64 (IntKind.u64.wrap (bits BinOp.xor IntKind.u64 h n * 11400714819323198485)) (IntKind.u64.wrap (bits BinOp.xor IntKind.u64 h n * 11400714819323198485) / 4294967296)
theorem stirred_any (h n : Int) (w : World) : Calls Tryz.prog 196 #[.int .u64 h, .int .u64 n] w fun r w' => r = .returned (.int .u64 (stir h n)) ∧ w' = w := by
 unfold stir
 go_enter Tryz.func196, Tryz.ntmps196
 go_wp2
 go_ret
 exact ⟨rfl, rfl⟩
theorem typeOf_any (k : Int) (t : ByteArray) (a f : Int) (s : ByteArray) (r0 r1 r2 r3 : Int) (p i : Value) (w : World) :
  Calls Tryz.prog 141 #[D k t a f s r0 r1 r2 r3 p i] w fun r w' => r = .returned (.agg #[.int .i64 k, .string t]) ∧ Below w.heap.size w w' := by
 simp only [D]
 go_enter Tryz.func141, Tryz.ntmps141
 go_wp2
 refine bodyPost_ret (v := .agg #[.int .i64 k, .string t]) (by simp [results, Tryz.results141, go_sem]) rfl ⟨rfl, below2 _ _ _⟩
def zerosH : Array Value := #[.int .i64 0, .string ⟨#[]⟩, .int .i64 0, .int .u64 0, .string ⟨#[]⟩, .int .i64 0, .int .i64 0, .int .i64 0, .int .i64 0, .int .i64 0, .int .i64 0]
theorem b79 (k : Int) (t : ByteArray) (a f : Int) (s : ByteArray) (r0 r1 r2 r3 m l : Int) (w : World) : (Instr.build 178 #[(0, .agg #[.int .i64 k, .string t]), (1, .int .i64 a), (2, .int .u64 f), (3, .string s), (4, .int .i64 r0), (5, .int .i64 r1), (6, .int .i64 r2), (7, .int .i64 r3), (8, .int .i64 m), (9, .int .i64 l)]).run Tryz.prog w = .ok (.agg #[.int .i64 k, .string t, .int .i64 a, .int .u64 f, .string s, .int .i64 r0, .int .i64 r1, .int .i64 r2, .int .i64 r3, .int .i64 m, .int .i64 l]) w := run_build w 178 _ _ (by kernel_rfl)
theorem info79 : (Tryz.prog.info? 178).map (·.size) = some 11 := by kernel_rfl
attribute [local go_sem] b79 refold2
theorem headOf_any (k : Int) (t : ByteArray) (a f : Int) (s : ByteArray) (r0 r1 r2 r3 : Int) (pp : Option Addr) (m c : Nat) (ip : Option Addr) (il ic : Nat) (w : World) :
  Calls Tryz.prog 94 #[D k t a f s r0 r1 r2 r3 (.slice pp m c) (.slice ip il ic)] w fun r w' => r = .returned (.agg #[.int .i64 k, .string t, .int .i64 a, .int .u64 f, .string s, .int .i64 r0, .int .i64 r1, .int .i64 r2, .int .i64 r3, .int .i64 m, .int .i64 il]) ∧ Below w.heap.size w w' := by
 have HT : Hid (∀ W, Calls Tryz.prog 141 #[.agg #[.int .i64 k, .string t, .int .i64 a, .int .u64 f, .string s, .int .i64 r0, .int .i64 r1, .int .i64 r2, .int .i64 r3, .slice pp m c, .slice ip il ic]] W fun r w' => r = .returned (.agg #[.int .i64 k, .string t]) ∧ Below W.heap.size W w') := fun W => typeOf_any k t a f s r0 r1 r2 r3 _ _ W
 simp only [D]
 obtain ⟨W3, hW3⟩ : ∃ W3, W3 = ((w.alloc (.cells #[.int .i64 k, .string t, .int .i64 a, .int .u64 f, .string s, .int .i64 r0, .int .i64 r1, .int .i64 r2, .int .i64 r3, .slice pp m c, .slice ip il ic] 32)).alloc (.cells #[.int .i64 0, .string ⟨#[]⟩, .int .i64 0, .int .u64 0, .string ⟨#[]⟩, .int .i64 0, .int .i64 0, .int .i64 0, .int .i64 0, .int .i64 0, .int .i64 0] 178)).alloc (.cells #[.int .i64 r0, .int .i64 r1, .int .i64 r2, .int .i64 r3, .slice pp m c] 30) := ⟨_, rfl⟩
 have HK : Hid (∀ W, Below W3.heap.size W3 W → ((∀ j, W.cell? ⟨w.heap.size, j, none⟩ = (#[.int .i64 k, .string t, .int .i64 a, .int .u64 f, .string s, .int .i64 r0, .int .i64 r1, .int .i64 r2, .int .i64 r3, .slice pp m c, .slice ip il ic] : Array Value)[j]?) ∧ (∀ j, W.cell? ⟨w.heap.size + 1 + 1, j, none⟩ = (#[.int .i64 r0, .int .i64 r1, .int .i64 r2, .int .i64 r3, .slice pp m c] : Array Value)[j]?))) := fun W hW => by
  have h1 : ∀ j, W.cell? ⟨w.heap.size, j, none⟩ = (#[.int .i64 k, .string t, .int .i64 a, .int .u64 f, .string s, .int .i64 r0, .int .i64 r1, .int .i64 r2, .int .i64 r3, .slice pp m c, .slice ip il ic] : Array Value)[j]? := fun j => by rw [hW.cell (p := ⟨w.heap.size, j, none⟩) (by rw [hW3]; simp; omega), hW3]; exact cell3_0 _ _ _ _ _ _
  have h2 : ∀ j, W.cell? ⟨w.heap.size + 1 + 1, j, none⟩ = (#[.int .i64 r0, .int .i64 r1, .int .i64 r2, .int .i64 r3, .slice pp m c] : Array Value)[j]? := fun j => by rw [hW.cell (p := ⟨w.heap.size + 1 + 1, j, none⟩) (by rw [hW3]; simp), hW3]; exact row_at (heap3_2 _ _ _ _) _
  exact ⟨h1, h2⟩
 have hrow : Hid (W3.heap[w.heap.size + 1]? = some (.cells zerosH 178 (0, 0))) := by rw [hW3, Below.heap_alloc _ _ _ (by simp)]; exact heap2_1 _ _ _
 have hB3 : Below w.heap.size w W3 := by rw [hW3]; exact below3 _ _ _ _
 have hz3 : W3.heap.size = w.heap.size + 3 := by rw [hW3]; simp
 go_enter Tryz.func94, Tryz.ntmps94
 go_wp2_with fail
 rw [← hW3]
 clear hW3
 refine wp_region_noPanic ?_
 refine wp_region_held (S := fun W => (∀ j, W.cell? ⟨w.heap.size, j, none⟩ = (#[.int .i64 k, .string t, .int .i64 a, .int .u64 f, .string s, .int .i64 r0, .int .i64 r1, .int .i64 r2, .int .i64 r3, .slice pp m c, .slice ip il ic] : Array Value)[j]?) ∧ (∀ j, W.cell? ⟨w.heap.size + 1 + 1, j, none⟩ = (#[.int .i64 r0, .int .i64 r1, .int .i64 r2, .int .i64 r3, .slice pp m c] : Array Value)[j]?)) (by kernel_rfl) ?_
 obtain ⟨W4, hW4⟩ : ∃ W4, W4 = W3.drew := ⟨_, rfl⟩
 have e4 : ({ W3 with drawn := W3.drawn + 1 } : World) = W4 := hW4.symm
 rw [e4]
 have hB4 : Below W3.heap.size W3 W4 := by rw [hW4]; exact (Below.refl _ _).drew
 have hz4 : W4.heap.size = W3.heap.size := by rw [hW4]; rfl
 have hS := HK.out W4 hB4
 clear e4 hW4
 refine tk 0 (.agg #[.int .i64 k, .string t, .int .i64 a, .int .u64 f, .string s, .int .i64 r0, .int .i64 r1, .int .i64 r2, .int .i64 r3, .slice pp m c, .slice ip il ic]) rfl (.inl ⟨by rfl, ?r⟩) hS ?_
 case r => intro W hW; simp [go_sem, execOp, Act.eval, hW.1]
 simp only [sa, sb, Act.put, sd, se, sf]
 refine tq 2 (.pointer (some ⟨w.heap.size, 2, none⟩)) rfl hS ?_
 simp only [sa, sb, sc, Act.put, sd, se, sf]
 refine tk 3 (.int .i64 a) rfl (.inl ⟨by rfl, ?r⟩) hS ?_
 case r => intro W hW; simp [go_sem, execOp, Act.eval, hW.1]
 simp only [sa, sb, sc, Act.put, sd, se, sf]
 refine tq 4 (.pointer (some ⟨w.heap.size, 3, none⟩)) rfl hS ?_
 simp only [sa, sb, sc, Act.put, sd, se, sf]
 refine tk 5 (.int .u64 f) rfl (.inl ⟨by rfl, ?r⟩) hS ?_
 case r => intro W hW; simp [go_sem, execOp, Act.eval, hW.1]
 simp only [sa, sb, sc, Act.put, sd, se, sf]
 refine tq 6 (.pointer (some ⟨w.heap.size, 4, none⟩)) rfl hS ?_
 simp only [sa, sb, sc, Act.put, sd, se, sf]
 refine tk 7 (.string s) rfl (.inl ⟨by rfl, ?r⟩) hS ?_
 case r => intro W hW; simp [go_sem, execOp, Act.eval, hW.1]
 simp only [sa, sb, sc, Act.put, sd, se, sf]
 refine tq 8 (.pointer (some ⟨w.heap.size + 1 + 1, 0, none⟩)) rfl hS ?_
 simp only [sa, sb, sc, Act.put, sd, se, sf]
 refine tk 9 (.int .i64 r0) rfl (.inl ⟨by rfl, ?r⟩) hS ?_
 case r => intro W hW; simp [go_sem, execOp, Act.eval, hW.2]
 simp only [sa, sb, sc, Act.put, sd, se, sf]
 refine tq 10 (.pointer (some ⟨w.heap.size + 1 + 1, 1, none⟩)) rfl hS ?_
 simp only [sa, sb, sc, Act.put, sd, se, sf]
 refine tk 11 (.int .i64 r1) rfl (.inl ⟨by rfl, ?r⟩) hS ?_
 case r => intro W hW; simp [go_sem, execOp, Act.eval, hW.2]
 simp only [sa, sb, sc, Act.put, sd, se, sf]
 refine tq 12 (.pointer (some ⟨w.heap.size + 1 + 1, 2, none⟩)) rfl hS ?_
 simp only [sa, sb, sc, Act.put, sd, se, sf]
 refine tk 13 (.int .i64 r2) rfl (.inl ⟨by rfl, ?r⟩) hS ?_
 case r => intro W hW; simp [go_sem, execOp, Act.eval, hW.2]
 simp only [sa, sb, sc, Act.put, sd, se, sf]
 refine tq 14 (.pointer (some ⟨w.heap.size + 1 + 1, 3, none⟩)) rfl hS ?_
 simp only [sa, sb, sc, Act.put, sd, se, sf]
 refine tk 15 (.int .i64 r3) rfl (.inl ⟨by rfl, ?r⟩) hS ?_
 case r => intro W hW; simp [go_sem, execOp, Act.eval, hW.2]
 simp only [sa, sb, sc, Act.put, sd, se, sf]
 refine tq 16 (.pointer (some ⟨w.heap.size + 1 + 1, 4, none⟩)) rfl hS ?_
 simp only [sa, sb, sc, Act.put, sd, se, sf]
 refine tk 17 (.slice pp m c) rfl (.inl ⟨by rfl, ?r⟩) hS ?_
 case r => intro W hW; simp [go_sem, execOp, Act.eval, hW.2]
 simp only [sa, sb, sc, Act.put, sd, se, sf]
 refine tq 18 (.int .i64 m) rfl hS ?_
 simp only [sa, sb, sc, Act.put, sd, se, sf]
 refine tq 19 (.pointer (some ⟨w.heap.size, 10, none⟩)) rfl hS ?_
 simp only [sa, sb, sc, Act.put, sd, se, sf]
 refine tk 20 (.slice ip il ic) rfl (.inl ⟨by rfl, ?r⟩) hS ?_
 case r => intro W hW; simp [go_sem, execOp, Act.eval, hW.1]
 simp only [sa, sb, sc, Act.put, sd, se, sf]
 refine tq 21 (.int .i64 il) rfl hS ?_
 simp only [sa, sb, sc, Act.put, sd, se, sf]
 refine one 1 rfl (fun K hK => ?_)
 simp only [sa, sb, sc]
 go_simp
 refine (HT.out _).mono ?_
 rintro e w5 ⟨rfl, hb⟩
 have hb5 : Below W3.heap.size W3 w5 := hB4.trans (hb.mono (by omega))
 go_simp
 refine hK _ _ ⟨HK.out _ hb5, ?_⟩
 clear hK K
 refine one 22 rfl (fun K hK => ?_)
 simp only [sa, sb, sc]
 go_simp
 refine hK _ _ ⟨HK.out _ hb5, ?_⟩
 clear hK K
 refine one 23 rfl (fun K hK => ?_)
 simp only [sa, sb, sc]
 have hr3 := (hb5.block (w.heap.size + 1) (by omega)).trans hrow.out
 refine wp_store_row 178 _ _ rfl (w.heap.size + 1) _ rfl rfl 178 zerosH hr3 info79 rfl (by simp [Value.oneCell']) ?_
 refine hK _ _ ⟨⟨fun j => (srow (by omega)).trans ((HK.out _ hb5).1 j), fun j => (srow (by omega)).trans ((HK.out _ hb5).2 j)⟩, ?_⟩
 clear hK K
 refine dn ?_
 try simp only [Act.put]
 go_wp2_with fail
 refine bodyPost_ret (v := .agg #[.int .i64 k, .string t, .int .i64 a, .int .u64 f, .string s, .int .i64 r0, .int .i64 r1, .int .i64 r2, .int .i64 r3, .int .i64 m, .int .i64 il]) (by simp [results, Tryz.results94, go_sem, rowT hr3]) rfl ⟨rfl, ?_⟩
 exact brow (hB3.trans (hb5.mono (by omega))) (by omega) _
end Go.Proofs.YtdbijkgnddcneaaGreatDoor
namespace Go.Proofs.YtdbijkgnddcneaaGreatDoor
open Go.RowKit
set_option maxRecDepth 100000
set_option maxHeartbeats 4000000
attribute [local go_sem] refold2 cell3_0 cell3_1 b28_0 b28_01
def names8 : Array Value := #[.string ⟨#[]⟩, .string ⟨#[98, 111, 111, 108]⟩, .string ⟨#[105, 110, 116]⟩, .string ⟨#[102, 108, 111, 97, 116]⟩, .string ⟨#[116, 101, 120, 116]⟩, .string ⟨#[108, 105, 115, 116]⟩, .string ⟨#[109, 97, 112]⟩, .string ⟨#[102, 117, 110, 99]⟩]
structure NamesAt (w : World) : Prop where
 cells : ∀ j, w.cell? ⟨0, j, none⟩ = names8[j]?
 lt : 0 < w.heap.size
theorem NamesAt.kept {w W : World} (h : NamesAt w) (hb : Below w.heap.size w W) : NamesAt W := ⟨fun j => (hb.cell (p := ⟨0, j, none⟩) h.lt).trans (h.cells j), Nat.lt_of_lt_of_le h.lt hb.size⟩
theorem ix0 (w : World) : (Instr.index 227 (.agg #[.string ⟨#[]⟩, .string ⟨#[98, 111, 111, 108]⟩, .string ⟨#[105, 110, 116]⟩, .string ⟨#[102, 108, 111, 97, 116]⟩, .string ⟨#[116, 101, 120, 116]⟩, .string ⟨#[108, 105, 115, 116]⟩, .string ⟨#[109, 97, 112]⟩, .string ⟨#[102, 117, 110, 99]⟩]) (.int .i64 0)).run Tryz.prog w = .ok (.string ⟨#[]⟩) w := by kernel_rfl
theorem ix1 (w : World) : (Instr.index 227 (.agg #[.string ⟨#[]⟩, .string ⟨#[98, 111, 111, 108]⟩, .string ⟨#[105, 110, 116]⟩, .string ⟨#[102, 108, 111, 97, 116]⟩, .string ⟨#[116, 101, 120, 116]⟩, .string ⟨#[108, 105, 115, 116]⟩, .string ⟨#[109, 97, 112]⟩, .string ⟨#[102, 117, 110, 99]⟩]) (.int .i64 1)).run Tryz.prog w = .ok (.string ⟨#[98, 111, 111, 108]⟩) w := by kernel_rfl
theorem ix2 (w : World) : (Instr.index 227 (.agg #[.string ⟨#[]⟩, .string ⟨#[98, 111, 111, 108]⟩, .string ⟨#[105, 110, 116]⟩, .string ⟨#[102, 108, 111, 97, 116]⟩, .string ⟨#[116, 101, 120, 116]⟩, .string ⟨#[108, 105, 115, 116]⟩, .string ⟨#[109, 97, 112]⟩, .string ⟨#[102, 117, 110, 99]⟩]) (.int .i64 2)).run Tryz.prog w = .ok (.string ⟨#[105, 110, 116]⟩) w := by kernel_rfl
theorem ix3 (w : World) : (Instr.index 227 (.agg #[.string ⟨#[]⟩, .string ⟨#[98, 111, 111, 108]⟩, .string ⟨#[105, 110, 116]⟩, .string ⟨#[102, 108, 111, 97, 116]⟩, .string ⟨#[116, 101, 120, 116]⟩, .string ⟨#[108, 105, 115, 116]⟩, .string ⟨#[109, 97, 112]⟩, .string ⟨#[102, 117, 110, 99]⟩]) (.int .i64 3)).run Tryz.prog w = .ok (.string ⟨#[102, 108, 111, 97, 116]⟩) w := by kernel_rfl
theorem ix4 (w : World) : (Instr.index 227 (.agg #[.string ⟨#[]⟩, .string ⟨#[98, 111, 111, 108]⟩, .string ⟨#[105, 110, 116]⟩, .string ⟨#[102, 108, 111, 97, 116]⟩, .string ⟨#[116, 101, 120, 116]⟩, .string ⟨#[108, 105, 115, 116]⟩, .string ⟨#[109, 97, 112]⟩, .string ⟨#[102, 117, 110, 99]⟩]) (.int .i64 4)).run Tryz.prog w = .ok (.string ⟨#[116, 101, 120, 116]⟩) w := by kernel_rfl
theorem ix5 (w : World) : (Instr.index 227 (.agg #[.string ⟨#[]⟩, .string ⟨#[98, 111, 111, 108]⟩, .string ⟨#[105, 110, 116]⟩, .string ⟨#[102, 108, 111, 97, 116]⟩, .string ⟨#[116, 101, 120, 116]⟩, .string ⟨#[108, 105, 115, 116]⟩, .string ⟨#[109, 97, 112]⟩, .string ⟨#[102, 117, 110, 99]⟩]) (.int .i64 5)).run Tryz.prog w = .ok (.string ⟨#[108, 105, 115, 116]⟩) w := by kernel_rfl
theorem ix6 (w : World) : (Instr.index 227 (.agg #[.string ⟨#[]⟩, .string ⟨#[98, 111, 111, 108]⟩, .string ⟨#[105, 110, 116]⟩, .string ⟨#[102, 108, 111, 97, 116]⟩, .string ⟨#[116, 101, 120, 116]⟩, .string ⟨#[108, 105, 115, 116]⟩, .string ⟨#[109, 97, 112]⟩, .string ⟨#[102, 117, 110, 99]⟩]) (.int .i64 6)).run Tryz.prog w = .ok (.string ⟨#[109, 97, 112]⟩) w := by kernel_rfl
theorem ix7 (w : World) : (Instr.index 227 (.agg #[.string ⟨#[]⟩, .string ⟨#[98, 111, 111, 108]⟩, .string ⟨#[105, 110, 116]⟩, .string ⟨#[102, 108, 111, 97, 116]⟩, .string ⟨#[116, 101, 120, 116]⟩, .string ⟨#[108, 105, 115, 116]⟩, .string ⟨#[109, 97, 112]⟩, .string ⟨#[102, 117, 110, 99]⟩]) (.int .i64 7)).run Tryz.prog w = .ok (.string ⟨#[102, 117, 110, 99]⟩) w := by kernel_rfl
attribute [local go_sem] ix0 ix1 ix2 ix3 ix4 ix5 ix6 ix7
def takenB (t : ByteArray) : Bool := t.toList.isEmpty || t.toList == [98, 111, 111, 108] || t.toList == [105, 110, 116] || t.toList == [102, 108, 111, 97, 116] || t.toList == [116, 101, 120, 116] || t.toList == [108, 105, 115, 116] || t.toList == [109, 97, 112] || t.toList == [102, 117, 110, 99] || t.toList == [97, 110, 121] || t.toList == [110, 105, 108] || t.toList == [115, 116, 114, 117, 99, 116] || t.toList == [112, 111, 105, 110, 116, 101, 114]
theorem taken_any (t : ByteArray) (w : World) (hN : NamesAt w) : Calls Tryz.prog 180 #[.string t] w fun r w' => r = .returned (.bool (takenB t)) ∧ w' = w := by
 have n0 : w.cell? ⟨0, 0, none⟩ = some (.string ⟨#[]⟩) := hN.cells 0
 have n1 : w.cell? ⟨0, 1, none⟩ = some (.string ⟨#[98, 111, 111, 108]⟩) := hN.cells 1
 have n2 : w.cell? ⟨0, 2, none⟩ = some (.string ⟨#[105, 110, 116]⟩) := hN.cells 2
 have n3 : w.cell? ⟨0, 3, none⟩ = some (.string ⟨#[102, 108, 111, 97, 116]⟩) := hN.cells 3
 have n4 : w.cell? ⟨0, 4, none⟩ = some (.string ⟨#[116, 101, 120, 116]⟩) := hN.cells 4
 have n5 : w.cell? ⟨0, 5, none⟩ = some (.string ⟨#[108, 105, 115, 116]⟩) := hN.cells 5
 have n6 : w.cell? ⟨0, 6, none⟩ = some (.string ⟨#[109, 97, 112]⟩) := hN.cells 6
 have n7 : w.cell? ⟨0, 7, none⟩ = some (.string ⟨#[102, 117, 110, 99]⟩) := hN.cells 7
 clear hN
 go_enter Tryz.func180, Tryz.ntmps180
 go_wp2
 go_rounds 9
 all_goals (go_ret; refine ⟨?_, rfl⟩; simp_all [takenB])
def letterAt (t : ByteArray) (j : Nat) : Bool := isLetter ((t.data[j]?.getD 0).toNat : Int) || (j != 0 && isDigit ((t.data[j]?.getD 0).toNat : Int))
def lettersFrom (t : ByteArray) : Nat → Nat → Bool
 | _, 0 => true
 | j, n + 1 => letterAt t j && lettersFrom t (j + 1) n
def declB (t : ByteArray) : Bool := decide (t.size ≠ 0) && decide (t.size ≤ 40) && !takenB t && lettersFrom t 0 t.size
theorem declared_any (t : ByteArray) (w : World) (hN : NamesAt w) : Calls Tryz.prog 140 #[.string t] w fun r w' => r = .returned (.bool (declB t)) ∧ w' = w := by
 have HT : Hid (∀ W, NamesAt W → Calls Tryz.prog 180 #[.string t] W fun r w' => r = .returned (.bool (takenB t)) ∧ w' = W) := fun W h => taken_any t W h
 by_cases h0 : t.size = 0
 ·have hd : declB t = false := by unfold declB; simp [h0]
  rw [hd]
  obtain rfl : t = ⟨#[]⟩ := ByteArray.ext (Array.eq_empty_of_size_eq_zero h0)
  go_enter Tryz.func140, Tryz.ntmps140
  go_wp2
  go_ret
  exact ⟨rfl, rfl⟩
 ·have hne : ¬ t.toList = [] := fun e => h0 (by rw [Lib.size_eq]; rw [Lib.toList_data] at e; rw [e]; rfl)
  have hne' : t.toList.isEmpty = false := by simpa using hne
  by_cases h40 : t.size ≤ 40
  ·have h40' : (t.size : Int) ≤ 40 := by omega
   by_cases htk : takenB t = true
   ·have hd : declB t = false := by unfold declB; simp [htk]
    rw [hd]
    rw [htk] at HT
    go_enter Tryz.func140, Tryz.ntmps140
    go_wp2_with (go_at_call 180; refine (HT.out _ hN).mono ?_; rintro r w' ⟨rfl, rfl⟩)
    go_ret
    exact ⟨rfl, rfl⟩
   ·have htf : takenB t = false := by simpa using htk
    have hd : declB t = lettersFrom t 0 t.size := by unfold declB; simp [h0, h40, htf]
    rw [hd]
    rw [htf] at HT
    clear htk hd htf
    have HL : Hid (∀ (c : Int) (W : World), Calls Tryz.prog 181 #[.int .u8 c] W fun r w' => r = .returned (.bool (isLetter c)) ∧ w' = W) := letter_any
    have HD : Hid (∀ (c : Int) (W : World), Calls Tryz.prog 182 #[.int .u8 c] W fun r w' => r = .returned (.bool (isDigit c)) ∧ w' = W) := digit_any
    go_enter Tryz.func140, Tryz.ntmps140
    go_wp2_with (go_at_call 180; refine (HT.out _ hN).mono ?_; rintro r w' ⟨rfl, rfl⟩)
    go_loop [17] (fun i => ∃ j : Nat, j ≤ t.size ∧ i = .int .i64 j ∧ lettersFrom t 0 t.size = lettersFrom t j (t.size - j)) (fun i => t.size - (intOf i).toNat)
    case atStart => exact ⟨0, by omega, rfl, rfl⟩
    case round =>
     obtain ⟨j, hj, rfl, hlf⟩ := hrel
     by_cases hlt : j < t.size
     ·have i1 : (j : Int) < t.size := by omega
      have hstep : lettersFrom t j (t.size - j) = (letterAt t j && lettersFrom t (j + 1) (t.size - (j + 1))) := by
       rw [show t.size - j = (t.size - (j + 1)) + 1 by omega]; rfl
      have hb : letterAt t j = (isLetter (t[j].toNat : Int) || (j != 0 && isDigit (t[j].toNat : Int))) := by
       have e : t.data[j]?.getD 0 = t[j] := by rw [Array.getElem?_eq_getElem (by exact hlt)]; rfl
       unfold letterAt; rw [e]
      go_wp2_with (first | (go_at_call 181; refine (HL.out _ _).mono ?_; rintro r w' ⟨rfl, rfl⟩) | (go_at_call 182; refine (HD.out _ _).mono ?_; rintro r w' ⟨rfl, rfl⟩))
      all_goals first
       | (refine ⟨⟨j + 1, by omega, by go_num, ?_⟩, by simp [intOf]; omega⟩; rw [hlf, hstep, hb]; simp_all; done)
       | (go_ret; refine ⟨?_, rfl⟩; rw [hlf, hstep, hb]; simp_all; done)
     ·obtain rfl : j = t.size := by omega
      rw [hlf, Nat.sub_self]
      go_wp2
      go_ret
      exact ⟨rfl, rfl⟩
  ·have h40' : ¬ (t.size : Int) ≤ 40 := by omega
   have hd : declB t = false := by unfold declB; simp [h40]
   rw [hd]
   go_enter Tryz.func140, Tryz.ntmps140
   go_wp2
   go_ret
   exact ⟨rfl, rfl⟩
end Go.Proofs.YtdbijkgnddcneaaGreatDoor
namespace Go.Proofs.YtdbijkgnddcneaaGreatDoor
open Go.RowKit
set_option maxRecDepth 100000
set_option maxHeartbeats 1000000
attribute [local go_sem] refold2 cell3_0 cell3_1 b28_0 b28_01
theorem ownOf_nil (t : ByteArray) (a f : Int) (s : ByteArray) (r0 r1 r2 r3 : Int) (p i : Value) (w : World) :
  Calls Tryz.prog 95 #[D 0 t a f s r0 r1 r2 r3 p i] w fun r w' => r = .returned (dat 0 t 0 0 ⟨#[]⟩) ∧ Below w.heap.size w w' := by
 simp only [dat, D]
 go_enter Tryz.func95, Tryz.ntmps95
 go_wp2
 refine bodyPost_ret (v := dat 0 t 0 0 ⟨#[]⟩) (by simp [results, Tryz.results95, go_sem, dat, D]) rfl ⟨rfl, below3 _ _ _ _⟩
theorem ownOf_int (t : ByteArray) (a f : Int) (s : ByteArray) (r0 r1 r2 r3 : Int) (p i : Value) (w : World) :
  Calls Tryz.prog 95 #[D 2 t a f s r0 r1 r2 r3 p i] w fun r w' => r = .returned (dat 2 t a 0 ⟨#[]⟩) ∧ Below w.heap.size w w' := by
 simp only [dat, D]
 go_enter Tryz.func95, Tryz.ntmps95
 go_wp2
 refine bodyPost_ret (v := dat 2 t a 0 ⟨#[]⟩) (by simp [results, Tryz.results95, go_sem, dat, D]) rfl ⟨rfl, below3 _ _ _ _⟩
theorem ownOf_list (t : ByteArray) (a f : Int) (s : ByteArray) (r0 r1 r2 r3 : Int) (pp : Option Addr) (m c : Nat) (i : Value) (w : World) :
  Calls Tryz.prog 95 #[D 5 t a f s r0 r1 r2 r3 (.slice pp m c) i] w fun r w' => r = .returned (D 5 t 0 0 ⟨#[]⟩ r0 r1 r2 r3 (.slice none 0 0) (.slice none 0 0)) ∧ Below w.heap.size w w' := by
 simp only [D]
 go_enter Tryz.func95, Tryz.ntmps95
 go_wp2
 refine bodyPost_ret (v := D 5 t 0 0 ⟨#[]⟩ r0 r1 r2 r3 (.slice none 0 0) (.slice none 0 0)) (by simp [results, Tryz.results95, go_sem, D]) rfl ⟨rfl, below3 _ _ _ _⟩
theorem ownOf_map (t : ByteArray) (a f : Int) (s : ByteArray) (r0 r1 r2 r3 : Int) (p i : Value) (w : World) :
  Calls Tryz.prog 95 #[D 6 t a f s r0 r1 r2 r3 p i] w fun r w' => r = .returned (D 6 t 0 0 ⟨#[]⟩ r0 0 0 0 (.slice none 0 0) (.slice none 0 0)) ∧ Below w.heap.size w w' := by
 simp only [D]
 go_enter Tryz.func95, Tryz.ntmps95
 go_wp2
 refine bodyPost_ret (v := D 6 t 0 0 ⟨#[]⟩ r0 0 0 0 (.slice none 0 0) (.slice none 0 0)) (by simp [results, Tryz.results95, go_sem, D]) rfl ⟨rfl, below3 _ _ _ _⟩
theorem ownOf_func (t : ByteArray) (a f : Int) (s : ByteArray) (r0 r1 r2 r3 : Int) (p i : Value) (w : World) :
  Calls Tryz.prog 95 #[D 7 t a f s r0 r1 r2 r3 p i] w fun r w' => r = .returned (D 7 t 0 0 ⟨#[]⟩ r0 0 0 0 (.slice none 0 0) (.slice none 0 0)) ∧ Below w.heap.size w w' := by
 simp only [D]
 go_enter Tryz.func95, Tryz.ntmps95
 go_wp2
 refine bodyPost_ret (v := D 7 t 0 0 ⟨#[]⟩ r0 0 0 0 (.slice none 0 0) (.slice none 0 0)) (by simp [results, Tryz.results95, go_sem, D]) rfl ⟨rfl, below3 _ _ _ _⟩
theorem ownOf_ptr (t : ByteArray) (a f : Int) (s : ByteArray) (r0 r1 r2 r3 : Int) (pp : Option Addr) (m c : Nat) (i : Value) (w : World) :
  Calls Tryz.prog 95 #[D 9 t a f s r0 r1 r2 r3 (.slice pp m c) i] w fun r w' => r = .returned (D 9 t 0 0 ⟨#[]⟩ r0 0 0 0 (.slice pp m c) (.slice none 0 0)) ∧ Below w.heap.size w w' := by
 simp only [D]
 go_enter Tryz.func95, Tryz.ntmps95
 go_wp2
 go_region
 go_wp2
 refine bodyPost_ret (v := D 9 t 0 0 ⟨#[]⟩ r0 0 0 0 (.slice pp m c) (.slice none 0 0)) (by simp [results, Tryz.results95, go_sem, D]) rfl ⟨rfl, (below3 _ _ _ _).drew⟩
end Go.Proofs.YtdbijkgnddcneaaGreatDoor
