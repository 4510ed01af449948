/-
  .
  .
  .
  .
  .
  .
  .
  .
  .
  .
  .
  .
  .
  .
  .
-/
import Derived.Test.YtdbijkgnddcneaaGreatDoorZbJ
import Derived.Test.YtdbijkgnddcneaaGreatDoorMiJ
import Derived.Test.YtdbijkgnddcneaaGreatDoorMuJ
import Derived.Test.YtdbijkgnddcneaaGreatDoorXuJ
import Derived.Test.YtdbijkgnddcneaaGreatDoorXjJ
import Derived.Test.YtdbijkgnddcneaaGreatDoorXk
import Derived.Test.YtdbijkgnddcneaaGreatDoorXmJ
import Derived.Laws.CopyRow
import Derived.Test.YtdbijkgnddcneaaGreatDoorSq
import Derived.LoopN
namespace Go.Proofs.YtdbijkgnddcneaaGreatDoor
open Go.RowKit Go.ChangeMaps
def pairD (g : Nat) (x y : Int) : MD := ⟨⟨8, ⟨#[83]⟩, 0, 0, ⟨#[]⟩, 0, 0, 0, 0, none, [], 0⟩, some ⟨g, 0, none⟩, 2, [wholeD x, wholeD y]⟩
theorem pairD_fine (g : Nat) (x y : Int) : MD.Fine (pairD g x y).h := by
 refine ⟨?_, ?_, ?_, ?_, ?_, ?_, ?_, ?_, ?_, ?_, ?_, ?_, ?_, ?_, ?_, ?_, ?_, ?_⟩ <;> simp [pairD, maxLen, ByteArray.size]
theorem pairD_in {g : Nat} {x y : Int} {w : World} (hx : FlatR (wholeD x)) (hy : FlatR (wholeD y)) (hg : w.heap[g]? = some (.cells #[.int .i64 2, .string ⟨#[105, 110, 116]⟩, .int .i64 x, .int .u64 0, .string ⟨#[]⟩, .int .i64 0, .int .i64 0, .int .i64 0, .int .i64 0, .slice none 0 0, .slice none 0 0, .int .i64 2, .string ⟨#[105, 110, 116]⟩, .int .i64 y, .int .u64 0, .string ⟨#[]⟩, .int .i64 0, .int .i64 0, .int .i64 0, .int .i64 0, .slice none 0 0, .slice none 0 0] 32 (0, 0))) : MD.In w.heap.size w 5 (pairD g x y) := by
 have hc := (cells_of hg).1
 refine ⟨pairD_fine g x y, ⟨fun z hz => (by cases hz), .inl rfl⟩, Nat.le_refl _, by simp [pairD, maxLen], .inr ⟨g, 0, rfl, hblk hg, fun i hi => ?_⟩⟩
 have hi2 : i = 0 ∨ i = 1 := by have : i < 2 := hi; omega
 rcases hi2 with rfl | rfl
 ·refine ⟨fun j hj => ?_, hx.inn _ _⟩
  rw [hc]
  have : j = 0 ∨ j = 1 ∨ j = 2 ∨ j = 3 ∨ j = 4 ∨ j = 5 ∨ j = 6 ∨ j = 7 ∨ j = 8 ∨ j = 9 ∨ j = 10 := by omega
  rcases this with rfl | rfl | rfl | rfl | rfl | rfl | rfl | rfl | rfl | rfl | rfl <;> rfl
 ·refine ⟨fun j hj => ?_, hy.inn _ _⟩
  rw [hc]
  have : j = 0 ∨ j = 1 ∨ j = 2 ∨ j = 3 ∨ j = 4 ∨ j = 5 ∨ j = 6 ∨ j = 7 ∨ j = 8 ∨ j = 9 ∨ j = 10 := by omega
  rcases this with rfl | rfl | rfl | rfl | rfl | rfl | rfl | rfl | rfl | rfl | rfl <;> rfl
theorem full_of {n : Nat} {d : MD} (h : MD.right n d = true) : MD.full n d = true := by
 unfold MD.right at h
 exact (Bool.and_eq_true _ _ ▸ h).1
theorem pairD_full {g : Nat} {x y : Int} (hx : FlatR (wholeD x)) (hy : FlatR (wholeD y)) : MD.full 5 (pairD g x y) = true := by
 have h1 := full_of hx.right
 have h2 := full_of hy.right
 show (headOK (pairD g x y).h 2 && ((pairD g x y).h.k != 8 || (decide (2 ≤ 30) && [wholeD x, wholeD y].all (MD.full 4)))) = true
 have h3 : headOK (pairD g x y).h 2 = true := (by decide +kernel : headOK ⟨8, ⟨#[83]⟩, 0, 0, ⟨#[]⟩, 0, 0, 0, 0, none, [], 0⟩ 2 = true)
 simp [h3, h1, h2]
theorem pairD_right {g : Nat} {x y : Int} (hx : FlatR (wholeD x)) (hy : FlatR (wholeD y)) : MD.right 5 (pairD g x y) = true := by
 unfold MD.right
 rw [pairD_full hx hy]
 rfl
theorem all2_comm {α : Type} {f : α → α → Bool} (hf : ∀ a b, f a b = true → f b a = true) : ∀ (l m : List α), all2 f l m = true → all2 f m l = true
 | [], [], _ => rfl
 | [], _ :: _, _ => rfl
 | _ :: _, [], _ => rfl
 | a :: l, b :: m, h => by
  unfold all2 at h ⊢
  rw [Bool.and_eq_true] at h ⊢
  exact ⟨hf _ _ h.1, all2_comm hf l m h.2⟩
theorem same_comm : ∀ (n : Nat) (a b : MD), MD.same n a b = true → MD.same n b a = true
 | 0, _, _, _ => rfl
 | n + 1, a, b, h => by
  unfold MD.same at h ⊢
  rw [Bool.and_eq_true, Bool.and_eq_true] at h ⊢
  refine ⟨⟨?_, ?_⟩, all2_comm (same_comm n) _ _ h.2⟩
  ·have h1 := h.1.1
   unfold sameH at h1 ⊢
   rw [decide_eq_true_eq] at h1 ⊢
   obtain ⟨a1, a2, a3, a4, a5, a6, a7, a8, a9, a10, a11⟩ := h1
   exact ⟨a1.symm, a2.symm, a3.symm, a4.symm, a5.symm, a6.symm, a7.symm, a8.symm, a9.symm, a10.symm, a11.symm⟩
  ·have h1 := h.1.2
   rw [decide_eq_true_eq] at h1 ⊢
   exact h1.symm
theorem pair_same (g g' : Nat) (x y : Int) : MD.same 5 (pairD g x y) (pairD g' x y) = true := by
 show (sameH (pairD g x y).h (pairD g x y).h 2 2 && decide (([] : List Int) = []) && all2 (MD.same 4) [wholeD x, wholeD y] [wholeD x, wholeD y]) = true
 simp [sameH_self, same_self, all2]
theorem Read_whole (hb M : Nat) (vs : List Value) (m ab : Nat) (hm : vs[m]? = some (.iface 84 (.pointer (some ⟨ab, 0, none⟩)))) (hF : FlatR (leadD 9 ⟨#[83]⟩ ((m : Int) + 1) 0 0 0)) (g : Nat) (x y : Int) (hx : FlatR (wholeD x)) (hy : FlatR (wholeD y)) (d : MD) (hd : MD.same 5 (pairD g x y) d = true) (w : World) (hN : NamesAt w) (h : HeapAt w hb M vs) (ha : w.heap[ab]? = some (.cells d.cells 86)) (hin : MD.In w.heap.size w 5 d) :
  Calls Tryz.prog 17 #[.pointer (some ⟨hb, 0, none⟩), .agg #[.int .i64 9, .string ⟨#[83]⟩, .int .i64 0, .int .u64 0, .string ⟨#[]⟩, .int .i64 ((m : Int) + 1), .int .i64 0, .int .i64 0, .int .i64 0, .slice none 0 0, .slice none 0 0]] w fun r w' => ∃ d' : MD, r = .returned (.tuple #[d'.val, .nilIface]) ∧ MD.In w'.heap.size w' 5 d' ∧ MD.Above w.heap.size 5 d' ∧ MD.same 5 (pairD g x y) d' = true ∧ Below w.heap.size w w' := by
 obtain ⟨⟨k, t, a, f, s, r0, r1, r2, r3, qp, qpath, qc⟩, ip, ic, items⟩ := d
 have ht : t = ⟨#[83]⟩ := (same_parts hd).2.1
 subst ht
 have hfull : MD.full 5 ⟨⟨k, ⟨#[83]⟩, a, f, s, r0, r1, r2, r3, qp, qpath, qc⟩, ip, ic, items⟩ = true := (same_full 5 _ _ hd) ▸ pairD_full hx hy
 have HR0 : ∀ W, Below w.heap.size w W → Calls Tryz.prog 39 #[.agg #[.int .i64 9, .string ⟨#[83]⟩, .int .i64 0, .int .u64 0, .string ⟨#[]⟩, .int .i64 ((m : Int) + 1), .int .i64 0, .int .i64 0, .int .i64 0, .slice none 0 0, .slice none 0 0]] W fun r w' => r = .returned (.bool true) ∧ Below W.heap.size W w' := fun W hW => by
  have := Right_any 4 (leadD 9 ⟨#[83]⟩ ((m : Int) + 1) 0 0 0) W (hN.kept hW) (hF.inn _ _)
  rw [hF.right] at this
  exact this
 have hp := fun W => partOf_none k ⟨#[83]⟩ a f s r0 r1 r2 r3 qp qpath.length qc ip items.length ic W
 have HF0 := fun W (hW : Below w.heap.size w W) => fits_ptr hb M vs m ab hm ⟨#[83]⟩ none 0 0 _ _ _ _ _ _ _ _ _ _ _ k a f s r0 r1 r2 r3 qp qpath.length qc ip items.length ic W (h.below hW) ((hW.block _ (hblk ha)).trans ha) (fun V hV => HR0 V (hW.trans (hV.mono hW.size))) (fun V _ => hp V)
 have HO0 := fun W (hW : Below w.heap.size w W) => object_ptr hb M vs m ab hm ⟨#[83]⟩ none 0 0 W (h.below hW) (fun V hV => HF0 V (hW.trans (hV.mono hW.size)))
 refine (Read_ptr hb M vs m ab ⟨#[83]⟩ none 0 0 _ _ _ _ _ _ _ _ _ _ _ k a f s r0 r1 r2 r3 qp qpath qc ip ic items 5 w h ha HO0 (fun V _ => hp V) hin hfull).mono ?_
 rintro r w' ⟨d', h1, h2, h3, h4, h5⟩
 exact ⟨d', h1, h2, h3, same_trans 5 _ _ _ hd h4, h5⟩
end Go.Proofs.YtdbijkgnddcneaaGreatDoor
namespace Go.Proofs.YtdbijkgnddcneaaGreatDoor
open Go.RowKit Go.ChangeMaps
theorem lead_fine (k : Int) (t : ByteArray) (o f l c : Int) (hk : 0 ≤ k ∧ k ≤ 9) (ht : t.size ≤ 60000) (ho : 0 ≤ o ∧ o ≤ 1000000) (hf : 0 ≤ f ∧ f ≤ 1000000) (hl : 0 ≤ l ∧ l ≤ 1000000) (hc : 0 ≤ c ∧ c ≤ 1000000) : MD.Fine (leadD k t o f l c).h := by
 refine ⟨?_, ?_, ?_, ?_, ?_, ?_, ?_, ?_, ?_, ?_, ?_, ?_, ?_, ?_, ?_, ?_, ?_, ?_⟩ <;> simp only [leadD, maxLen, List.length_nil] <;> first | omega | (show (0 : Nat) ≤ _; omega)
theorem lead_S (m : Nat) (hm : m = 0) : FlatR (leadD 9 ⟨#[83]⟩ ((m : Int) + 1) 0 0 0) := by
 subst hm
 exact ⟨⟨9, ⟨#[83]⟩, 0, _, 0, 0, 0, rfl, by decide⟩, lead_fine _ _ _ _ _ _ (by decide) (by decide) (by decide) (by decide) (by decide) (by decide), by decide +kernel⟩
theorem lead_list1 (m : Nat) (hm : m = 1) : FlatR (leadD 5 ⟨#[108, 105, 115, 116]⟩ ((m : Int) + 1) 0 1 1) := by
 subst hm
 exact ⟨⟨5, ⟨#[108, 105, 115, 116]⟩, 0, _, 0, 1, 1, rfl, by decide⟩, lead_fine _ _ _ _ _ _ (by decide) (by decide) (by decide) (by decide) (by decide) (by decide), by decide +kernel⟩
theorem lead_map (m : Nat) (hm : m = 2) : FlatR (leadD 6 ⟨#[109, 97, 112]⟩ ((m : Int) + 1) 0 0 0) := by
 subst hm
 exact ⟨⟨6, ⟨#[109, 97, 112]⟩, 0, _, 0, 0, 0, rfl, by decide⟩, lead_fine _ _ _ _ _ _ (by decide) (by decide) (by decide) (by decide) (by decide) (by decide), by decide +kernel⟩
theorem lead_func (m : Nat) (hm : m = 4) : FlatR (leadD 7 ⟨#[102, 117, 110, 99]⟩ ((m : Int) + 1) 0 0 0) := by
 subst hm
 exact ⟨⟨7, ⟨#[102, 117, 110, 99]⟩, 0, _, 0, 0, 0, rfl, by decide⟩, lead_fine _ _ _ _ _ _ (by decide) (by decide) (by decide) (by decide) (by decide) (by decide), by decide +kernel⟩
theorem whole_small (z : Int) (h : -1000000 ≤ z ∧ z ≤ 1000000) : FlatR (wholeD z) := FlatR.whole z (by omega) (by omega)
theorem show5 : (ByteArray.mk ([91] ++ Lib.decDigits 5 ++ [93] : List UInt8).toArray) = ByteArray.mk #[91, 53, 93] := by
 have h : ([91] ++ Lib.decDigits 5 ++ [93] : List UInt8) = [91, 53, 93] := by decide +kernel
 rw [h]
end Go.Proofs.YtdbijkgnddcneaaGreatDoor
namespace Go.Proofs.YtdbijkgnddcneaaGreatDoor
open Go.RowKit Go.ChangeMaps
set_option maxRecDepth 1000000
set_option maxHeartbeats 4000000
def pickN (c n : Int) : Int := if c < 0 then -((c + 1).tmod n) else c % n
theorem pickN_lt (c n : Int) (hn : 0 < n) : 0 ≤ pickN c n ∧ pickN c n < n := by
 unfold pickN
 split
 ·rw [← Int.neg_tmod]
  exact ⟨Int.tmod_nonneg _ (by omega), Int.tmod_lt_of_pos _ hn⟩
 ·exact ⟨Int.emod_nonneg _ (by omega), Int.emod_lt_of_pos _ hn⟩
theorem pick_any (c n : Int) (h0 : -9223372036854775808 ≤ c) (h1 : c ≤ 9223372036854775807) (hn : 0 < n) (hn2 : n ≤ 100) (w : World) : Calls Tryz.prog 7 #[.int .i64 c, .int .i64 n] w fun r w' => r = .returned (.int .i64 (pickN c n)) ∧ w' = w := by
 have hp := pickN_lt c n hn
 by_cases hc : c < 0
 ·have e : pickN c n = -((c + 1).tmod n) := by unfold pickN; rw [if_pos hc]
  rw [e] at hp ⊢
  clear e
  go_enter Tryz.func7, Tryz.ntmps7
  go_wp2
  go_ret
  exact ⟨rfl, rfl⟩
 ·have e : pickN c n = c % n := by unfold pickN; rw [if_neg hc]
  rw [e] at hp ⊢
  clear e
  go_enter Tryz.func7, Tryz.ntmps7
  go_wp2
  go_ret
  exact ⟨rfl, rfl⟩
def F1 (s0 s1 s2 s3 s4 s12 s13 s14 s15 s16 : Value) (u : Nat → Value) : Act := ⟨#[s0, s1, s2, s3, s4, u 5, u 6, u 7, u 8, u 9, .bool false, u 11, s12, s13, s14, s15, s16, u 17, u 18, u 19, u 20, u 21, u 22, u 23, u 24, u 25, u 26, u 27, u 28, u 29, u 30, u 31, u 32, u 33, u 34, u 35, u 36, u 37, u 38, u 39, u 40, u 41, u 42, u 43, u 44, u 45, u 46, u 47, u 48, u 49, u 50, u 51, u 52, u 53, u 54, u 55, u 56, u 57, u 58, u 59, u 60, u 61, u 62, u 63, u 64, u 65, u 66, u 67, u 68, u 69, u 70, u 71, u 72, u 73, u 74, u 75, u 76, u 77, u 78, u 79, u 80, u 81, u 82, u 83, u 84, u 85, u 86, u 87, u 88, u 89, u 90, u 91, u 92, u 93, u 94, u 95, u 96, u 97, u 98, u 99, u 100, u 101, u 102, u 103, u 104, u 105, u 106, u 107, u 108, u 109, u 110, u 111, u 112, u 113, u 114, u 115, u 116, u 117, u 118, u 119, u 120, u 121, u 122, u 123, u 124, u 125, u 126, u 127, u 128, u 129, u 130, u 131, u 132, u 133, u 134, u 135, u 136, u 137, u 138, u 139, u 140, u 141, u 142, u 143, u 144, u 145, u 146, u 147, u 148, u 149, u 150, u 151, u 152, u 153, u 154, u 155, u 156, u 157, u 158, u 159, u 160, u 161, u 162, u 163, u 164, u 165, u 166, u 167, u 168, u 169, u 170, u 171, u 172, u 173, u 174, u 175, u 176, u 177, u 178, u 179, u 180, u 181, u 182, u 183, u 184, u 185, u 186, u 187, u 188, u 189, u 190, u 191, u 192, u 193, u 194, u 195, u 196, u 197, u 198, u 199, u 200, u 201, u 202, u 203, u 204, u 205, u 206, u 207, u 208, u 209, u 210, u 211, u 212, u 213, u 214, u 215, u 216, u 217, u 218, u 219, u 220, u 221, u 222, u 223, u 224, u 225, u 226, u 227, u 228, u 229, u 230, u 231, u 232, u 233, u 234, u 235, u 236, u 237, u 238, u 239, u 240, u 241, u 242, u 243, u 244, u 245, u 246, u 247, u 248, u 249, u 250, u 251, u 252, u 253, u 254, u 255, u 256, u 257, u 258, u 259, u 260, u 261, u 262, u 263, u 264, u 265, u 266, u 267, u 268, u 269, u 270, u 271, u 272, u 273, u 274, u 275, u 276, u 277, u 278, u 279, u 280, u 281, u 282, u 283, u 284, u 285, u 286, u 287, u 288, u 289, u 290, u 291, u 292, u 293, u 294, u 295, u 296, u 297, u 298, u 299, u 300, u 301, u 302, u 303, u 304, u 305, u 306, u 307, u 308, u 309, u 310, u 311, u 312, u 313, u 314, u 315, u 316, u 317, u 318, u 319, u 320, u 321, u 322, u 323, u 324, u 325, u 326, u 327, u 328, u 329, u 330, u 331, u 332, u 333, u 334, u 335, u 336, u 337, u 338, u 339, u 340, u 341, u 342, u 343, u 344, u 345, u 346, u 347, u 348, u 349, u 350, u 351, u 352, u 353, u 354], []⟩
def F2 (s0 s1 s2 s3 s4 s12 s13 s15 s17 s19 s21 s22 s23 s29 s30 : Value) (u : Nat → Value) : Act := ⟨#[s0, s1, s2, s3, s4, u 5, u 6, u 7, u 8, u 9, .bool false, u 11, s12, s13, u 14, s15, u 16, s17, u 18, s19, u 20, s21, s22, s23, u 24, u 25, u 26, u 27, u 28, s29, s30, u 31, u 32, u 33, u 34, u 35, u 36, u 37, u 38, u 39, u 40, u 41, u 42, u 43, u 44, u 45, u 46, u 47, u 48, u 49, u 50, u 51, u 52, u 53, u 54, u 55, u 56, u 57, u 58, u 59, u 60, u 61, u 62, u 63, u 64, u 65, u 66, u 67, u 68, u 69, u 70, u 71, u 72, u 73, u 74, u 75, u 76, u 77, u 78, u 79, u 80, u 81, u 82, u 83, u 84, u 85, u 86, u 87, u 88, u 89, u 90, u 91, u 92, u 93, u 94, u 95, u 96, u 97, u 98, u 99, u 100, u 101, u 102, u 103, u 104, u 105, u 106, u 107, u 108, u 109, u 110, u 111, u 112, u 113, u 114, u 115, u 116, u 117, u 118, u 119, u 120, u 121, u 122, u 123, u 124, u 125, u 126, u 127, u 128, u 129, u 130, u 131, u 132, u 133, u 134, u 135, u 136, u 137, u 138, u 139, u 140, u 141, u 142, u 143, u 144, u 145, u 146, u 147, u 148, u 149, u 150, u 151, u 152, u 153, u 154, u 155, u 156, u 157, u 158, u 159, u 160, u 161, u 162, u 163, u 164, u 165, u 166, u 167, u 168, u 169, u 170, u 171, u 172, u 173, u 174, u 175, u 176, u 177, u 178, u 179, u 180, u 181, u 182, u 183, u 184, u 185, u 186, u 187, u 188, u 189, u 190, u 191, u 192, u 193, u 194, u 195, u 196, u 197, u 198, u 199, u 200, u 201, u 202, u 203, u 204, u 205, u 206, u 207, u 208, u 209, u 210, u 211, u 212, u 213, u 214, u 215, u 216, u 217, u 218, u 219, u 220, u 221, u 222, u 223, u 224, u 225, u 226, u 227, u 228, u 229, u 230, u 231, u 232, u 233, u 234, u 235, u 236, u 237, u 238, u 239, u 240, u 241, u 242, u 243, u 244, u 245, u 246, u 247, u 248, u 249, u 250, u 251, u 252, u 253, u 254, u 255, u 256, u 257, u 258, u 259, u 260, u 261, u 262, u 263, u 264, u 265, u 266, u 267, u 268, u 269, u 270, u 271, u 272, u 273, u 274, u 275, u 276, u 277, u 278, u 279, u 280, u 281, u 282, u 283, u 284, u 285, u 286, u 287, u 288, u 289, u 290, u 291, u 292, u 293, u 294, u 295, u 296, u 297, u 298, u 299, u 300, u 301, u 302, u 303, u 304, u 305, u 306, u 307, u 308, u 309, u 310, u 311, u 312, u 313, u 314, u 315, u 316, u 317, u 318, u 319, u 320, u 321, u 322, u 323, u 324, u 325, u 326, u 327, u 328, u 329, u 330, u 331, u 332, u 333, u 334, u 335, u 336, u 337, u 338, u 339, u 340, u 341, u 342, u 343, u 344, u 345, u 346, u 347, u 348, u 349, u 350, u 351, u 352, u 353, u 354], []⟩
def F5 (s13 s15 s17 s19 s21 s22 s29 s31 s33 s35 s37 s39 s40 s42 : Value) (u : Nat → Value) : Act := ⟨#[u 0, u 1, u 2, u 3, u 4, u 5, u 6, u 7, u 8, u 9, .bool false, u 11, u 12, s13, u 14, s15, u 16, s17, u 18, s19, u 20, s21, s22, u 23, u 24, u 25, u 26, u 27, u 28, s29, u 30, s31, u 32, s33, u 34, s35, u 36, s37, u 38, s39, s40, u 41, s42, u 43, u 44, u 45, u 46, u 47, u 48, u 49, u 50, u 51, u 52, u 53, u 54, u 55, u 56, u 57, u 58, u 59, u 60, u 61, u 62, u 63, u 64, u 65, u 66, u 67, u 68, u 69, u 70, u 71, u 72, u 73, u 74, u 75, u 76, u 77, u 78, u 79, u 80, u 81, u 82, u 83, u 84, u 85, u 86, u 87, u 88, u 89, u 90, u 91, u 92, u 93, u 94, u 95, u 96, u 97, u 98, u 99, u 100, u 101, u 102, u 103, u 104, u 105, u 106, u 107, u 108, u 109, u 110, u 111, u 112, u 113, u 114, u 115, u 116, u 117, u 118, u 119, u 120, u 121, u 122, u 123, u 124, u 125, u 126, u 127, u 128, u 129, u 130, u 131, u 132, u 133, u 134, u 135, u 136, u 137, u 138, u 139, u 140, u 141, u 142, u 143, u 144, u 145, u 146, u 147, u 148, u 149, u 150, u 151, u 152, u 153, u 154, u 155, u 156, u 157, u 158, u 159, u 160, u 161, u 162, u 163, u 164, u 165, u 166, u 167, u 168, u 169, u 170, u 171, u 172, u 173, u 174, u 175, u 176, u 177, u 178, u 179, u 180, u 181, u 182, u 183, u 184, u 185, u 186, u 187, u 188, u 189, u 190, u 191, u 192, u 193, u 194, u 195, u 196, u 197, u 198, u 199, u 200, u 201, u 202, u 203, u 204, u 205, u 206, u 207, u 208, u 209, u 210, u 211, u 212, u 213, u 214, u 215, u 216, u 217, u 218, u 219, u 220, u 221, u 222, u 223, u 224, u 225, u 226, u 227, u 228, u 229, u 230, u 231, u 232, u 233, u 234, u 235, u 236, u 237, u 238, u 239, u 240, u 241, u 242, u 243, u 244, u 245, u 246, u 247, u 248, u 249, u 250, u 251, u 252, u 253, u 254, u 255, u 256, u 257, u 258, u 259, u 260, u 261, u 262, u 263, u 264, u 265, u 266, u 267, u 268, u 269, u 270, u 271, u 272, u 273, u 274, u 275, u 276, u 277, u 278, u 279, u 280, u 281, u 282, u 283, u 284, u 285, u 286, u 287, u 288, u 289, u 290, u 291, u 292, u 293, u 294, u 295, u 296, u 297, u 298, u 299, u 300, u 301, u 302, u 303, u 304, u 305, u 306, u 307, u 308, u 309, u 310, u 311, u 312, u 313, u 314, u 315, u 316, u 317, u 318, u 319, u 320, u 321, u 322, u 323, u 324, u 325, u 326, u 327, u 328, u 329, u 330, u 331, u 332, u 333, u 334, u 335, u 336, u 337, u 338, u 339, u 340, u 341, u 342, u 343, u 344, u 345, u 346, u 347, u 348, u 349, u 350, u 351, u 352, u 353, u 354], []⟩
def F6 (s12 s13 s15 s17 s19 s21 s22 s29 s31 s32 : Value) (u : Nat → Value) : Act := ⟨#[u 0, u 1, u 2, u 3, u 4, u 5, u 6, u 7, u 8, u 9, .bool false, u 11, s12, s13, u 14, s15, u 16, s17, u 18, s19, u 20, s21, s22, u 23, u 24, u 25, u 26, u 27, u 28, s29, u 30, s31, s32, u 33, u 34, u 35, u 36, u 37, u 38, u 39, u 40, u 41, u 42, u 43, u 44, u 45, u 46, u 47, u 48, u 49, u 50, u 51, u 52, u 53, u 54, u 55, u 56, u 57, u 58, u 59, u 60, u 61, u 62, u 63, u 64, u 65, u 66, u 67, u 68, u 69, u 70, u 71, u 72, u 73, u 74, u 75, u 76, u 77, u 78, u 79, u 80, u 81, u 82, u 83, u 84, u 85, u 86, u 87, u 88, u 89, u 90, u 91, u 92, u 93, u 94, u 95, u 96, u 97, u 98, u 99, u 100, u 101, u 102, u 103, u 104, u 105, u 106, u 107, u 108, u 109, u 110, u 111, u 112, u 113, u 114, u 115, u 116, u 117, u 118, u 119, u 120, u 121, u 122, u 123, u 124, u 125, u 126, u 127, u 128, u 129, u 130, u 131, u 132, u 133, u 134, u 135, u 136, u 137, u 138, u 139, u 140, u 141, u 142, u 143, u 144, u 145, u 146, u 147, u 148, u 149, u 150, u 151, u 152, u 153, u 154, u 155, u 156, u 157, u 158, u 159, u 160, u 161, u 162, u 163, u 164, u 165, u 166, u 167, u 168, u 169, u 170, u 171, u 172, u 173, u 174, u 175, u 176, u 177, u 178, u 179, u 180, u 181, u 182, u 183, u 184, u 185, u 186, u 187, u 188, u 189, u 190, u 191, u 192, u 193, u 194, u 195, u 196, u 197, u 198, u 199, u 200, u 201, u 202, u 203, u 204, u 205, u 206, u 207, u 208, u 209, u 210, u 211, u 212, u 213, u 214, u 215, u 216, u 217, u 218, u 219, u 220, u 221, u 222, u 223, u 224, u 225, u 226, u 227, u 228, u 229, u 230, u 231, u 232, u 233, u 234, u 235, u 236, u 237, u 238, u 239, u 240, u 241, u 242, u 243, u 244, u 245, u 246, u 247, u 248, u 249, u 250, u 251, u 252, u 253, u 254, u 255, u 256, u 257, u 258, u 259, u 260, u 261, u 262, u 263, u 264, u 265, u 266, u 267, u 268, u 269, u 270, u 271, u 272, u 273, u 274, u 275, u 276, u 277, u 278, u 279, u 280, u 281, u 282, u 283, u 284, u 285, u 286, u 287, u 288, u 289, u 290, u 291, u 292, u 293, u 294, u 295, u 296, u 297, u 298, u 299, u 300, u 301, u 302, u 303, u 304, u 305, u 306, u 307, u 308, u 309, u 310, u 311, u 312, u 313, u 314, u 315, u 316, u 317, u 318, u 319, u 320, u 321, u 322, u 323, u 324, u 325, u 326, u 327, u 328, u 329, u 330, u 331, u 332, u 333, u 334, u 335, u 336, u 337, u 338, u 339, u 340, u 341, u 342, u 343, u 344, u 345, u 346, u 347, u 348, u 349, u 350, u 351, u 352, u 353, u 354], []⟩
def firstLoop : Code → Option Code
 | .loop c => some c
 | .seq a b => match firstLoop a with
  | some c => some c
  | none => firstLoop b
 | .block _ c => firstLoop c
 | .scope c => firstLoop c
 | .cond _ a b => match firstLoop a with
  | some c => some c
  | none => firstLoop b
 | _ => none
noncomputable def body1 : Code := ((Tryz.f3.body.bind firstLoop).getD .skip)
def nums (k : Nat) : List MD := (List.range k).map fun (j : Nat) => wholeD (j : Int)
def ints (k : Nat) : List Int := (List.range k).map fun (j : Nat) => (j : Int)
theorem nums_succ (k : Nat) : rowOf (nums k) ++ (wholeD (k : Int)).cells.toList = rowOf (nums (k + 1)) := by
 unfold nums
 rw [List.range_succ, List.map_append, rowOf_append]
 rfl
theorem ints_succ (k : Nat) : (ints k).map (Value.int .i64) ++ [.int .i64 (k : Int)] = (ints (k + 1)).map (Value.int .i64) := by
 unfold ints
 rw [List.range_succ, List.map_append, List.map_append]
 rfl
def L1Rel (n : Nat) (w : World) (lv wv i : Value) (wr : World) : Prop := ∃ k : Nat, i = .int .i64 (k : Int) ∧ k ≤ n ∧ Below w.heap.size w wr ∧ wr.ownsRow w.heap.size 32 11 lv k (rowOf (nums k)) ∧ wr.ownsRow w.heap.size 3 1 wv k ((ints k).map (Value.int .i64)) ∧ (k = 0 → lv = .slice none 0 0 ∧ wv = .slice none 0 0)
def L1I (many frm to at1 : Int) (pm : Option Addr) (ml mc hb n : Nat) (w : World) (a : Act) (wr : World) : Prop := ∃ (u : Nat → Value) (lv wv i : Value), L1Rel n w lv wv i wr ∧ a = (F1 (.int .i64 many) (.int .i64 frm) (.int .i64 to) (.int .i64 at1) (.slice pm ml mc) (.pointer (some ⟨hb, 0, none⟩)) (.int .i64 (n : Int)) lv wv i u)
theorem l1_close (many frm to at1 : Int) (pm : Option Addr) (ml mc hb n : Nat) (w : World) (a : Act) (wr : World) (h : L1Rel n w (a.tmps.getD 14 undef) (a.tmps.getD 15 undef) (a.tmps.getD 16 undef) wr) (ha : a = (F1 (.int .i64 many) (.int .i64 frm) (.int .i64 to) (.int .i64 at1) (.slice pm ml mc) (.pointer (some ⟨hb, 0, none⟩)) (.int .i64 (n : Int)) (a.tmps.getD 14 undef) (a.tmps.getD 15 undef) (a.tmps.getD 16 undef) (fun k => a.tmps.getD k undef))) : L1I many frm to at1 pm ml mc hb n w a wr := ⟨fun k => a.tmps.getD k undef, _, _, _, h, ha⟩
def L1m (n : Nat) (a : Act) (_ : World) : Nat := n - (intOf (a.tmps.getD 16 undef)).toNat
end Go.Proofs.YtdbijkgnddcneaaGreatDoor
namespace Go.Proofs.YtdbijkgnddcneaaGreatDoor
open Go.RowKit Go.ChangeMaps
set_option maxRecDepth 1000000
set_option maxHeartbeats 16000000
theorem apart {w : World} {B B' : Nat} {e e' : TypeId} {z z' n n' : Nat} {v v' : Value} {xs xs' : List Value} (h : w.ownsRow B e z v n xs) (h' : w.ownsRow B' e' z' v' n' xs') (hne : e ≠ e') : ∀ g, v.ownBlock = some g → v'.ownBlock ≠ some g := fun g hg q => by
 rcases h.2 with ⟨rfl, _⟩ | ⟨g1, c1, cur1, rfl, _, hh1, _⟩
 ·cases hg
 ·rcases h'.2 with ⟨rfl, _⟩ | ⟨g2, c2, cur2, rfl, _, hh2, _⟩
  ·cases q
  ·simp only [Value.ownBlock, Option.some.injEq] at hg q
   rw [hg] at hh1
   rw [q, hh1] at hh2
   simp only [Option.some.injEq, Obj.cells.injEq] at hh2
   exact hne hh2.2.1
theorem own_grown {w w' : World} {B B' : Nat} {e e' : TypeId} {z z' n n' : Nat} {v v' : Value} {xs xs' : List Value} (h : w.ownsRow B e z v n xs) (h' : w.ownsRow B' e' z' v' n' xs') (hne : e ≠ e') (hg : w.grownBy w' v'.ownBlock) : w'.ownsRow B e z v n xs := by
 refine ⟨h.1, ?_⟩
 rcases h.2 with h0 | ⟨g, cap, cur, hv, hg1, hh, r⟩
 ·exact .inl h0
 ·refine .inr ⟨g, cap, cur, hv, hg1, ?_, r⟩
  rw [hg.block g (Array.getElem?_eq_some_iff.1 hh).1 (fun q => (apart h h' hne g (by rw [hv]; rfl)) q.symm)]
  exact hh
theorem one11 (z : Int) : ∀ u ∈ (wholeD z).cells.toList, u.oneCell' = true := fun u hu => by
 simp only [wholeD, MD.cells, List.mem_cons, List.not_mem_nil, or_false] at hu
 rcases hu with rfl | rfl | rfl | rfl | rfl | rfl | rfl | rfl | rfl | rfl | rfl <;> rfl
theorem new11 (w : World) (z : Int) : ∀ j x, (wholeD z).cells.toList[j]? = some x → (w.alloc (.cells (wholeD z).cells 32)).cell? ((⟨w.heap.size, 0, none⟩ : Addr).add j) = some x := fun j x hj => by
 have e : (⟨w.heap.size, 0, none⟩ : Addr).add j = ⟨w.heap.size, j, none⟩ := by
  unfold Addr.add
  by_cases h : j = 0
  ·subst h; rfl
  ·simp [h]
 rw [e, (cells_of (heap_alloc_new w (.cells (wholeD z).cells 32))).1]
 simpa using hj
def L1E (many frm to at1 : Int) (pm : Option Addr) (ml mc hb n : Nat) (w : World) (a : Act) (wr : World) : Prop := ∃ (u : Nat → Value) (lv wv : Value), L1Rel n w lv wv (.int .i64 (n : Int)) wr ∧ a = (F1 (.int .i64 many) (.int .i64 frm) (.int .i64 to) (.int .i64 at1) (.slice pm ml mc) (.pointer (some ⟨hb, 0, none⟩)) (.int .i64 (n : Int)) lv wv (.int .i64 (n : Int)) u)
theorem l1e_close (many frm to at1 : Int) (pm : Option Addr) (ml mc hb n : Nat) (w : World) (a : Act) (wr : World) (h : L1Rel n w (a.tmps.getD 14 undef) (a.tmps.getD 15 undef) (.int .i64 (n : Int)) wr) (ha : a = (F1 (.int .i64 many) (.int .i64 frm) (.int .i64 to) (.int .i64 at1) (.slice pm ml mc) (.pointer (some ⟨hb, 0, none⟩)) (.int .i64 (n : Int)) (a.tmps.getD 14 undef) (a.tmps.getD 15 undef) (.int .i64 (n : Int)) (fun k => a.tmps.getD k undef))) : L1E many frm to at1 pm ml mc hb n w a wr := ⟨fun k => a.tmps.getD k undef, _, _, h, ha⟩
theorem loop1 (many frm to at1 : Int) (pm : Option Addr) (ml mc hb n : Nat) (hn : n ≤ 40) (w : World) (K : Act → World → Prop) (QQ : Exit → Act → World → Prop)
  (hK : ∀ (a : Act) (wr : World), L1E many frm to at1 pm ml mc hb n w a wr → K a wr) (a1 : Act) (hI : L1I many frm to at1 pm ml mc hb n w a1 w) :
  Code.wp Tryz.prog (Code.loop body1) (Exit.inBlock 0 (Exit.then K QQ)) a1 w := by
 have HK : Hid _ := hK
 clear hK
 obtain ⟨i0, hi, hz0, hz1, hz2⟩ := info_parts info32z
 obtain ⟨i1, hi1, hy0, hy1, hy2⟩ := info_parts info3z
 refine wp_loop (L1I many frm to at1 pm ml mc hb n w) (L1m n) hI (fun a0 wr hGI => ?_)
 clear hI
 obtain ⟨u, lv, wv, i, ⟨k, rfl, hk, hb1, ol, ow, h00⟩, rfl⟩ := hGI
 have H00 : Hid _ := h00
 clear h00
 have OL : Hid _ := ol
 have OW : Hid _ := ow
 clear ol ow
 have hys := hb1.size
 try unfold F1
 try unfold F2
 try unfold F5
 try unfold F6
 conv => arg 2; whnf
 by_cases hlt : k < n
 ·have j1 : (k : Int) < (n : Int) := by omega
  go_wp2_with fail
  refine (whole_any (k : Int) wr).mono ?_
  rintro _ V1 ⟨rfl, c1⟩
  have hb2 : Below w.heap.size w V1 := hb1.trans (c1.mono hb1.size)
  have OL1 : Hid (V1.ownsRow w.heap.size 32 11 lv k (rowOf (nums k))) := ownsRow_below OL.out c1
  have OW1 : Hid (V1.ownsRow w.heap.size 3 1 wv k ((ints k).map (Value.int .i64))) := ownsRow_below OW.out c1
  have HE : Hid _ := nums_succ k
  have HE2 : Hid _ := ints_succ k
  have hys2 := hb2.size
  clear hb1 c1 OL OW hys
  simp only [wholeD, MD.val, D, List.length_nil]
  go_wp2_with (first | (at_builtin; refine wpList_append_own _ rfl _ _ 27 rfl w.heap.size 32 i0 (.agg #[.int .i64 0, .string ⟨#[]⟩, .int .i64 0, .int .u64 0, .string ⟨#[]⟩, .int .i64 0, .int .i64 0, .int .i64 0, .int .i64 0, .slice none 0 0, .slice none 0 0]) 11 136 Tryz.underlying27 hi hz0 hz1 hz2 rfl (by decide) _ _ _ rfl (OL1.out.alloc _) ⟨V1.heap.size, 0, none⟩ 1 1 (wholeD (k : Int)).cells.toList rfl rfl (new11 V1 (k : Int)) (one11 (k : Int)) (by unfold maxLen; omega) (by omega) (by simp; omega) ?_; intro v2 w3 hown3 hgr3 _; have HB3 : Hid (Below w.heap.size w w3) := (Below.grown (hb2.alloc (by omega) _) hgr3 (by simp; omega) (fun j hj => by have := (OL1.out.lt _ hj).1; omega)); have OW3 : Hid (w3.ownsRow w.heap.size 3 1 wv k ((ints k).map (Value.int .i64))) := (own_grown (OW1.out.alloc _) (OL1.out.alloc _) (by decide) hgr3); have OL3 : Hid (w3.ownsRow w.heap.size 32 11 v2 (k + 1) (rowOf (nums (k + 1)))) := (by show World.ownsRow _ _ _ _ _ _ _; rw [← HE.out]; exact hown3); clear hown3 hgr3) | (at_builtin; refine wpList_append_own _ rfl _ _ 22 rfl w.heap.size 3 i1 (.int .i64 0) 1 8 Tryz.underlying22 hi1 hy0 hy1 hy2 rfl (by decide) _ _ _ rfl (OW3.out.alloc _) ⟨w3.heap.size, 0, none⟩ 1 1 [.int .i64 (k : Int)] rfl rfl (cell_one_new w3 (.int .i64 (k : Int)) 3) (fun x hx => by simp at hx; subst hx; rfl) (by unfold maxLen; omega) (by omega) (by have := HB3.out.size; simp; omega) ?_; intro v4 w5 hown5 hgr5 _; have HB5 : Hid (Below w.heap.size w w5) := (Below.grown (HB3.out.alloc HB3.out.size _) hgr5 (by have := HB3.out.size; simp; omega) (fun j hj => by have := (OW3.out.lt _ hj).1; omega)); have OL5 : Hid (w5.ownsRow w.heap.size 32 11 v2 (k + 1) (rowOf (nums (k + 1)))) := (own_grown (OL3.out.alloc _) (OW3.out.alloc _) (by decide) hgr5); have OW5 : Hid (w5.ownsRow w.heap.size 3 1 v4 (k + 1) ((ints (k + 1)).map (Value.int .i64))) := (by show World.ownsRow _ _ _ _ _ _ _; rw [← HE2.out]; exact hown5); clear hown5 hgr5))
  exact ⟨l1_close _ _ _ _ _ _ _ _ _ _ _ _ ⟨k + 1, by simp, by omega, HB5.out, OL5.out, OW5.out, fun e => absurd e (Nat.succ_ne_zero k)⟩ rfl, by simp [L1m, intOf]; omega⟩
 ·have j1 : ¬ (k : Int) < (n : Int) := by omega
  obtain rfl : k = n := by omega
  go_wp2_with fail
  exact HK.out _ _ (l1e_close _ _ _ _ _ _ _ _ _ _ _ _ ⟨k, rfl, Nat.le_refl _, hb1, OL.out, OW.out, H00.out⟩ rfl)
end Go.Proofs.YtdbijkgnddcneaaGreatDoor
namespace Go.Proofs.YtdbijkgnddcneaaGreatDoor
open Go.RowKit Go.ChangeMaps
def allLoops : Code → List Code
 | .loop c => [c]
 | .seq a b => allLoops a ++ allLoops b
 | .block _ c => allLoops c
 | .scope c => allLoops c
 | .cond _ a b => allLoops a ++ allLoops b
 | _ => []
noncomputable def bodyN (i : Nat) : Code := ((((Tryz.f3.body.map allLoops).getD [])[i]?).getD .skip)
section
variable {w : World} {B : Nat} {e : TypeId} {size n : Nat} {g cap : Nat} {xs : List Value}
theorem own_cell (h : w.ownsRow B e size (.slice (some ⟨g, 0, none⟩) n cap) n xs) (j : Nat) (v : Value) (hj : xs[j]? = some v) : w.cell? ⟨g, j, none⟩ = some v ∧ w.frozen? ⟨g, j, none⟩ = false := by
 rcases h.2 with ⟨h0, _⟩ | ⟨g', cap', cur, hv, hb, hg, hn, hm, hs, ht⟩
 ·cases h0
 ·cases hv
  have hjl : j < xs.length := (List.getElem?_eq_some_iff.1 hj).1
  have hc : cur[j]? = some v := by
   rw [← ht] at hj
   rw [List.getElem?_take_of_lt (by rw [h.1] at hjl; exact hjl)] at hj
   simpa using hj
  refine ⟨?_, ?_⟩
  ·simp [World.cell?, hg, hc]
  ·simp [World.frozen?, hg]
theorem own_set (h : w.ownsRow B e size (.slice (some ⟨g, 0, none⟩) n cap) n xs) (j : Nat) (v : Value) : (w.setCell ⟨g, j, none⟩ v).ownsRow B e size (.slice (some ⟨g, 0, none⟩) n cap) n (xs.set j v) := by
 rcases h.2 with ⟨h0, _⟩ | ⟨g', cap', cur, hv, hb, hg, hn, hm, hs, ht⟩
 ·cases h0
 ·cases hv
  refine ⟨by simpa using h.1, .inr ⟨g, cap, cur.setIfInBounds j v, rfl, hb, ?_, hn, hm, by simpa using hs, ?_⟩⟩
  ·have hlt := (Array.getElem?_eq_some_iff.1 hg).1
   show (w.heap.modify g _)[g]? = _
   rw [Array.getElem?_eq_getElem (by rw [Array.size_modify]; exact hlt), Array.getElem_modify_self]
   have := (Array.getElem?_eq_some_iff.1 hg).2
   rw [this]
   rfl
  ·rw [Array.toList_setIfInBounds, List.take_set, ht]
end
theorem nums_open {w : World} {B n : Nat} {v : Value} {zs : List Int} (h : w.ownsRow B 3 1 v n (zs.map (Value.int .i64))) (hp : 0 < n) : ∃ g cap, v = .slice (some ⟨g, 0, none⟩) n cap ∧ B ≤ g ∧ g < w.heap.size ∧ zs.length = n := by
 have hl : zs.length = n := by have := h.1; rw [List.length_map] at this; omega
 rcases h.2 with ⟨_, h0⟩ | ⟨g, cap, cur, rfl, hb, hg, _⟩
 ·omega
 ·exact ⟨g, cap, rfl, hb, (Array.getElem?_eq_some_iff.1 hg).1, hl⟩
theorem nums_form {w : World} {B n : Nat} {v : Value} {zs : List Int} (h : w.ownsRow B 3 1 v n (zs.map (Value.int .i64))) : zs.length = n ∧ ∃ p cap, v = .slice p n cap := by
 have hl : zs.length = n := by have := h.1; rw [List.length_map] at this; omega
 rcases h.2 with ⟨rfl, h0⟩ | ⟨g, cap, cur, rfl, hb, hg, _⟩
 ·subst h0; exact ⟨hl, none, 0, rfl⟩
 ·exact ⟨hl, _, cap, rfl⟩
theorem nums_cell {w : World} {B n g cap : Nat} {zs : List Int} (h : w.ownsRow B 3 1 (.slice (some ⟨g, 0, none⟩) n cap) n (zs.map (Value.int .i64))) (j : Nat) (hj : j < zs.length) : w.cell? ⟨g, j, none⟩ = some (.int .i64 zs[j]) ∧ w.frozen? ⟨g, j, none⟩ = false :=
 own_cell h j _ (by rw [List.getElem?_map, List.getElem?_eq_getElem hj]; rfl)
theorem nums_set {w : World} {B n g cap : Nat} {zs : List Int} (h : w.ownsRow B 3 1 (.slice (some ⟨g, 0, none⟩) n cap) n (zs.map (Value.int .i64))) (j : Nat) (z : Int) : (w.setCell ⟨g, j, none⟩ (.int .i64 z)).ownsRow B 3 1 (.slice (some ⟨g, 0, none⟩) n cap) n ((zs.set j z).map (Value.int .i64)) := by
 rw [List.map_set]
 exact own_set h j _
theorem set_kp (w : World) (g j : Nat) (v : Value) : Kp (fun b => b = g) w (w.setCell ⟨g, j, none⟩ v) := by
 refine ⟨rfl, rfl, rfl, by show _ ≤ (w.heap.modify g _).size; rw [Array.size_modify]; exact Nat.le_refl _, fun b hb hn => ?_⟩
 show (w.heap.modify g _)[b]? = _
 rw [Array.getElem?_modify, if_neg (fun e => hn e.symm)]
end Go.Proofs.YtdbijkgnddcneaaGreatDoor
namespace Go.Proofs.YtdbijkgnddcneaaGreatDoor
open Go.RowKit Go.ChangeMaps
theorem lead_list (m f l c : Nat) (hm : m ≤ 1000) (hl : l ≤ c) (hc : f + c ≤ 1000) : FlatR (leadD 5 ⟨#[108, 105, 115, 116]⟩ ((m : Int) + 1) f l c) := by
 refine ⟨⟨5, ⟨#[108, 105, 115, 116]⟩, 0, _, _, _, _, rfl, by decide⟩, lead_fine _ _ _ _ _ _ (by decide) (by decide) (by omega) (by omega) (by omega) (by omega), ?_⟩
 have h1 : tyB 5 ⟨#[108, 105, 115, 116]⟩ = true := by decide +kernel
 have h2 : zeroK 5 0 0 ⟨#[]⟩ ((m : Int) + 1) f l c 0 0 = true := by simp [zeroK]
 have h3 : pieceB ((m : Int) + 1) f l c = true := by
  unfold pieceB objB
  rw [if_neg (by omega)]
  simp only [Bool.and_eq_true, decide_eq_true_eq]
  omega
 show (headOK (leadD 5 ⟨#[108, 105, 115, 116]⟩ ((m : Int) + 1) f l c).h 0 && _ && decide (_ ≤ 100)) = true
 have h4 : headOK (leadD 5 ⟨#[108, 105, 115, 116]⟩ ((m : Int) + 1) f l c).h 0 = true := by
  show (tyB 5 ⟨#[108, 105, 115, 116]⟩ && zeroK 5 0 0 ⟨#[]⟩ ((m : Int) + 1) f l c 0 0 && pieceB ((m : Int) + 1) f l c) = true
  rw [h1, h2, h3]
  rfl
 rw [h4]
 rfl
abbrev wds (zs : List Int) : List MD := zs.map wholeD
structure Arr (w : World) (ab : Nat) (go : Option Nat) (zs : List Int) : Prop where
 arr : w.heap[ab]? = some (.cells #[.slice (go.map fun g => ⟨g, 0, none⟩) zs.length zs.length] 131)
 row : ∀ g, go = some g → w.heap[g]? = some (.cells (rowOf (wds zs)).toArray 32)
 emp : go = none → zs = []
 small : zs.length ≤ 100
theorem Arr.kp {S : Nat → Prop} {w w' : World} {ab : Nat} {go : Option Nat} {zs : List Int} (h : Arr w ab go zs) (k : Kp S w w') (h1 : ¬ S ab) (h2 : ∀ g, go = some g → ¬ S g) : Arr w' ab go zs :=
 ⟨(k.block _ (hblk h.arr) h1).trans h.arr, fun g e => (k.block _ (hblk (h.row g e)) (h2 g e)).trans (h.row g e), h.emp, h.small⟩
theorem Arr.below {w w' : World} {ab : Nat} {go : Option Nat} {zs : List Int} (h : Arr w ab go zs) (k : Below w.heap.size w w') : Arr w' ab go zs := h.kp (Kp.of (S := fun _ => False) k) id (fun _ _ => id)
theorem wds_len (zs : List Int) : (wds zs).length = zs.length := List.length_map _
def Sm (zs : List Int) : Prop := ∀ z ∈ zs, -9223372036854775808 ≤ z ∧ z ≤ 9223372036854775807
theorem Sm.flatR {zs : List Int} (h : Sm zs) : ∀ d ∈ wds zs, FlatR d := fun d hd => by
 obtain ⟨z, hz, rfl⟩ := List.mem_map.1 hd
 exact FlatR.whole z (h z hz).1 (h z hz).2
theorem Sm.flat {zs : List Int} (h : Sm zs) : ∀ d ∈ wds zs, Flat d := fun d hd => (h.flatR d hd).flat
theorem List_any (hb M : Nat) (vs : List Value) (hl : vs.length < 1000) (lv : Value) (zs : List Int) (hs : zs.length ≤ 100) (hz : Sm zs) (B : Nat) (w : World) (hN : NamesAt w) (h : HeapAt w hb M vs) (ho : w.ownsRow B 32 11 lv zs.length (rowOf (wds zs))) (h00 : zs.length = 0 → lv = .slice none 0 0) :
  Calls Tryz.prog 9 #[.pointer (some ⟨hb, 0, none⟩), lv] w fun r w' => r = .returned (.tuple #[(leadD 5 ⟨#[108, 105, 115, 116]⟩ ((vs.length : Int) + 1) 0 zs.length zs.length).val, .nilIface]) ∧ ∃ ab go, HeapAt w' hb M (vs ++ [arrV ab]) ∧ Arr w' ab go zs ∧ Kp (fun b => b = hb ∨ b = M) w w' ∧ w.heap.size ≤ ab ∧ ∀ g, go = some g → w.heap.size ≤ g ∧ g ≠ ab := by
 rcases ho.2 with ⟨rfl, h0⟩ | ⟨g, cap, cur, rfl, h2, h3, h4, h5, h6, h7⟩
 ·obtain rfl : zs = [] := List.eq_nil_of_length_eq_zero h0
  refine (List_nil hb M vs hl w h).mono ?_
  rintro _ w' ⟨rfl, ab, h1, h2, h3, h4⟩
  exact ⟨rfl, ab, none, h1, ⟨h2, (fun g e => by cases e), fun _ => rfl, hs⟩, h3, h4, (fun g e => by cases e)⟩
 ·by_cases h0 : zs.length = 0
  ·cases h00 h0
  ·have hlen : (wds zs).length = zs.length := wds_len zs
   have hgl : g < w.heap.size := (Array.getElem?_eq_some_iff.1 h3).1
   have := List_flat hb M vs hl g cap (wds zs) hz.flatR (by omega) (by omega) w hN hgl (fun i hi j hj => by
    have e1 : cur.toList[0 + i * 11 + j]? = (rowOf (wds zs))[0 + i * 11 + j]? := by
     rw [← h7, List.getElem?_take, if_pos (by omega)]
    have e2 := rowOf_get (wds zs) i hi j hj
    rw [show i * 11 + j = 0 + i * 11 + j by omega] at e2
    rw [(cells_of h3).1, ← Array.getElem?_toList, e1, e2]) h
   rw [hlen] at this
   refine this.mono ?_
   rintro _ w' ⟨rfl, ab, g', h1, h2, h3, h4, h5, h6, h7⟩
   exact ⟨rfl, ab, some g', h1, ⟨h2, fun q e => by cases e; exact h3, (fun e => by cases e), hs⟩, h4, h5, fun q e => by cases e; exact ⟨h6, by omega⟩⟩
def pieceO (go : Option Nat) (f c : Nat) : Option Addr := go.map fun g => pieceP g f c
theorem piece_all (hb M : Nat) (vs : List Value) (m ab : Nat) (hm : vs[m]? = some (arrV ab)) (hm2 : m ≤ 1000) (go : Option Nat) (zs : List Int) (f l c : Nat) (hl : l ≤ c) (hc : f + c ≤ zs.length) (w : World) (hN : NamesAt w) (h : HeapAt w hb M vs) (ha : Arr w ab go zs) :
  Calls Tryz.prog 36 #[.pointer (some ⟨hb, 0, none⟩), .agg #[.int .i64 5, .string ⟨#[108, 105, 115, 116]⟩, .int .i64 0, .int .u64 0, .string ⟨#[]⟩, .int .i64 ((m : Int) + 1), .int .i64 (f : Int), .int .i64 (l : Int), .int .i64 (c : Int), .slice none 0 0, .slice none 0 0]] w fun r w' => r = .returned (.tuple #[.slice (pieceO go f c) l c, .bool true]) ∧ Below w.heap.size w w' := by
 have hF := lead_list m f l c hm2 hl (by have := ha.small; omega)
 cases go with
 | none =>
  obtain rfl := ha.emp rfl
  obtain rfl : f = 0 := by simp at hc; omega
  obtain rfl : c = 0 := by simp at hc; omega
  obtain rfl : l = 0 := by omega
  exact piece_nil hb M vs m ab hm ⟨#[108, 105, 115, 116]⟩ hF w hN h ha.arr
 | some g => exact piece_any hb M vs m ab hm g zs.length f l c ⟨hl, hc⟩ (by have := ha.small; omega) ⟨#[108, 105, 115, 116]⟩ hF w hN h ha.arr
theorem Slice_all (hb M : Nat) (vs : List Value) (m ab : Nat) (hm : vs[m]? = some (arrV ab)) (hm2 : m ≤ 1000) (go : Option Nat) (zs : List Int) (x y : Nat) (hxy : x ≤ y ∧ y ≤ zs.length) (w : World) (hN : NamesAt w) (h : HeapAt w hb M vs) (ha : Arr w ab go zs) :
  Calls Tryz.prog 10 #[.pointer (some ⟨hb, 0, none⟩), .agg #[.int .i64 5, .string ⟨#[108, 105, 115, 116]⟩, .int .i64 0, .int .u64 0, .string ⟨#[]⟩, .int .i64 ((m : Int) + 1), .int .i64 ((0 : Nat) : Int), .int .i64 (zs.length : Int), .int .i64 (zs.length : Int), .slice none 0 0, .slice none 0 0], .int .i64 (x : Int), .int .i64 (y : Int), .int .i64 (-1)] w fun r w' => r = .returned (.tuple #[(leadD 5 ⟨#[108, 105, 115, 116]⟩ ((m : Int) + 1) (0 + x : Nat) (y - x : Nat) (zs.length - x : Nat)).val, .nilIface]) ∧ Below w.heap.size w w' :=
 Slice_any hb m 0 zs.length zs.length x y _ ⟨#[108, 105, 115, 116]⟩ (by decide) hxy (by have := ha.small; omega) w (fun W hW => piece_all hb M vs m ab hm hm2 go zs 0 zs.length zs.length (Nat.le_refl _) (by omega) W (hN.kept hW) (h.below hW) (ha.below hW))
theorem read_all (hb M : Nat) (vs : List Value) (m ab : Nat) (hm : vs[m]? = some (arrV ab)) (hm2 : m ≤ 1000) (go : Option Nat) (zs : List Int) (hz : Sm zs) (f l c : Nat) (hl : l ≤ c) (hc : f + c ≤ zs.length) (w : World) (hN : NamesAt w) (h : HeapAt w hb M vs) (ha : Arr w ab go zs) :
  Calls Tryz.prog 12 #[.pointer (some ⟨hb, 0, none⟩), .agg #[.int .i64 5, .string ⟨#[108, 105, 115, 116]⟩, .int .i64 0, .int .u64 0, .string ⟨#[]⟩, .int .i64 ((m : Int) + 1), .int .i64 (f : Int), .int .i64 (l : Int), .int .i64 (c : Int), .slice none 0 0, .slice none 0 0]] w fun r w' => ∃ v, r = .returned (.tuple #[v, .bool true]) ∧ Below w.heap.size w w' ∧ w'.ownsRow w.heap.size 3 1 v l (((zs.drop f).take l).map (Value.int .i64)) := by
 have hs := ha.small
 have hlen : ((zs.drop f).take l).length = l := by rw [List.length_take, List.length_drop]; omega
 have := read_any hb m f c ⟨#[108, 105, 115, 116]⟩ ((zs.drop f).take l) (by omega) w (fun W i hi hW => by
  have ha' := ha.below hW
  rw [hlen] at hi ⊢
  cases go with
  | none => have := ha.emp rfl; subst this; simp at hc; omega
  | some g =>
   exact At_any hb M vs m ab hm g zs.length f l c ⟨hl, hc⟩ (by omega) ⟨#[108, 105, 115, 116]⟩ (lead_list m f l c hm2 hl (by omega)) (wds zs) (wds_len zs) hz.flat i hi W (hN.kept hW) (h.below hW) ha'.arr (ha'.row g rfl) (wholeD ((zs.drop f).take l)[i]) (by
    rw [List.getElem?_map, List.getElem_take, List.getElem_drop, List.getElem?_eq_getElem (by omega)]; rfl))
 rw [hlen] at this
 exact this
theorem Put_all (hb M : Nat) (vs : List Value) (m ab : Nat) (hm : vs[m]? = some (arrV ab)) (hm2 : m ≤ 1000) (go : Option Nat) (zs : List Int) (f l c : Nat) (hl : l ≤ c) (hc : f + c ≤ zs.length) (i : Nat) (hi : i < l) (z : Int) (hz : FlatR (wholeD z)) (w : World) (hN : NamesAt w) (h : HeapAt w hb M vs) (ha : Arr w ab go zs) (hne : ∀ g, go = some g → g ≠ ab) :
  Calls Tryz.prog 11 #[.pointer (some ⟨hb, 0, none⟩), .agg #[.int .i64 5, .string ⟨#[108, 105, 115, 116]⟩, .int .i64 0, .int .u64 0, .string ⟨#[]⟩, .int .i64 ((m : Int) + 1), .int .i64 (f : Int), .int .i64 (l : Int), .int .i64 (c : Int), .slice none 0 0, .slice none 0 0], .int .i64 (i : Int), .agg #[.int .i64 2, .string ⟨#[105, 110, 116]⟩, .int .i64 z, .int .u64 0, .string ⟨#[]⟩, .int .i64 0, .int .i64 0, .int .i64 0, .int .i64 0, .slice none 0 0, .slice none 0 0]] w fun r w' => r = .returned .nilIface ∧ Arr w' ab go (zs.set (f + i) z) ∧ Kp (fun b => go = some b) w w' := by
 have hs := ha.small
 cases go with
 | none => have := ha.emp rfl; subst this; simp at hc; omega
 | some g =>
  refine (Put_any hb M vs m ab hm g zs.length f l c ⟨hl, hc⟩ (by omega) ⟨#[108, 105, 115, 116]⟩ (lead_list m f l c hm2 hl (by omega)) (wds zs) (wds_len zs) i hi z hz w hN h ha.arr (ha.row g rfl)).mono ?_
  rintro _ w' ⟨rfl, h1, h2⟩
  have k : Kp (fun b => some g = some b) w w' := ⟨h2.os, h2.tape, h2.output, h2.size, fun b hb hn => h2.block b hb fun e => hn (by rw [e])⟩
  refine ⟨rfl, ⟨?_, ?_, (fun e => by cases e), by rw [List.length_set]; exact hs⟩, k⟩
  ·rw [List.length_set]
   exact (h2.block _ (hblk ha.arr) (fun e => hne g rfl e.symm)).trans ha.arr
  ·intro q e
   cases e
   rw [show wds (zs.set (f + i) z) = (wds zs).set (f + i) (wholeD z) from List.map_set ..]
   exact h1
end Go.Proofs.YtdbijkgnddcneaaGreatDoor
namespace Go.Proofs.YtdbijkgnddcneaaGreatDoor
open Go.RowKit Go.ChangeMaps
theorem slice_run (pp : Option Addr) (l k c : Nat) (h : l + k ≤ c) (W : World) : (Instr.slice 27 (.slice pp l c) (some (.int .i64 (l : Int))) (some (.int .i64 ((l : Int) + k))) none).run Tryz.prog W = .ok (sliced pp l (l + k) c 11) W := by
 have e := run_slice_lh (P := Tryz.prog) (w := W) 27 pp l c (by kernel_rfl) .i64 .i64 (l : Int) ((l : Int) + k) (by omega) (by omega) (by omega)
 have hs : (sizeOf (Tryz.prog.elem 27)).run Tryz.prog W = .ok 11 W := by kernel_rfl
 rw [e, hs]
 have e1 : (l : Int).toNat = l := by omega
 have e2 : ((l : Int) + k).toNat = l + k := by omega
 simp [Result.andThen, e1, e2]
theorem mid_row (zs as' : List Int) (o : Nat) (h : o + as'.length ≤ zs.length) : putL (rowOf (wds zs)).toArray (o * 11) (rowOf (wds as')) = (rowOf (wds (zs.take o ++ as' ++ zs.drop (o + as'.length)))).toArray := by
 have e : wds zs = wds (zs.take o) ++ wds ((zs.drop o).take as'.length) ++ wds (zs.drop (o + as'.length)) := by
  rw [← List.map_append, ← List.map_append, List.append_assoc, ← List.drop_drop, List.take_append_drop, List.take_append_drop]
 rw [e, rowOf_append, rowOf_append]
 have hl : (rowOf (wds (zs.take o))).length = o * 11 := by rw [rowOf_length, wds_len, List.length_take, Nat.min_eq_left (by omega)]
 rw [← hl, putL_list]
 ·rw [← rowOf_append, ← rowOf_append, ← List.map_append, ← List.map_append]
 ·rw [rowOf_length, rowOf_length, wds_len, wds_len, List.length_take, List.length_drop]
  rw [Nat.min_eq_left (by omega)]
theorem Append_room_all (hb M : Nat) (vs : List Value) (m ab : Nat) (hm : vs[m]? = some (arrV ab)) (hm2 : m ≤ 1000) (go : Option Nat) (zs : List Int) (f l c : Nat) (hl : l ≤ c) (hc : f + c ≤ zs.length) (as' : List Int) (hS : Sm as') (av : Value) (B : Nat) (w : World) (hN : NamesAt w) (h : HeapAt w hb M vs) (ha : Arr w ab go zs) (ho : w.ownsRow B 32 11 av as'.length (rowOf (wds as'))) (h00 : as'.length = 0 → av = .slice none 0 0) (hroom : l + as'.length ≤ c) (hne : ∀ g, go = some g → g ≠ ab) (hdis : ∀ g, go = some g → av.ownBlock ≠ some g) :
  Calls Tryz.prog 14 #[.pointer (some ⟨hb, 0, none⟩), .agg #[.int .i64 5, .string ⟨#[108, 105, 115, 116]⟩, .int .i64 0, .int .u64 0, .string ⟨#[]⟩, .int .i64 ((m : Int) + 1), .int .i64 (f : Int), .int .i64 (l : Int), .int .i64 (c : Int), .slice none 0 0, .slice none 0 0], av] w fun r w' => r = .returned (.tuple #[(leadD 5 ⟨#[108, 105, 115, 116]⟩ ((m : Int) + 1) f (l + as'.length : Nat) c).val, .nilIface]) ∧ Arr w' ab go (zs.take (f + l) ++ as' ++ zs.drop (f + l + as'.length)) ∧ Kp (fun b => go = some b) w w' := by
 have hs := ha.small
 have HP0 : ∀ W, Below w.heap.size w W → Calls Tryz.prog 36 #[.pointer (some ⟨hb, 0, none⟩), .agg #[.int .i64 5, .string ⟨#[108, 105, 115, 116]⟩, .int .i64 0, .int .u64 0, .string ⟨#[]⟩, .int .i64 ((m : Int) + 1), .int .i64 (f : Int), .int .i64 (l : Int), .int .i64 (c : Int), .slice none 0 0, .slice none 0 0]] W fun r w' => r = .returned (.tuple #[.slice (pieceO go f c) l c, .bool true]) ∧ Below W.heap.size W w' := fun W hW => piece_all hb M vs m ab hm hm2 go zs f l c hl hc W (hN.kept hW) (h.below hW) (ha.below hW)
 by_cases h0 : as'.length = 0
 ·obtain rfl : as' = [] := List.eq_nil_of_length_eq_zero h0
  rw [h00 h0]
  have := Append_room hb m f l c 0 0 ab _ (pieceO go f c) none _ ⟨#[108, 105, 115, 116]⟩ (by decide) (by omega) (by omega) w (hblk ha.arr) HP0 (fun W _ => (allRight_none 0 none W).mono fun r w' e => ⟨e.1, e.2 ▸ Below.refl _ _⟩) (fun W => slice_run (pieceO go f c) l 0 c (by omega) W) (fun W hW => (layCopies_none _ 0 none W).mono fun r w' e => ⟨e.1, e.2 ▸ (hW.block _ (hblk ha.arr)).trans ha.arr, e.2 ▸ Kp.refl _ _⟩)
  refine this.mono ?_
  rintro _ w' ⟨rfl, h1, h2⟩
  have k : Kp (fun b => go = some b) w w' := by
   refine ⟨h2.os, h2.tape, h2.output, h2.size, fun b hb hn => ?_⟩
   by_cases e : b = ab
   ·subst e
    exact h1.trans ha.arr.symm
   ·exact h2.block b hb e
  refine ⟨rfl, ?_, k⟩
  rw [List.append_nil, show f + l + ([] : List Int).length = f + l from rfl, List.take_append_drop]
  exact ⟨h1, fun g e => (h2.block _ (hblk (ha.row g e)) (hne g e)).trans (ha.row g e), ha.emp, ha.small⟩
 ·cases go with
  | none => have := ha.emp rfl; subst this; simp at hc; omega
  | some g =>
   rcases ho.2 with ⟨rfl, e0⟩ | ⟨gs, cap, cur, rfl, p2, p3, p4, p5, p6, p7⟩
   ·exact absurd e0 h0
   ·have hgg : gs ≠ g := fun e => hdis g rfl (by rw [← e]; rfl)
    have hgl : gs < w.heap.size := (Array.getElem?_eq_some_iff.1 p3).1
    have hgr := ha.row g rfl
    have hpp : pieceP g f c = ⟨g, f * 11, none⟩ := by unfold pieceP; rw [if_neg (by omega)]
    have hsr : ∀ (W : World), Below w.heap.size w W → ∀ (i : Nat) (hi : i < (wds as').length), MD.CellsAt W gs (0 + i * 11) (wds as')[i] := fun W hW i hi j hj => by
     have e1 : cur.toList[0 + i * 11 + j]? = (rowOf (wds as'))[0 + i * 11 + j]? := by
      rw [wds_len] at hi
      rw [← p7, List.getElem?_take, if_pos (by omega)]
     have e2 := rowOf_get (wds as') i hi j hj
     rw [show i * 11 + j = 0 + i * 11 + j by omega] at e2
     rw [(cells_of ((hW.block _ hgl).trans p3)).1, ← Array.getElem?_toList, e1, e2]
    have hsd : sliced (some (⟨g, f * 11, none⟩ : Addr)) l (l + as'.length) c 11 = .slice (some ⟨g, (f + l) * 11, none⟩) as'.length (c - l) := by
     have e : (⟨g, f * 11, none⟩ : Addr).add (l * 11) = ⟨g, (f + l) * 11, none⟩ := by
      unfold Addr.add
      by_cases h : l * 11 = 0
      ·obtain rfl : l = 0 := by omega
       rfl
      ·rw [if_neg h]
       rw [Nat.add_mul]
     unfold sliced
     rw [if_neg (by omega)]
     simp only [Option.map_some, e]
     rw [Nat.add_sub_cancel_left]
    have := Append_room hb m f l c as'.length cap g (.cells (putL (rowOf (wds zs)).toArray ((f + l) * 11) (rowOf (wds as'))) 32) (some ⟨g, f * 11, none⟩) (some ⟨gs, 0, none⟩) (.slice (some ⟨g, (f + l) * 11, none⟩) as'.length (c - l)) ⟨#[108, 105, 115, 116]⟩ (by decide) hroom (by omega) w (hblk hgr) (by simpa [pieceO, hpp] using HP0) (fun W hW => by
      have := allRight_flat gs 0 cap (wds as') hS.flatR (by rw [wds_len]; omega) W (hN.kept hW) (Nat.lt_of_lt_of_le hgl hW.size) (hsr W hW)
      rwa [wds_len] at this) (fun W => by rw [slice_run _ l as'.length c hroom W, hsd]) (fun W hW => by
      have := layCopies_flat g ((f + l) * 11) gs 0 as'.length (c - l) cap (rowOf (wds zs)).toArray (wds as') hS.flat (by rw [wds_len]; omega) (by rw [wds_len]; exact Nat.le_refl _) W ((hW.block _ (hblk hgr)).trans hgr) (by rw [wds_len]; simp only [List.size_toArray, rowOf_length, wds_len]; omega) hgg (Nat.lt_of_lt_of_le hgl hW.size) (hsr W hW)
      rwa [wds_len] at this)
    refine this.mono ?_
    rintro _ w' ⟨rfl, h1, h2⟩
    have k : Kp (fun b => some g = some b) w w' := ⟨h2.os, h2.tape, h2.output, h2.size, fun b hb hn => h2.block b hb fun e => hn (by rw [e])⟩
    have hlen : (zs.take (f + l) ++ as' ++ zs.drop (f + l + as'.length)).length = zs.length := by
     rw [List.length_append, List.length_append, List.length_take, List.length_drop]
     omega
    refine ⟨rfl, ⟨?_, ?_, (fun e => by cases e), by rw [hlen]; exact hs⟩, k⟩
    ·rw [hlen]
     exact (h2.block _ (hblk ha.arr) (fun e => hne g rfl e.symm)).trans ha.arr
    ·intro q e
     cases e
     rw [← mid_row zs as' (f + l) (by omega)]
     exact h1
end Go.Proofs.YtdbijkgnddcneaaGreatDoor
namespace Go.Proofs.YtdbijkgnddcneaaGreatDoor
open Go.RowKit Go.ChangeMaps
theorem setRow_same (w : World) (g : Nat) (cs : Array Value) (t : TypeId) (hg : w.heap[g]? = some (.cells cs t (0, 0))) : w.setRow g cs = w := by
 have e : (w.setRow g cs).heap = w.heap := by
  apply Array.ext_getElem?
  intro j
  by_cases h : j = g
  ·subst h
   rw [setRow_heap w j cs cs t (0, 0) hg, hg]
  ·show (w.heap.modify g _)[j]? = _
   rw [Array.getElem?_modify, if_neg (Ne.symm h)]
 show ({ w with heap := (w.setRow g cs).heap } : World) = w
 rw [e]
theorem drop_rep (R l : Nat) (h : l ≤ R) : (rowOf (List.replicate R zeroD)).drop (l * 11) = rowOf (List.replicate (R - l) zeroD) := by
 have e : List.replicate R zeroD = List.replicate l zeroD ++ List.replicate (R - l) zeroD := by
  rw [List.replicate_append_replicate]
  congr 1
  omega
 have hl : (rowOf (List.replicate l zeroD)).length = l * 11 := by rw [rowOf_length, List.length_replicate]
 rw [e, rowOf_append, ← hl, List.drop_left]
theorem Append_grow_all (hb M : Nat) (vs : List Value) (hvs : vs.length < 1000) (m ab : Nat) (hm : vs[m]? = some (arrV ab)) (hm2 : m ≤ 1000) (go : Option Nat) (zs : List Int) (f l c : Nat) (hl : l ≤ c) (hc : f + c ≤ zs.length) (as' : List Int) (hS : Sm as') (ha40 : as'.length ≤ 40) (av : Value) (B : Nat) (w : World) (hN : NamesAt w) (h : HeapAt w hb M vs) (ha : Arr w ab go zs) (ho : w.ownsRow B 32 11 av as'.length (rowOf (wds as'))) (hgrow : c < l + as'.length) :
  Calls Tryz.prog 14 #[.pointer (some ⟨hb, 0, none⟩), .agg #[.int .i64 5, .string ⟨#[108, 105, 115, 116]⟩, .int .i64 0, .int .u64 0, .string ⟨#[]⟩, .int .i64 ((m : Int) + 1), .int .i64 (f : Int), .int .i64 (l : Int), .int .i64 (c : Int), .slice none 0 0, .slice none 0 0], av] w fun r w' => ∃ R : Nat, l + as'.length ≤ R ∧ R ≤ 300 ∧ r = .returned (.tuple #[(leadD 5 ⟨#[108, 105, 115, 116]⟩ ((vs.length : Int) + 1) 0 (l + as'.length : Nat) R).val, .nilIface]) ∧ ∃ ab' g', HeapAt w' hb M (vs ++ [arrV ab']) ∧ w'.heap[ab']? = some (.cells #[.slice (some ⟨g', 0, none⟩) R R] 131) ∧ w'.heap[g']? = some (.cells (rowOf (wds ((zs.drop f).take l ++ as') ++ List.replicate (R - l - as'.length) zeroD)).toArray 32) ∧ Kp (fun b => b = hb ∨ b = M) w w' ∧ w.heap.size ≤ ab' ∧ w.heap.size ≤ g' := by
 have hs := ha.small
 have hplen : ((zs.drop f).take l).length = l := by rw [List.length_take, List.length_drop]; omega
 obtain ⟨R, eR⟩ : ∃ R : Nat, R = max (2 * c) (l + as'.length) := ⟨_, rfl⟩
 have eR2 : max (2 * (c : Int)) ((l : Int) + as'.length) = (R : Int) := by omega
 have HP0 : ∀ W, Below w.heap.size w W → Calls Tryz.prog 36 #[.pointer (some ⟨hb, 0, none⟩), .agg #[.int .i64 5, .string ⟨#[108, 105, 115, 116]⟩, .int .i64 0, .int .u64 0, .string ⟨#[]⟩, .int .i64 ((m : Int) + 1), .int .i64 (f : Int), .int .i64 (l : Int), .int .i64 (c : Int), .slice none 0 0, .slice none 0 0]] W fun r w' => r = .returned (.tuple #[.slice (pieceO go f c) l c, .bool true]) ∧ Below W.heap.size W w' := fun W hW => piece_all hb M vs m ab hm hm2 go zs f l c hl hc W (hN.kept hW) (h.below hW) (ha.below hW)
 rcases ho.2 with ⟨rfl, e0⟩ | ⟨gs, cap, cur, rfl, p2, p3, p4, p5, p6, p7⟩
 ·omega
 have hgl : gs < w.heap.size := (Array.getElem?_eq_some_iff.1 p3).1
 have hsr : ∀ (i : Nat) (hi : i < (wds as').length), MD.CellsAt w gs (0 + i * 11) (wds as')[i] := fun i hi j hj => by
  have e1 : cur.toList[0 + i * 11 + j]? = (rowOf (wds as'))[0 + i * 11 + j]? := by
   rw [wds_len] at hi
   rw [← p7, List.getElem?_take, if_pos (by omega)]
  have e2 := rowOf_get (wds as') i hi j hj
  rw [show i * 11 + j = 0 + i * 11 + j by omega] at e2
  rw [(cells_of p3).1, ← Array.getElem?_toList, e1, e2]
 have HC0 : ∀ W g, Below w.heap.size w W → w.heap.size ≤ g → W.heap[g]? = some (.cells (rowOf (List.replicate R zeroD)).toArray 32) → (Builtin.copy_ #[27, 27] 3 #[.slice (some ⟨g, 0, none⟩) R R, .slice (pieceO go f c) l c]).run Tryz.prog W = .ok (goInt l) (W.setRow g (rowOf (wds ((zs.drop f).take l) ++ List.replicate (R - l) zeroD)).toArray) := fun W g hW hgw hg => by
  cases go with
  | none =>
   have := ha.emp rfl
   subst this
   simp at hc
   obtain rfl : l = 0 := by omega
   obtain rfl : c = 0 := by omega
   have := run_copy_nil (P := Tryz.prog) W 27 27 3 32 ⟨g, 0, none⟩ R R Tryz.underlying27 (by kernel_rfl)
   show Sem.run Tryz.prog (Builtin.copy_ #[27, 27] 3 #[.slice (some ⟨g, 0, none⟩) R R, .slice none 0 0]) W = _
   rw [this]
   have e : (rowOf (wds (([] : List Int).drop f |>.take 0) ++ List.replicate (R - 0) zeroD)).toArray = (rowOf (List.replicate R zeroD)).toArray := by simp
   rw [e, setRow_same W g _ 32 hg]
   rfl
  | some gz =>
   have hgr := (hW.block _ (hblk (ha.row gz rfl))).trans (ha.row gz rfl)
   have hx : ∀ j v, (rowOf (wds ((zs.drop f).take l)))[j]? = some v → W.cell? ((pieceP gz f c).add j) = some v := fun j v hj => by
    have hjl : j < l * 11 := by
     have := (List.getElem?_eq_some_iff.1 hj).1
     rw [rowOf_length, wds_len, hplen] at this
     exact this
    have hpp : pieceP gz f c = ⟨gz, f * 11, none⟩ := by unfold pieceP; rw [if_neg (by omega)]
    have ea : (pieceP gz f c).add j = ⟨gz, f * 11 + j, none⟩ := by
     rw [hpp]
     unfold Addr.add
     by_cases h : j = 0
     ·subst h; rfl
     ·rw [if_neg h]
    have hz : rowOf (wds zs) = rowOf (wds (zs.take f)) ++ (rowOf (wds ((zs.drop f).take l)) ++ rowOf (wds (zs.drop (f + l)))) := by
     rw [← rowOf_append, ← rowOf_append, ← List.map_append, ← List.map_append, ← List.drop_drop, List.take_append_drop, List.take_append_drop]
    have hfl : (rowOf (wds (zs.take f))).length = f * 11 := by rw [rowOf_length, wds_len, List.length_take, Nat.min_eq_left (by omega)]
    rw [ea, (cells_of hgr).1, List.getElem?_toArray, hz, List.getElem?_append_right (by omega), hfl, Nat.add_sub_cancel_left, List.getElem?_append_left (by rw [rowOf_length, wds_len, hplen]; exact hjl)]
    exact hj
   have := run_copy_row11 W 3 g R R (pieceP gz f c) l c (rowOf (List.replicate R zeroD)).toArray (rowOf (wds ((zs.drop f).take l))) hg (by rw [rowOf_length, wds_len, hplen]) (by omega) hx (by simp only [List.size_toArray, rowOf_length, wds_len, hplen, List.length_replicate]; omega) (rowOf_one _)
   show Sem.run Tryz.prog (Builtin.copy_ #[27, 27] 3 #[.slice (some ⟨g, 0, none⟩) R R, .slice (some (pieceP gz f c)) l c]) W = _
   have e : rowOf (wds ((zs.drop f).take l)) ++ (rowOf (List.replicate R zeroD)).toArray.toList.drop (rowOf (wds ((zs.drop f).take l))).length = rowOf (wds ((zs.drop f).take l) ++ List.replicate (R - l) zeroD) := by
    rw [rowOf_append, rowOf_length, wds_len, hplen, List.toList_toArray, drop_rep R l (by omega)]
   rw [this, e]
 have := Append_grow hb M vs hvs m f l c as'.length cap gs R (pieceO go f c) (wds ((zs.drop f).take l)) (wds as') ⟨#[108, 105, 115, 116]⟩ (by decide) hgrow hl (by omega) eR2 (by omega) (by rw [wds_len, hplen]) (wds_len as') hS.flatR w hN h HP0 hgl hsr HC0
 refine this.mono ?_
 rintro _ w' ⟨rfl, ab', g', h1, h2, h3, h4, h5, h6⟩
 refine ⟨R, by omega, by omega, rfl, ab', g', h1, h2, ?_, h4, h5, h6⟩
 rw [show wds ((zs.drop f).take l ++ as') = wds ((zs.drop f).take l) ++ wds as' from List.map_append ..]
 exact h3
theorem read_long (hb M : Nat) (vs : List Value) (m ab g : Nat) (hm : vs[m]? = some (arrV ab)) (hm2 : m ≤ 1000) (zs : List Int) (hz : Sm zs) (R : Nat) (hR : zs.length ≤ R ∧ R ≤ 300) (w : World) (hN : NamesAt w) (h : HeapAt w hb M vs) (ha : w.heap[ab]? = some (.cells #[.slice (some ⟨g, 0, none⟩) R R] 131)) (hg : w.heap[g]? = some (.cells (rowOf (wds zs ++ List.replicate (R - zs.length) zeroD)).toArray 32)) :
  Calls Tryz.prog 12 #[.pointer (some ⟨hb, 0, none⟩), .agg #[.int .i64 5, .string ⟨#[108, 105, 115, 116]⟩, .int .i64 0, .int .u64 0, .string ⟨#[]⟩, .int .i64 ((m : Int) + 1), .int .i64 ((0 : Nat) : Int), .int .i64 (zs.length : Int), .int .i64 (R : Int), .slice none 0 0, .slice none 0 0]] w fun r w' => ∃ v, r = .returned (.tuple #[v, .bool true]) ∧ Below w.heap.size w w' ∧ w'.ownsRow w.heap.size 3 1 v zs.length (zs.map (Value.int .i64)) := by
 have hfl : ∀ d ∈ wds zs ++ List.replicate (R - zs.length) zeroD, Flat d := fun d hd => by
  rcases List.mem_append.1 hd with h1 | h1
  ·exact hz.flat d h1
  ·obtain rfl := List.eq_of_mem_replicate h1
   exact ⟨0, ⟨#[]⟩, 0, 0, 0, 0, 0, rfl, by decide⟩
 have hlen : (wds zs ++ List.replicate (R - zs.length) zeroD).length = R := by rw [List.length_append, wds_len, List.length_replicate]; omega
 exact read_any hb m 0 R ⟨#[108, 105, 115, 116]⟩ zs (by omega) w (fun W i hi hW =>
  At_any hb M vs m ab hm g R 0 zs.length R ⟨hR.1, by omega⟩ (by omega) ⟨#[108, 105, 115, 116]⟩ (lead_list m 0 zs.length R hm2 hR.1 (by omega)) (wds zs ++ List.replicate (R - zs.length) zeroD) hlen hfl i hi W (hN.kept hW) (h.below hW) ((hW.block _ (hblk ha)).trans ha) ((hW.block _ (hblk hg)).trans hg) (wholeD zs[i]) (by
   rw [Nat.zero_add, List.getElem?_append_left (by rw [wds_len]; exact hi), List.getElem?_map, List.getElem?_eq_getElem hi]; rfl))
end Go.Proofs.YtdbijkgnddcneaaGreatDoor
namespace Go.Proofs.YtdbijkgnddcneaaGreatDoor
open Go.RowKit Go.ChangeMaps
set_option maxRecDepth 1000000
set_option maxHeartbeats 16000000
def secR : Nat → Code → Code
 | 0, c => c
 | k + 1, .seq _ b => secR k b
 | _, c => c
noncomputable def pieceN (k : Nat) : Code := secR k (Tryz.f3.body.getD .skip)
structure QBox (w : World) (rm : Bool) (qa qo qq n y la : Nat) : Prop where
 all : w.heap[qa]? = some (.cells #[.int .i64 5, .string ⟨#[108, 105, 115, 116]⟩, .int .i64 0, .int .u64 0, .string ⟨#[]⟩, .int .i64 1, .int .i64 0, .int .i64 (n : Int), .int .i64 (n : Int), .slice none 0 0, .slice none 0 0] 32)
 oth : w.heap[qo]? = some (.cells #[.int .i64 5, .string ⟨#[108, 105, 115, 116]⟩, .int .i64 0, .int .u64 0, .string ⟨#[]⟩, .int .i64 2, .int .i64 0, .int .i64 (n : Int), .int .i64 (n : Int), .slice none 0 0, .slice none 0 0] 32)
 q : ∃ o f c : Int, w.heap[qq]? = some (.cells #[.int .i64 5, .string ⟨#[108, 105, 115, 116]⟩, .int .i64 0, .int .u64 0, .string ⟨#[]⟩, .int .i64 o, .int .i64 f, .int .i64 ((y + la : Nat) : Int), .int .i64 c, .slice none 0 0, .slice none 0 0] 32) ∧ (rm = true → o = 1) ∧ (rm = false → o = 3 ∧ f = 0 ∧ ((y + la : Nat) : Int) ≤ c)
theorem QBox.kp {S : Nat → Prop} {w w' : World} {rm : Bool} {qa qo qq n y la : Nat} (h : QBox w rm qa qo qq n y la) (k : Kp S w w') (h1 : ¬ S qa) (h2 : ¬ S qo) (h3 : ¬ S qq) : QBox w' rm qa qo qq n y la := by
 obtain ⟨o, f, c, hq, r⟩ := h.q
 exact ⟨(k.block _ (hblk h.all) h1).trans h.all, (k.block _ (hblk h.oth) h2).trans h.oth, o, f, c, (k.block _ (hblk hq) h3).trans hq, r⟩
theorem tail25 (n x y la : Nat) (rm : Bool) (wv gv sv tv : Value) (qa qo qq : Nat) (ap : Option Addr) (ac : Nat) (u : Nat → Value) (w0 w : World) (hu : Below w0.heap.size w0 w) (hq : QBox w rm qa qo qq n y la) (hla : rm = false → 0 < la) :
  Code.wp Tryz.prog (pieceN 25) (bodyPost Tryz.prog Tryz.f3 fun r w' => r = .returned (.bool true) ∧ Below w0.heap.size w0 w') (F5 (.int .i64 (n : Int)) wv (.pointer (some ⟨qa, 0, none⟩)) (.pointer (some ⟨qo, 0, none⟩)) (.int .i64 (x : Int)) (.int .i64 ((x : Int) + y)) (.slice ap la ac) (.pointer (some ⟨qq, 0, none⟩)) gv sv tv (.bool rm) (u 40) (u 42) u) w := by
 obtain ⟨o, f, c, q, h1, h2⟩ := hq.q
 have c1 := (cells_of hq.all).1
 have c2 := (cells_of hq.oth).1
 have c3 := (cells_of q).1
 clear q hq
 have HU : Hid _ := hu
 clear hu
 cases rm with
 | true =>
  obtain rfl := h1 rfl
  clear h1 h2 hla
  try unfold F1
  try unfold F2
  try unfold F5
  try unfold F6
  conv => arg 2; whnf
  go_wp2_with fail
  go_ret
  exact ⟨rfl, HU.out⟩
 | false =>
  obtain ⟨rfl, rfl, h3⟩ := h2 rfl
  have h4 := hla rfl
  clear h1 h2 hla
  have h5 : ¬ (la : Int) = 0 := by omega
  try unfold F1
  try unfold F2
  try unfold F5
  try unfold F6
  conv => arg 2; whnf
  go_wp2_with fail
  go_ret
  exact ⟨rfl, HU.out⟩
end Go.Proofs.YtdbijkgnddcneaaGreatDoor
namespace Go.Proofs.YtdbijkgnddcneaaGreatDoor
open Go.RowKit Go.ChangeMaps
set_option maxRecDepth 1000000
set_option maxHeartbeats 16000000
def wantAt (rm : Bool) (ws as' : List Int) (x y k : Nat) : List Int := if rm then ws.take (x + y) ++ as'.take (k - y) ++ ws.drop (x + y + (k - y)) else ws
theorem wantAt_lo (rm : Bool) (ws as' : List Int) (x y k : Nat) (h : k ≤ y) : wantAt rm ws as' x y k = ws := by
 unfold wantAt
 have : k - y = 0 := by omega
 rw [this]
 cases rm <;> simp
theorem wantAt_step (ws as' : List Int) (x y k : Nat) (h : x + y + as'.length ≤ ws.length) (hk : y ≤ k) (hk2 : k < y + as'.length) : (wantAt true ws as' x y k).set (x + k) (as'.getD (k - y) 0) = wantAt true ws as' x y (k + 1) := by
 unfold wantAt
 rw [if_pos rfl, if_pos rfl]
 have e1 : k + 1 - y = (k - y) + 1 := by omega
 obtain ⟨j, hj⟩ : ∃ j, k - y = j := ⟨_, rfl⟩
 rw [e1, hj]
 have hjl : j < as'.length := by omega
 have e2 : as'.getD j 0 = as'[j] := by rw [List.getD_eq_getElem?_getD, List.getElem?_eq_getElem hjl]; rfl
 rw [e2, List.take_succ_eq_append_getElem hjl]
 have e3 : (ws.take (x + y) ++ as'.take j).length = x + k := by rw [List.length_append, List.length_take, List.length_take]; omega
 rw [List.set_append_right _ _ (by omega), e3, Nat.sub_self]
 have hd : x + y + j < ws.length := by omega
 rw [List.drop_eq_getElem_cons hd, List.set_cons_zero]
 simp only [List.append_assoc, List.cons_append, List.nil_append, Nat.add_assoc]
theorem got_lo (ws as' : List Int) (x y k : Nat) (h : x + y ≤ ws.length) (hk : k < y) : ((ws.drop x).take y ++ as').getD k 0 = ws.getD (x + k) 0 := by
 have e : ((ws.drop x).take y).length = y := by rw [List.length_take, List.length_drop]; omega
 rw [List.getD_eq_getElem?_getD, List.getD_eq_getElem?_getD, List.getElem?_append_left (by omega), List.getElem?_take_of_lt hk, List.getElem?_drop]
theorem got_hi (ws as' : List Int) (x y k : Nat) (h : x + y ≤ ws.length) (hk : y ≤ k) : ((ws.drop x).take y ++ as').getD k 0 = as'.getD (k - y) 0 := by
 have e : ((ws.drop x).take y).length = y := by rw [List.length_take, List.length_drop]; omega
 rw [List.getD_eq_getElem?_getD, List.getD_eq_getElem?_getD, List.getElem?_append_right (by omega), e]
theorem getD_at (zs : List Int) (j : Nat) (hj : j < zs.length) : zs[j] = zs.getD j 0 := by rw [List.getD_eq_getElem?_getD, List.getElem?_eq_getElem hj]; rfl
theorem nums_at {w : World} {B n g cap : Nat} {zs : List Int} (h : w.ownsRow B 3 1 (.slice (some ⟨g, 0, none⟩) n cap) n (zs.map (Value.int .i64))) (j : Nat) (hj : j < n) : w.cell? ⟨g, j, none⟩ = some (.int .i64 (zs.getD j 0)) ∧ w.frozen? ⟨g, j, none⟩ = false := by
 have hl := (nums_form h).1
 rw [← getD_at zs j (by omega)]
 exact nums_cell h j (by omega)
theorem data_at {w : World} {B g cap : Nat} {zs : List Int} (h : w.ownsRow B 32 11 (.slice (some ⟨g, 0, none⟩) zs.length cap) zs.length (rowOf (wds zs))) (j : Nat) (hj : j < zs.length) : w.cell? ⟨g, j * 11 + 2, none⟩ = some (.int .i64 (zs.getD j 0)) := by
 refine (own_cell h (j * 11 + 2) _ ?_).1
 have hj' : j < (wds zs).length := by rw [wds_len]; exact hj
 have e := rowOf_get (wds zs) j hj' 2 (by decide)
 rw [e, ← getD_at zs j hj, List.getElem_map]
 rfl
def L3Rel (n x y la : Nat) (rm : Bool) (wv : Value) (as' ws : List Int) (B : Nat) (w : World) (i : Value) (wr : World) : Prop := ∃ k : Nat, i = .int .i64 (k : Int) ∧ k ≤ y + la ∧ Kp (fun b => wv.ownBlock = some b) w wr ∧ wr.ownsRow B 3 1 wv n ((wantAt rm ws as' x y k).map (Value.int .i64))
def L3I (n x y la : Nat) (rm : Bool) (wv gv sv tv : Value) (qa qo qq : Nat) (ap : Option Addr) (ac : Nat) (as' ws : List Int) (B : Nat) (w : World) (a : Act) (wr : World) : Prop := ∃ (u : Nat → Value) (i : Value), L3Rel n x y la rm wv as' ws B w i wr ∧ a = (F5 (.int .i64 (n : Int)) wv (.pointer (some ⟨qa, 0, none⟩)) (.pointer (some ⟨qo, 0, none⟩)) (.int .i64 (x : Int)) (.int .i64 ((x : Int) + y)) (.slice ap la ac) (.pointer (some ⟨qq, 0, none⟩)) gv sv tv (.bool rm) i (u 42) u)
theorem l3_close (n x y la : Nat) (rm : Bool) (wv gv sv tv : Value) (qa qo qq : Nat) (ap : Option Addr) (ac : Nat) (as' ws : List Int) (B : Nat) (w : World) (a : Act) (wr : World) (h : L3Rel n x y la rm wv as' ws B w (a.tmps.getD 40 undef) wr) (ha : a = (F5 (.int .i64 (n : Int)) wv (.pointer (some ⟨qa, 0, none⟩)) (.pointer (some ⟨qo, 0, none⟩)) (.int .i64 (x : Int)) (.int .i64 ((x : Int) + y)) (.slice ap la ac) (.pointer (some ⟨qq, 0, none⟩)) gv sv tv (.bool rm) (a.tmps.getD 40 undef) (a.tmps.getD 42 undef) (fun k => a.tmps.getD k undef))) : L3I n x y la rm wv gv sv tv qa qo qq ap ac as' ws B w a wr := ⟨fun k => a.tmps.getD k undef, _, h, ha⟩
def L3m (n : Nat) (a : Act) (_ : World) : Nat := n - (intOf (a.tmps.getD 40 undef)).toNat
def L3E (n x y la : Nat) (rm : Bool) (wv gv sv tv : Value) (qa qo qq : Nat) (ap : Option Addr) (ac : Nat) (as' ws : List Int) (B : Nat) (w : World) (a : Act) (wr : World) : Prop := ∃ (u : Nat → Value), (Kp (fun b => wv.ownBlock = some b) w wr ∧ wr.ownsRow B 3 1 wv n ((wantAt rm ws as' x y (y + la)).map (Value.int .i64))) ∧ a = (F5 (.int .i64 (n : Int)) wv (.pointer (some ⟨qa, 0, none⟩)) (.pointer (some ⟨qo, 0, none⟩)) (.int .i64 (x : Int)) (.int .i64 ((x : Int) + y)) (.slice ap la ac) (.pointer (some ⟨qq, 0, none⟩)) gv sv tv (.bool rm) (u 40) (u 42) u)
theorem l3e_close (n x y la : Nat) (rm : Bool) (wv gv sv tv : Value) (qa qo qq : Nat) (ap : Option Addr) (ac : Nat) (as' ws : List Int) (B : Nat) (w : World) (a : Act) (wr : World) (h : Kp (fun b => wv.ownBlock = some b) w wr ∧ wr.ownsRow B 3 1 wv n ((wantAt rm ws as' x y (y + la)).map (Value.int .i64))) (ha : a = (F5 (.int .i64 (n : Int)) wv (.pointer (some ⟨qa, 0, none⟩)) (.pointer (some ⟨qo, 0, none⟩)) (.int .i64 (x : Int)) (.int .i64 ((x : Int) + y)) (.slice ap la ac) (.pointer (some ⟨qq, 0, none⟩)) gv sv tv (.bool rm) (a.tmps.getD 40 undef) (a.tmps.getD 42 undef) (fun k => a.tmps.getD k undef))) : L3E n x y la rm wv gv sv tv qa qo qq ap ac as' ws B w a wr := ⟨fun k => a.tmps.getD k undef, h, ha⟩
theorem loop3 (n x y la : Nat) (rm : Bool) (wv gv sv tv : Value) (qa qo qq : Nat) (ap : Option Addr) (ac : Nat) (as' ws : List Int) (B : Nat) (gg cg : Nat) (hgv : gv = .slice (some ⟨gg, 0, none⟩) (y + la) cg) (w : World) (hn : n ≤ 40) (hxy : x + y ≤ n) (hla : as'.length = la) (hla3 : la ≤ 30) (hws : ws.length = n) (hrm : rm = decide (x + y + la ≤ n)) (lg : gg < w.heap.size)
  (hgne : wv.ownBlock ≠ some gg) (hgot : ∀ j : Nat, j < y + la → w.cell? ⟨gg, j, none⟩ = some (.int .i64 (((ws.drop x).take y ++ as').getD j 0)))
  (hadd : ∀ j : Nat, j < la → ∃ ga, ap = some ⟨ga, 0, none⟩ ∧ ga < w.heap.size ∧ wv.ownBlock ≠ some ga ∧ ∀ j, j < la → w.cell? ⟨ga, j * 11 + 2, none⟩ = some (.int .i64 (as'.getD j 0)))
  (K : Act → World → Prop) (QQ : Exit → Act → World → Prop)
  (hK : ∀ (a : Act) (wr : World), L3E n x y la rm wv gv sv tv qa qo qq ap ac as' ws B w a wr → K a wr) (a1 : Act) (hI : L3I n x y la rm wv gv sv tv qa qo qq ap ac as' ws B w a1 w) :
  Code.wp Tryz.prog (Code.loop (bodyN 2)) (Exit.inBlock 4 (Exit.then K QQ)) a1 w := by
 subst hgv
 have HRM : Hid _ := hrm
 clear hrm
 have HK : Hid _ := hK
 clear hK
 refine wp_loop (L3I n x y la rm wv (.slice (some ⟨gg, 0, none⟩) (y + la) cg) sv tv qa qo qq ap ac as' ws B w) (L3m (y + la)) hI (fun a0 wr hGI => ?_)
 clear hI
 obtain ⟨u, i, ⟨k, rfl, hk, hkp, ow⟩, rfl⟩ := hGI
 have OW : Hid (wr.ownsRow B 3 1 wv n ((wantAt rm ws as' x y k).map (Value.int .i64))) := ow
 clear ow
 have e1 : (x : Int) + y - x = y := by omega
 try unfold F1
 try unfold F2
 try unfold F5
 try unfold F6
 conv => arg 2; whnf
 by_cases hlt : k < y + la
 ·have hG : wr.cell? ⟨gg, k, none⟩ = some (.int .i64 (((ws.drop x).take y ++ as').getD k 0)) := (World.cell?_of_block (hkp.block gg lg hgne)).trans (hgot k hlt)
  have j1 : (k : Int) < ((y + la : Nat) : Int) := by omega
  have j0 : (0 : Int) ≤ (k : Int) := by omega
  by_cases hky : k < y
  ·obtain ⟨gw, cw, rfl, -, lw, -⟩ := nums_open OW.out (by omega)
   have hw0 := OW.out
   rw [wantAt_lo rm ws as' x y k (by omega)] at hw0
   have hWc := (nums_at hw0 (x + k) (by omega)).1
   clear hw0
   rw [got_lo ws as' x y k (by omega) hky] at hG
   obtain ⟨z, hz⟩ : ∃ z, ws.getD (x + k) 0 = z := ⟨_, rfl⟩
   rw [hz] at hG hWc
   clear hz
   have j2 : (k : Int) < (y : Int) := by omega
   have j3 : (x : Int) + k < (n : Int) := by omega
   have j4 : (0 : Int) ≤ (x : Int) + k := by omega
   have HW2 : Hid (wr.ownsRow B 3 1 (.slice (some ⟨gw, 0, none⟩) n cw) n ((wantAt rm ws as' x y (k + 1)).map (Value.int .i64))) := by
    have := OW.out
    rw [wantAt_lo rm ws as' x y k (by omega)] at this
    show World.ownsRow _ _ _ _ _ _ _
    rw [wantAt_lo rm ws as' x y (k + 1) (by omega)]
    exact this
   clear OW
   go_wp2_with fail
   exact ⟨l3_close _ _ _ _ _ _ _ _ _ _ _ _ _ _ _ _ _ _ _ _ ⟨k + 1, by simp, by omega, hkp, HW2.out⟩ rfl, by simp [L3m, intOf]; omega⟩
  ·obtain ⟨j, HJ, hjl⟩ : ∃ j : Nat, Hid (k = y + j) ∧ j < la := ⟨k - y, by show _ = _; omega, by omega⟩
   obtain ⟨ga, rfl, lga, hga, hAc⟩ := hadd j hjl
   have hA : wr.cell? ⟨ga, j * 11 + 2, none⟩ = some (.int .i64 (as'.getD j 0)) := (World.cell?_of_block (hkp.block ga lga hga)).trans (hAc j hjl)
   clear hAc
   rw [got_hi ws as' x y k (by omega) (by omega), show k - y = j by have := HJ.out; omega] at hG
   have HS : Hid (rm = true → (wantAt rm ws as' x y k).set (x + k) (as'.getD j 0) = wantAt rm ws as' x y (k + 1)) := fun h => by
    have h2 := HRM.out
    rw [h] at h2 ⊢
    have := wantAt_step ws as' x y k (by have := of_decide_eq_true h2.symm; omega) (by omega) (by omega)
    rwa [show k - y = j by have := HJ.out; omega] at this
   have HS2 : Hid (rm = false → wantAt rm ws as' x y k = wantAt rm ws as' x y (k + 1)) := fun h => by rw [h]; rfl
   obtain ⟨z, hz⟩ : ∃ z, as'.getD j 0 = z := ⟨_, rfl⟩
   rw [hz] at hG hA HS
   clear hz
   have e2 : (k : Int) - ((x : Int) + y) + x = (j : Int) := by have := HJ.out; omega
   have j2 : ¬ (k : Int) < (y : Int) := by omega
   have j5 : (j : Int) < (la : Int) := by omega
   have j6 : (0 : Int) ≤ (j : Int) := by omega
   cases rm with
   | true =>
    have hroom := of_decide_eq_true HRM.out.symm
    have hle : x + k < n := by omega
    obtain ⟨gw, cw, rfl, -, lw, -⟩ := nums_open OW.out (by omega)
    have hWc := nums_at OW.out (x + k) hle
    have hgg : gg ≠ gw := fun e => hgne (by rw [e]; rfl)
    have hG2 : (wr.setCell ⟨gw, x + k, none⟩ (.int .i64 z)).cell? ⟨gg, k, none⟩ = some (.int .i64 z) := (World.cell?_of_block ((set_kp wr gw (x + k) (.int .i64 z)).block gg (Nat.lt_of_lt_of_le lg hkp.size) hgg)).trans hG
    have OWX : Hid ((wr.setCell ⟨gw, x + k, none⟩ (.int .i64 z)).ownsRow B 3 1 (.slice (some ⟨gw, 0, none⟩) n cw) n ((wantAt true ws as' x y (k + 1)).map (Value.int .i64))) := by
     have := nums_set OW.out (x + k) z
     rw [HS.out rfl] at this
     exact this
    have KPX : Hid (Kp (fun b => (Value.slice (some ⟨gw, 0, none⟩) n cw).ownBlock = some b) w (wr.setCell ⟨gw, x + k, none⟩ (.int .i64 z))) := hkp.trans (set_kp wr gw (x + k) (.int .i64 z)) (fun b _ e => by subst e; rfl)
    have hf := hWc.2
    have hc := hWc.1
    have j3 : (x : Int) + k < (n : Int) := by omega
    have j4 : (0 : Int) ≤ (x : Int) + k := by omega
    clear OW HS HS2 hWc hkp HRM hG
    go_wp2_with fail
    exact ⟨l3_close _ _ _ _ _ _ _ _ _ _ _ _ _ _ _ _ _ _ _ _ ⟨k + 1, by simp, by omega, KPX.out, OWX.out⟩ rfl, by simp [L3m, intOf]; omega⟩
   | false =>
    have HW2 : Hid (wr.ownsRow B 3 1 wv n ((wantAt false ws as' x y (k + 1)).map (Value.int .i64))) := by
     show World.ownsRow _ _ _ _ _ _ _
     rw [← HS2.out rfl]
     exact OW.out
    clear OW HS HS2 HRM
    go_wp2_with fail
    exact ⟨l3_close _ _ _ _ _ _ _ _ _ _ _ _ _ _ _ _ _ _ _ _ ⟨k + 1, by simp, by omega, hkp, HW2.out⟩ rfl, by simp [L3m, intOf]; omega⟩
 ·obtain rfl : k = y + la := by omega
  have HX : Hid (Kp (fun b => wv.ownBlock = some b) w wr ∧ wr.ownsRow B 3 1 wv n ((wantAt rm ws as' x y (y + la)).map (Value.int .i64))) := ⟨hkp, OW.out⟩
  clear OW hkp hlt
  go_wp2_with fail
  exact HK.out _ _ (l3e_close _ _ _ _ _ _ _ _ _ _ _ _ _ _ _ _ _ _ _ _ HX.out rfl)
end Go.Proofs.YtdbijkgnddcneaaGreatDoor
namespace Go.Proofs.YtdbijkgnddcneaaGreatDoor
open Go.RowKit Go.ChangeMaps
set_option maxRecDepth 1000000
set_option maxHeartbeats 16000000
def L4I (n x y la : Nat) (rm : Bool) (gv : Value) (gw cw gs cs gt ct : Nat) (qa qo qq : Nat) (ap : Option Addr) (ac : Nat) (w : World) (a : Act) (wr : World) : Prop := ∃ (u : Nat → Value) (i : Value), (∃ k : Nat, i = .int .i64 (k : Int) ∧ k ≤ n ∧ Below w.heap.size w wr) ∧ a = (F5 (.int .i64 (n : Int)) (.slice (some ⟨gw, 0, none⟩) n cw) (.pointer (some ⟨qa, 0, none⟩)) (.pointer (some ⟨qo, 0, none⟩)) (.int .i64 (x : Int)) (.int .i64 ((x : Int) + y)) (.slice ap la ac) (.pointer (some ⟨qq, 0, none⟩)) gv (.slice (some ⟨gs, 0, none⟩) n cs) (.slice (some ⟨gt, 0, none⟩) n ct) (.bool rm) (u 40) i u)
theorem l4_close (n x y la : Nat) (rm : Bool) (gv : Value) (gw cw gs cs gt ct : Nat) (qa qo qq : Nat) (ap : Option Addr) (ac : Nat) (w : World) (a : Act) (wr : World) (h : ∃ k : Nat, (a.tmps.getD 42 undef) = .int .i64 (k : Int) ∧ k ≤ n ∧ Below w.heap.size w wr) (ha : a = (F5 (.int .i64 (n : Int)) (.slice (some ⟨gw, 0, none⟩) n cw) (.pointer (some ⟨qa, 0, none⟩)) (.pointer (some ⟨qo, 0, none⟩)) (.int .i64 (x : Int)) (.int .i64 ((x : Int) + y)) (.slice ap la ac) (.pointer (some ⟨qq, 0, none⟩)) gv (.slice (some ⟨gs, 0, none⟩) n cs) (.slice (some ⟨gt, 0, none⟩) n ct) (.bool rm) (a.tmps.getD 40 undef) (a.tmps.getD 42 undef) (fun k => a.tmps.getD k undef))) : L4I n x y la rm gv gw cw gs cs gt ct qa qo qq ap ac w a wr := ⟨fun k => a.tmps.getD k undef, _, h, ha⟩
def L4m (n : Nat) (a : Act) (_ : World) : Nat := n - (intOf (a.tmps.getD 42 undef)).toNat
def L4E (n x y la : Nat) (rm : Bool) (gv : Value) (gw cw gs cs gt ct : Nat) (qa qo qq : Nat) (ap : Option Addr) (ac : Nat) (w : World) (a : Act) (wr : World) : Prop := ∃ (u : Nat → Value), Below w.heap.size w wr ∧ a = (F5 (.int .i64 (n : Int)) (.slice (some ⟨gw, 0, none⟩) n cw) (.pointer (some ⟨qa, 0, none⟩)) (.pointer (some ⟨qo, 0, none⟩)) (.int .i64 (x : Int)) (.int .i64 ((x : Int) + y)) (.slice ap la ac) (.pointer (some ⟨qq, 0, none⟩)) gv (.slice (some ⟨gs, 0, none⟩) n cs) (.slice (some ⟨gt, 0, none⟩) n ct) (.bool rm) (u 40) (u 42) u)
theorem l4e_close (n x y la : Nat) (rm : Bool) (gv : Value) (gw cw gs cs gt ct : Nat) (qa qo qq : Nat) (ap : Option Addr) (ac : Nat) (w : World) (a : Act) (wr : World) (h : Below w.heap.size w wr) (ha : a = (F5 (.int .i64 (n : Int)) (.slice (some ⟨gw, 0, none⟩) n cw) (.pointer (some ⟨qa, 0, none⟩)) (.pointer (some ⟨qo, 0, none⟩)) (.int .i64 (x : Int)) (.int .i64 ((x : Int) + y)) (.slice ap la ac) (.pointer (some ⟨qq, 0, none⟩)) gv (.slice (some ⟨gs, 0, none⟩) n cs) (.slice (some ⟨gt, 0, none⟩) n ct) (.bool rm) (a.tmps.getD 40 undef) (a.tmps.getD 42 undef) (fun k => a.tmps.getD k undef))) : L4E n x y la rm gv gw cw gs cs gt ct qa qo qq ap ac w a wr := ⟨fun k => a.tmps.getD k undef, h, ha⟩
theorem loop4 (n x y la : Nat) (rm : Bool) (gv : Value) (gw cw gs cs gt ct : Nat) (qa qo qq : Nat) (ap : Option Addr) (ac : Nat) (z : Nat → Int) (w : World) (hn : n ≤ 40) (h1 : gs < w.heap.size) (h2 : gw < w.heap.size) (h3 : gt < w.heap.size) (hc : (∀ j : Nat, j < n → w.cell? ⟨gs, j, none⟩ = some (.int .i64 (z j))) ∧ (∀ j : Nat, j < n → w.cell? ⟨gw, j, none⟩ = some (.int .i64 (z j))) ∧ (∀ j : Nat, j < n → w.cell? ⟨gt, j, none⟩ = some (.int .i64 (j : Int))))
  (K : Act → World → Prop) (QQ : Exit → Act → World → Prop)
  (hK : ∀ (a : Act) (wr : World), L4E n x y la rm gv gw cw gs cs gt ct qa qo qq ap ac w a wr → K a wr) (a1 : Act) (hI : L4I n x y la rm gv gw cw gs cs gt ct qa qo qq ap ac w a1 w) :
  Code.wp Tryz.prog (Code.loop (bodyN 3)) (Exit.inBlock 6 (Exit.then K QQ)) a1 w := by
 have HK : Hid _ := hK
 clear hK
 have HC : Hid (∀ W, Below w.heap.size w W → (∀ j : Nat, j < n → W.cell? ⟨gs, j, none⟩ = some (.int .i64 (z j))) ∧ (∀ j : Nat, j < n → W.cell? ⟨gw, j, none⟩ = some (.int .i64 (z j))) ∧ (∀ j : Nat, j < n → W.cell? ⟨gt, j, none⟩ = some (.int .i64 (j : Int)))) := fun W hW => ⟨fun j hj => (hW.cell (p := ⟨gs, j, none⟩) h1).trans (hc.1 j hj), fun j hj => (hW.cell (p := ⟨gw, j, none⟩) h2).trans (hc.2.1 j hj), fun j hj => (hW.cell (p := ⟨gt, j, none⟩) h3).trans (hc.2.2 j hj)⟩
 clear hc
 refine wp_loop (L4I n x y la rm gv gw cw gs cs gt ct qa qo qq ap ac w) (L4m n) hI (fun a0 wr hGI => ?_)
 clear hI
 obtain ⟨u, i, ⟨k, rfl, hk, hb1⟩, rfl⟩ := hGI
 try unfold F1
 try unfold F2
 try unfold F5
 try unfold F6
 conv => arg 2; whnf
 by_cases hlt : k < n
 ·have j1 : (k : Int) < (n : Int) := by omega
  have j0 : (0 : Int) ≤ (k : Int) := by omega
  go_wp2_with fail
  refine rg (S := fun W => (∀ j : Nat, j < n → W.cell? ⟨gs, j, none⟩ = some (.int .i64 (z j))) ∧ (∀ j : Nat, j < n → W.cell? ⟨gw, j, none⟩ = some (.int .i64 (z j))) ∧ (∀ j : Nat, j < n → W.cell? ⟨gt, j, none⟩ = some (.int .i64 (j : Int)))) (fun U1 hB4 HU1 => ?_)
  have hS : (∀ j : Nat, j < n → U1.cell? ⟨gs, j, none⟩ = some (.int .i64 (z j))) ∧ (∀ j : Nat, j < n → U1.cell? ⟨gw, j, none⟩ = some (.int .i64 (z j))) ∧ (∀ j : Nat, j < n → U1.cell? ⟨gt, j, none⟩ = some (.int .i64 (j : Int))) := HC.out _ (hb1.trans (hB4.mono hb1.size))
  refine tq 0 (.slice (some ⟨gs, 0, none⟩) n cs) rfl hS ?_
  simp only [sa, sb, Act.put, sd, se, sf]
  refine tq 1 (.int .i64 (k : Int)) rfl hS ?_
  simp only [sa, sb, sc, Act.put, sd, se, sf]
  refine tk 2 (.pointer (some ⟨gs, k, none⟩)) rfl (.inl ⟨by rfl, ?r⟩) hS ?_
  case r => intro W hW; simp [go_sem, execOp, Act.eval, j1, j0]
  simp only [sa, sb, sc, Act.put, sd, se, sf]
  refine tk 3 (.int .i64 (z k)) rfl (.inl ⟨by rfl, ?r⟩) hS ?_
  case r => intro W hW; simp [go_sem, execOp, Act.eval, hW.1 k hlt]
  simp only [sa, sb, sc, Act.put, sd, se, sf]
  refine tq 4 (.slice (some ⟨gw, 0, none⟩) n cw) rfl hS ?_
  simp only [sa, sb, sc, Act.put, sd, se, sf]
  refine tq 5 (.int .i64 (k : Int)) rfl hS ?_
  simp only [sa, sb, sc, Act.put, sd, se, sf]
  refine tk 6 (.pointer (some ⟨gw, k, none⟩)) rfl (.inl ⟨by rfl, ?r⟩) hS ?_
  case r => intro W hW; simp [go_sem, execOp, Act.eval, j1, j0]
  simp only [sa, sb, sc, Act.put, sd, se, sf]
  refine tk 7 (.int .i64 (z k)) rfl (.inl ⟨by rfl, ?r⟩) hS ?_
  case r => intro W hW; simp [go_sem, execOp, Act.eval, hW.2.1 k hlt]
  simp only [sa, sb, sc, Act.put, sd, se, sf]
  refine tq 8 (.bool false) rfl hS ?_
  simp only [sa, sb, sc, Act.put, sd, se, sf]
  refine tq 9 (.bool false) rfl hS ?_
  simp only [sa, sb, sc, Act.put, sd, se, sf]
  refine tq 10 (.slice (some ⟨gt, 0, none⟩) n ct) rfl hS ?_
  simp only [sa, sb, sc, Act.put, sd, se, sf]
  refine tq 11 (.int .i64 (k : Int)) rfl hS ?_
  simp only [sa, sb, sc, Act.put, sd, se, sf]
  refine tk 12 (.pointer (some ⟨gt, k, none⟩)) rfl (.inl ⟨by rfl, ?r⟩) hS ?_
  case r => intro W hW; simp [go_sem, execOp, Act.eval, j1, j0]
  simp only [sa, sb, sc, Act.put, sd, se, sf]
  refine tk 13 (.int .i64 (k : Int)) rfl (.inl ⟨by rfl, ?r⟩) hS ?_
  case r => intro W hW; simp [go_sem, execOp, Act.eval, hW.2.2 k hlt]
  simp only [sa, sb, sc, Act.put, sd, se, sf]
  refine tq 14 (.int .i64 (k : Int)) rfl hS ?_
  simp only [sa, sb, sc, Act.put, sd, se, sf]
  refine tq 15 (.bool false) rfl hS ?_
  simp only [sa, sb, sc, Act.put, sd, se, sf]
  refine tq 16 (.bool false) rfl hS ?_
  simp only [sa, sb, sc, Act.put, sd, se, sf]
  have hb2 : Below w.heap.size w U1 := hb1.trans (hB4.mono hb1.size)
  clear HU1 hB4 hS hb1
  refine dn ?_
  try simp only [Act.put]
  go_wp2_with fail
  exact ⟨l4_close _ _ _ _ _ _ _ _ _ _ _ _ _ _ _ _ _ _ _ _ ⟨k + 1, by simp, by omega, hb2⟩ rfl, by simp [L4m, intOf]; omega⟩
 ·have j1 : ¬ (k : Int) < (n : Int) := by omega
  go_wp2_with fail
  exact HK.out _ _ (l4e_close _ _ _ _ _ _ _ _ _ _ _ _ _ _ _ _ _ _ _ _ hb1 rfl)
end Go.Proofs.YtdbijkgnddcneaaGreatDoor
namespace Go.Proofs.YtdbijkgnddcneaaGreatDoor
open Go.RowKit Go.ChangeMaps
set_option maxRecDepth 1000000
set_option maxHeartbeats 16000000
theorem getD_of (zs : List Int) (j : Nat) (hj : j < zs.length) : zs[j] = zs.getD j 0 := by rw [List.getD_eq_getElem?_getD, List.getElem?_eq_getElem hj]; rfl
theorem nums_cells {w : World} {B n g cap : Nat} {zs : List Int} (h : w.ownsRow B 3 1 (.slice (some ⟨g, 0, none⟩) n cap) n (zs.map (Value.int .i64))) : ∀ j : Nat, j < n → w.cell? ⟨g, j, none⟩ = some (.int .i64 (zs.getD j 0)) := fun j hj => by
 have hl := (nums_form h).1
 rw [← getD_of zs j (by omega)]
 exact (nums_cell h j (by omega)).1
theorem ints_getD (n j : Nat) (hj : j < n) : (ints n).getD j 0 = (j : Int) := by
 unfold ints
 rw [List.getD_eq_getElem?_getD, List.getElem?_map, List.getElem?_range hj]
 rfl
def E5 (n x y la : Nat) (rm : Bool) (wv gv sv tv : Value) (qa qo qq : Nat) (ap : Option Addr) (ac : Nat) (a : Act) : Prop := ∃ u : Nat → Value, a = (F5 (.int .i64 (n : Int)) wv (.pointer (some ⟨qa, 0, none⟩)) (.pointer (some ⟨qo, 0, none⟩)) (.int .i64 (x : Int)) (.int .i64 ((x : Int) + y)) (.slice ap la ac) (.pointer (some ⟨qq, 0, none⟩)) gv sv tv (.bool rm) (u 40) (u 42) u)
theorem e5_close (n x y la : Nat) (rm : Bool) (wv gv sv tv : Value) (qa qo qq : Nat) (ap : Option Addr) (ac : Nat) (a : Act) (ha : a = (F5 (.int .i64 (n : Int)) wv (.pointer (some ⟨qa, 0, none⟩)) (.pointer (some ⟨qo, 0, none⟩)) (.int .i64 (x : Int)) (.int .i64 ((x : Int) + y)) (.slice ap la ac) (.pointer (some ⟨qq, 0, none⟩)) gv sv tv (.bool rm) (a.tmps.getD 40 undef) (a.tmps.getD 42 undef) (fun k => a.tmps.getD k undef))) : E5 n x y la rm wv gv sv tv qa qo qq ap ac a := ⟨fun k => a.tmps.getD k undef, ha⟩
theorem tail24_none (x y la : Nat) (rm : Bool) (wv gv sv tv : Value) (qa qo qq : Nat) (ap : Option Addr) (ac : Nat) (u : Nat → Value) (w0 w : World) (hu : Below w0.heap.size w0 w) (hq : QBox w rm qa qo qq 0 y la) (hla : rm = false → 0 < la) :
  Code.wp Tryz.prog (pieceN 24) (bodyPost Tryz.prog Tryz.f3 fun r w' => r = .returned (.bool true) ∧ Below w0.heap.size w0 w') (F5 (.int .i64 ((0 : Nat) : Int)) wv (.pointer (some ⟨qa, 0, none⟩)) (.pointer (some ⟨qo, 0, none⟩)) (.int .i64 (x : Int)) (.int .i64 ((x : Int) + y)) (.slice ap la ac) (.pointer (some ⟨qq, 0, none⟩)) gv sv tv (.bool rm) (u 40) (u 42) u) w := by
 have HE : Hid (∀ a, E5 0 x y la rm wv gv sv tv qa qo qq ap ac a → Code.wp Tryz.prog (pieceN 25) (bodyPost Tryz.prog Tryz.f3 fun r w' => r = .returned (.bool true) ∧ Below w0.heap.size w0 w') a w) := fun a ⟨u, e⟩ => by
  rw [e]
  exact tail25 0 x y la rm wv gv sv tv qa qo qq ap ac u w0 w hu hq hla
 clear hu hq hla
 try unfold F1
 try unfold F2
 try unfold F5
 try unfold F6
 conv => arg 2; whnf
 refine wp_seq_k ?_
 intro K hK
 have HK : Hid (∀ (a : Act) (w : World), Code.wp Tryz.prog (pieceN 25) (bodyPost Tryz.prog Tryz.f3 fun r w' => r = .returned (.bool true) ∧ Below w0.heap.size w0 w') a w → K a w) := hK
 clear hK
 go_wp2_with fail
 refine wp_loop_rounds 1 ?_
 rw [rounds_succ]
 go_wp2_with fail
 exact HK.out _ _ (HE.out _ (e5_close _ _ _ _ _ _ _ _ _ _ _ _ _ _ _ rfl))
theorem tail24_some (n x y la : Nat) (rm : Bool) (gv : Value) (gw cw gs cs gt ct : Nat) (qa qo qq : Nat) (ap : Option Addr) (ac : Nat) (u : Nat → Value) (w0 w : World) (hu : Below w0.heap.size w0 w) (hq : QBox w rm qa qo qq n y la) (hla : rm = false → 0 < la) (hn : n ≤ 40) (z : Nat → Int) (ls : gs < w.heap.size) (lw : gw < w.heap.size) (lt : gt < w.heap.size) (hc : (∀ j : Nat, j < n → w.cell? ⟨gs, j, none⟩ = some (.int .i64 (z j))) ∧ (∀ j : Nat, j < n → w.cell? ⟨gw, j, none⟩ = some (.int .i64 (z j))) ∧ (∀ j : Nat, j < n → w.cell? ⟨gt, j, none⟩ = some (.int .i64 (j : Int)))) :
  Code.wp Tryz.prog (pieceN 24) (bodyPost Tryz.prog Tryz.f3 fun r w' => r = .returned (.bool true) ∧ Below w0.heap.size w0 w') (F5 (.int .i64 (n : Int)) (.slice (some ⟨gw, 0, none⟩) n cw) (.pointer (some ⟨qa, 0, none⟩)) (.pointer (some ⟨qo, 0, none⟩)) (.int .i64 (x : Int)) (.int .i64 ((x : Int) + y)) (.slice ap la ac) (.pointer (some ⟨qq, 0, none⟩)) gv (.slice (some ⟨gs, 0, none⟩) n cs) (.slice (some ⟨gt, 0, none⟩) n ct) (.bool rm) (u 40) (u 42) u) w := by
 have HE : Hid (∀ (a : Act) (wr : World), L4E n x y la rm gv gw cw gs cs gt ct qa qo qq ap ac w a wr → Code.wp Tryz.prog (pieceN 25) (bodyPost Tryz.prog Tryz.f3 fun r w' => r = .returned (.bool true) ∧ Below w0.heap.size w0 w') a wr) := fun a wr ⟨u, hb, ha⟩ => by
  rw [ha]
  exact tail25 n x y la rm _ gv _ _ qa qo qq ap ac u w0 wr (hu.trans (hb.mono hu.size)) (hq.kp (Kp.of (S := fun _ => False) hb) id id id) hla
 clear hu hq hla
 have HC : Hid _ := hc
 clear hc
 try unfold F1
 try unfold F2
 try unfold F5
 try unfold F6
 conv => arg 2; whnf
 refine wp_seq_k ?_
 intro K hK
 have HK : Hid (∀ (a : Act) (w : World), Code.wp Tryz.prog (pieceN 25) (bodyPost Tryz.prog Tryz.f3 fun r w' => r = .returned (.bool true) ∧ Below w0.heap.size w0 w') a w → K a w) := hK
 clear hK
 go_wp2_with fail
 exact loop4 n x y la rm gv gw cw gs cs gt ct qa qo qq ap ac _ w hn ls lw lt HC.out _ _ (fun a wr h => HK.out _ _ (HE.out a wr h)) _ (l4_close _ _ _ _ _ _ _ _ _ _ _ _ _ _ _ _ _ _ _ _ ⟨0, rfl, Nat.zero_le _, Below.refl _ _⟩ rfl)
theorem tail24 (n x y la : Nat) (rm : Bool) (wv gv sv tv : Value) (qa qo qq : Nat) (ap : Option Addr) (ac : Nat) (u : Nat → Value) (w0 w : World) (hu : Below w0.heap.size w0 w) (hq : QBox w rm qa qo qq n y la) (hla : rm = false → 0 < la) (hn : n ≤ 40) (B1 B2 B3 : Nat) (zs : List Int) (ow : w.ownsRow B1 3 1 wv n (zs.map (Value.int .i64))) (os : w.ownsRow B2 3 1 sv n (zs.map (Value.int .i64))) (ot : w.ownsRow B3 3 1 tv n ((ints n).map (Value.int .i64))) :
  Code.wp Tryz.prog (pieceN 24) (bodyPost Tryz.prog Tryz.f3 fun r w' => r = .returned (.bool true) ∧ Below w0.heap.size w0 w') (F5 (.int .i64 (n : Int)) wv (.pointer (some ⟨qa, 0, none⟩)) (.pointer (some ⟨qo, 0, none⟩)) (.int .i64 (x : Int)) (.int .i64 ((x : Int) + y)) (.slice ap la ac) (.pointer (some ⟨qq, 0, none⟩)) gv sv tv (.bool rm) (u 40) (u 42) u) w := by
 rcases Nat.eq_zero_or_pos n with h0 | h0
 ·subst h0
  exact tail24_none x y la rm wv gv sv tv qa qo qq ap ac u w0 w hu hq hla
 ·obtain ⟨gw, cw, rfl, -, lw, -⟩ := nums_open ow h0
  obtain ⟨gs, cs, rfl, -, ls, -⟩ := nums_open os h0
  obtain ⟨gt, ct, rfl, -, lt, -⟩ := nums_open ot h0
  exact tail24_some n x y la rm gv gw cw gs cs gt ct qa qo qq ap ac u w0 w hu hq hla hn _ ls lw lt (And.intro (nums_cells os) (And.intro (nums_cells ow) (fun j hj => (nums_cells ot j hj).trans (by rw [ints_getD n j hj]))))
end Go.Proofs.YtdbijkgnddcneaaGreatDoor
namespace Go.Proofs.YtdbijkgnddcneaaGreatDoor
open Go.RowKit Go.ChangeMaps
set_option maxRecDepth 1000000
set_option maxHeartbeats 16000000
theorem own_kpS {S : Nat → Prop} {w w' : World} {B : Nat} {e : TypeId} {z n : Nat} {v : Value} {xs : List Value} (h : w.ownsRow B e z v n xs) (k : Kp S w w') (hS : ∀ g, B ≤ g → v.ownBlock = some g → ¬ S g) : w'.ownsRow B e z v n xs := by
 refine ⟨h.1, ?_⟩
 rcases h.2 with h0 | ⟨g, cap, cur, hv, hg1, hh, r⟩
 ·exact .inl h0
 ·exact .inr ⟨g, cap, cur, hv, hg1, (k.block g (Array.getElem?_eq_some_iff.1 hh).1 (hS g hg1 (by rw [hv]; rfl))).trans hh, r⟩
theorem box_ne {w : World} {B n g : Nat} {v : Value} {xs : List Value} {cs : Array Value} (h : w.ownsRow B 3 1 v n xs) (hb : w.heap[g]? = some (.cells cs 32)) : ¬ v.ownBlock = some g := fun e => by
 rcases h.2 with ⟨rfl, _⟩ | ⟨g1, c1, cur1, rfl, _, hh1, _⟩
 ·cases e
 ·simp only [Value.ownBlock, Option.some.injEq] at e
  rw [e, hb] at hh1
  simp at hh1
theorem QBox.want {w w' : World} {rm : Bool} {qa qo qq n y la B m : Nat} {v : Value} {xs : List Value} (h : QBox w rm qa qo qq n y la) (ow : w.ownsRow B 3 1 v m xs) (k : Kp (fun b => v.ownBlock = some b) w w') : QBox w' rm qa qo qq n y la := by
 obtain ⟨o, f, c, hq, _⟩ := h.q
 exact h.kp k (box_ne ow h.all) (box_ne ow h.oth) (box_ne ow hq)
theorem row_cells {w : World} {B la ac : Nat} {ap : Option Addr} {as' : List Int} (hal : as'.length = la) (oa : w.ownsRow B 32 11 (.slice ap la ac) la (rowOf (wds as'))) {B' n : Nat} {wv : Value} {xs : List Value} (ow : w.ownsRow B' 3 1 wv n xs) : ∀ j : Nat, j < la → ∃ ga, ap = some ⟨ga, 0, none⟩ ∧ ga < w.heap.size ∧ wv.ownBlock ≠ some ga ∧ ∀ j, j < la → w.cell? ⟨ga, j * 11 + 2, none⟩ = some (.int .i64 (as'.getD j 0)) := fun j hj => by
 subst hal
 have oa' := oa
 rcases oa.2 with ⟨_, h0⟩ | ⟨g, cap, cur, hv, hg1, hh, r⟩
 ·omega
 ·cases hv
  exact ⟨g, rfl, hblk hh, box_ne ow hh, fun i hi => data_at oa' i hi⟩
theorem after3 (n x y la : Nat) (rm : Bool) (wv gv sv tv : Value) (qa qo qq : Nat) (ap : Option Addr) (ac : Nat) (w0 w : World) (hu : Below w0.heap.size w0 w) (hq : QBox w rm qa qo qq n y la) (hla : rm = false → 0 < la) (hn : n ≤ 40) (B Bg Bs Bt Ba : Nat) (as' ws : List Int) (_hxy : x + y ≤ n) (_hal : as'.length = la) (_hla3 : la ≤ 30) (_hws : ws.length = n) (_hrm : rm = decide (x + y + la ≤ n)) (hB0 : w0.heap.size ≤ B) (ow : w.ownsRow B 3 1 wv n (ws.map (Value.int .i64))) (_og : w.ownsRow Bg 3 1 gv (y + la) (((ws.drop x).take y ++ as').map (Value.int .i64))) (os : w.ownsRow Bs 3 1 sv n ((wantAt rm ws as' x y (y + la)).map (Value.int .i64))) (ot : w.ownsRow Bt 3 1 tv n ((ints n).map (Value.int .i64))) (_oa : w.ownsRow Ba 32 11 (.slice ap la ac) la (rowOf (wds as'))) (hgB : ∀ g, wv.ownBlock = some g → g < Bg ∧ g < Bs ∧ g < Bt) (a : Act) (wr : World) (h : L3E n x y la rm wv gv sv tv qa qo qq ap ac as' ws B w a wr) : Code.wp Tryz.prog (pieceN 24) (bodyPost Tryz.prog Tryz.f3 fun r w' => r = .returned (.bool true) ∧ Below w0.heap.size w0 w') a wr := by
 obtain ⟨u, ⟨k, o⟩, rfl⟩ := h
 refine tail24 n x y la rm wv gv sv tv qa qo qq ap ac u w0 wr (hu.trans (k.below hu.size fun i hi e => ?_)) (hq.want ow k) hla hn B Bs Bt _ o (own_kpS os k fun g hg _ e => ?_) (own_kpS ot k fun g hg _ e => ?_)
 ·have := (ow.lt i e).1; omega
 ·have := hgB g e; omega
 ·have := hgB g e; omega
theorem tail23_none (n x y la : Nat) (rm : Bool) (wv sv tv : Value) (qa qo qq : Nat) (ap : Option Addr) (ac : Nat) (gp : Option Addr) (yl gc : Nat) (hyl : yl = 0) (u : Nat → Value) (w0 w : World) (as' ws : List Int) (B : Nat)
  (h : ∀ (a : Act) (wr : World), L3E n x y la rm wv (.slice gp yl gc) sv tv qa qo qq ap ac as' ws B w a wr → Code.wp Tryz.prog (pieceN 24) (bodyPost Tryz.prog Tryz.f3 fun r w' => r = .returned (.bool true) ∧ Below w0.heap.size w0 w') a wr) (ho : w.ownsRow B 3 1 wv n ((wantAt rm ws as' x y (y + la)).map (Value.int .i64))) :
  Code.wp Tryz.prog (pieceN 23) (bodyPost Tryz.prog Tryz.f3 fun r w' => r = .returned (.bool true) ∧ Below w0.heap.size w0 w') (F5 (.int .i64 (n : Int)) wv (.pointer (some ⟨qa, 0, none⟩)) (.pointer (some ⟨qo, 0, none⟩)) (.int .i64 (x : Int)) (.int .i64 ((x : Int) + y)) (.slice ap la ac) (.pointer (some ⟨qq, 0, none⟩)) (.slice gp yl gc) sv tv (.bool rm) (u 40) (u 42) u) w := by
 have HE : Hid _ := h
 have HO : Hid (Kp (fun b => wv.ownBlock = some b) w w ∧ w.ownsRow B 3 1 wv n ((wantAt rm ws as' x y (y + la)).map (Value.int .i64))) := ⟨Kp.refl _ _, ho⟩
 clear h ho
 have j1 : ¬ (0 : Int) < (yl : Int) := by omega
 clear hyl
 try unfold F1
 try unfold F2
 try unfold F5
 try unfold F6
 conv => arg 2; whnf
 refine wp_seq_k ?_
 intro K hK
 have HK : Hid (∀ (a : Act) (w : World), Code.wp Tryz.prog (pieceN 24) (bodyPost Tryz.prog Tryz.f3 fun r w' => r = .returned (.bool true) ∧ Below w0.heap.size w0 w') a w → K a w) := hK
 clear hK
 go_wp2_with fail
 refine wp_loop_rounds 1 ?_
 rw [rounds_succ]
 go_wp2_with fail
 exact HK.out _ _ (HE.out _ _ (l3e_close _ _ _ _ _ _ _ _ _ _ _ _ _ _ _ _ _ _ _ _ HO.out rfl))
theorem tail23_some (n x y la : Nat) (rm : Bool) (wv gv sv tv : Value) (qa qo qq : Nat) (ap : Option Addr) (ac : Nat) (u : Nat → Value) (w0 w : World) (as' ws : List Int) (B : Nat)
  (h : ∀ (a : Act) (wr : World), L3E n x y la rm wv gv sv tv qa qo qq ap ac as' ws B w a wr → Code.wp Tryz.prog (pieceN 24) (bodyPost Tryz.prog Tryz.f3 fun r w' => r = .returned (.bool true) ∧ Below w0.heap.size w0 w') a wr)
  (hl : ∀ (K : Act → World → Prop) (QQ : Exit → Act → World → Prop) (_ : ∀ (a : Act) (wr : World), L3E n x y la rm wv gv sv tv qa qo qq ap ac as' ws B w a wr → K a wr) (a1 : Act) (_ : L3I n x y la rm wv gv sv tv qa qo qq ap ac as' ws B w a1 w), Code.wp Tryz.prog (Code.loop (bodyN 2)) (Exit.inBlock 4 (Exit.then K QQ)) a1 w)
  (ho : w.ownsRow B 3 1 wv n ((wantAt rm ws as' x y 0).map (Value.int .i64))) :
  Code.wp Tryz.prog (pieceN 23) (bodyPost Tryz.prog Tryz.f3 fun r w' => r = .returned (.bool true) ∧ Below w0.heap.size w0 w') (F5 (.int .i64 (n : Int)) wv (.pointer (some ⟨qa, 0, none⟩)) (.pointer (some ⟨qo, 0, none⟩)) (.int .i64 (x : Int)) (.int .i64 ((x : Int) + y)) (.slice ap la ac) (.pointer (some ⟨qq, 0, none⟩)) gv sv tv (.bool rm) (u 40) (u 42) u) w := by
 have HE : Hid _ := h
 have HL : Hid _ := hl
 have HO : Hid (L3Rel n x y la rm wv as' ws B w (.int .i64 0) w) := ⟨0, rfl, Nat.zero_le _, Kp.refl _ _, ho⟩
 clear h ho hl
 try unfold F1
 try unfold F2
 try unfold F5
 try unfold F6
 conv => arg 2; whnf
 refine wp_seq_k ?_
 intro K hK
 have HK : Hid (∀ (a : Act) (w : World), Code.wp Tryz.prog (pieceN 24) (bodyPost Tryz.prog Tryz.f3 fun r w' => r = .returned (.bool true) ∧ Below w0.heap.size w0 w') a w → K a w) := hK
 clear hK
 go_wp2_with fail
 exact HL.out _ _ (fun a wr h => HK.out _ _ (HE.out a wr h)) _ (l3_close _ _ _ _ _ _ _ _ _ _ _ _ _ _ _ _ _ _ _ _ HO.out rfl)
theorem tail23 (n x y la : Nat) (rm : Bool) (wv gv sv tv : Value) (qa qo qq : Nat) (ap : Option Addr) (ac : Nat) (u : Nat → Value) (w0 w : World) (hu : Below w0.heap.size w0 w) (hq : QBox w rm qa qo qq n y la) (hla : rm = false → 0 < la) (hn : n ≤ 40) (B Bg Bs Bt Ba : Nat) (as' ws : List Int) (hxy : x + y ≤ n) (hal : as'.length = la) (hla3 : la ≤ 30) (hws : ws.length = n) (hrm : rm = decide (x + y + la ≤ n)) (hB0 : w0.heap.size ≤ B) (ow : w.ownsRow B 3 1 wv n (ws.map (Value.int .i64))) (og : w.ownsRow Bg 3 1 gv (y + la) (((ws.drop x).take y ++ as').map (Value.int .i64))) (os : w.ownsRow Bs 3 1 sv n ((wantAt rm ws as' x y (y + la)).map (Value.int .i64))) (ot : w.ownsRow Bt 3 1 tv n ((ints n).map (Value.int .i64))) (oa : w.ownsRow Ba 32 11 (.slice ap la ac) la (rowOf (wds as'))) (hgB : ∀ g, wv.ownBlock = some g → g < Bg ∧ g < Bs ∧ g < Bt) : Code.wp Tryz.prog (pieceN 23) (bodyPost Tryz.prog Tryz.f3 fun r w' => r = .returned (.bool true) ∧ Below w0.heap.size w0 w') (F5 (.int .i64 (n : Int)) wv (.pointer (some ⟨qa, 0, none⟩)) (.pointer (some ⟨qo, 0, none⟩)) (.int .i64 (x : Int)) (.int .i64 ((x : Int) + y)) (.slice ap la ac) (.pointer (some ⟨qq, 0, none⟩)) gv sv tv (.bool rm) (u 40) (u 42) u) w := by
 have hA := after3 n x y la rm wv gv sv tv qa qo qq ap ac w0 w hu hq hla hn B Bg Bs Bt Ba as' ws hxy hal hla3 hws hrm hB0 ow og os ot oa hgB
 rcases Nat.eq_zero_or_pos (y + la) with h0 | h0
 ·obtain ⟨-, gp, gc, rfl⟩ := nums_form og
  exact tail23_none n x y la rm wv sv tv qa qo qq ap ac gp (y + la) gc h0 u w0 w as' ws B hA (by rw [wantAt_lo rm ws as' x y (y + la) (by omega)]; exact ow)
 ·obtain ⟨gg, cg, rfl, b1, lg, -⟩ := nums_open og h0
  exact tail23_some n x y la rm wv _ sv tv qa qo qq ap ac u w0 w as' ws B hA (fun K QQ hK a1 hI => loop3 n x y la rm wv _ sv tv qa qo qq ap ac as' ws B gg cg rfl w hn hxy hal hla3 hws hrm lg (fun e => by have := (hgB gg e).1; omega) (fun j hj => (nums_at og j hj).1) (row_cells hal oa ow) K QQ hK a1 hI) (by rw [wantAt_lo rm ws as' x y 0 (Nat.zero_le _)]; exact ow)
end Go.Proofs.YtdbijkgnddcneaaGreatDoor
namespace Go.Proofs.YtdbijkgnddcneaaGreatDoor
open Go.RowKit Go.ChangeMaps
set_option maxRecDepth 1000000
set_option maxHeartbeats 16000000
theorem tail18 (hb n x y la ql : Nat) (rm : Bool) (wv : Value) (qa qo qq : Nat) (ap : Option Addr) (ac : Nat) (o f c : Int) (u : Nat → Value) (w0 w : World) (hql : ql = y + la) (hu : Below w0.heap.size w0 w) (hn : n ≤ 40) (B Ba : Nat) (as' ws : List Int) (hxy : x + y ≤ n) (hal : as'.length = la) (hla3 : la ≤ 30) (hws : ws.length = n) (hrm : rm = decide (x + y + la ≤ n)) (hB0 : w0.heap.size ≤ B) (ow : w.ownsRow B 3 1 wv n (ws.map (Value.int .i64))) (oa : w.ownsRow Ba 32 11 (.slice ap la ac) la (rowOf (wds as')))
  (hqq : w.heap[qq]? = some (.cells #[.int .i64 5, .string ⟨#[108, 105, 115, 116]⟩, .int .i64 0, .int .u64 0, .string ⟨#[]⟩, .int .i64 o, .int .i64 f, .int .i64 (ql : Int), .int .i64 c, .slice none 0 0, .slice none 0 0] 32)) (hall : w.heap[qa]? = some (.cells #[.int .i64 5, .string ⟨#[108, 105, 115, 116]⟩, .int .i64 0, .int .u64 0, .string ⟨#[]⟩, .int .i64 1, .int .i64 0, .int .i64 (n : Int), .int .i64 (n : Int), .slice none 0 0, .slice none 0 0] 32)) (hoth : w.heap[qo]? = some (.cells #[.int .i64 5, .string ⟨#[108, 105, 115, 116]⟩, .int .i64 0, .int .u64 0, .string ⟨#[]⟩, .int .i64 2, .int .i64 0, .int .i64 (n : Int), .int .i64 (n : Int), .slice none 0 0, .slice none 0 0] 32)) (ho1 : rm = true → o = 1) (ho2 : rm = false → o = 3 ∧ f = 0 ∧ ((y + la : Nat) : Int) ≤ c)
  (r1 : ∀ W, Below w.heap.size w W → Calls Tryz.prog 12 #[.pointer (some ⟨hb, 0, none⟩), .agg #[.int .i64 5, .string ⟨#[108, 105, 115, 116]⟩, .int .i64 0, .int .u64 0, .string ⟨#[]⟩, .int .i64 o, .int .i64 f, .int .i64 (ql : Int), .int .i64 c, .slice none 0 0, .slice none 0 0]] W fun r w' => ∃ v, r = .returned (.tuple #[v, .bool true]) ∧ Below W.heap.size W w' ∧ w'.ownsRow W.heap.size 3 1 v ql (((ws.drop x).take y ++ as').map (Value.int .i64)))
  (r2 : ∀ W, Below w.heap.size w W → Calls Tryz.prog 12 #[.pointer (some ⟨hb, 0, none⟩), .agg #[.int .i64 5, .string ⟨#[108, 105, 115, 116]⟩, .int .i64 0, .int .u64 0, .string ⟨#[]⟩, .int .i64 1, .int .i64 0, .int .i64 (n : Int), .int .i64 (n : Int), .slice none 0 0, .slice none 0 0]] W fun r w' => ∃ v, r = .returned (.tuple #[v, .bool true]) ∧ Below W.heap.size W w' ∧ w'.ownsRow W.heap.size 3 1 v n ((wantAt rm ws as' x y (y + la)).map (Value.int .i64)))
  (r3 : ∀ W, Below w.heap.size w W → Calls Tryz.prog 12 #[.pointer (some ⟨hb, 0, none⟩), .agg #[.int .i64 5, .string ⟨#[108, 105, 115, 116]⟩, .int .i64 0, .int .u64 0, .string ⟨#[]⟩, .int .i64 2, .int .i64 0, .int .i64 (n : Int), .int .i64 (n : Int), .slice none 0 0, .slice none 0 0]] W fun r w' => ∃ v, r = .returned (.tuple #[v, .bool true]) ∧ Below W.heap.size W w' ∧ w'.ownsRow W.heap.size 3 1 v n ((ints n).map (Value.int .i64))) :
  Code.wp Tryz.prog (pieceN 18) (bodyPost Tryz.prog Tryz.f3 fun r w' => r = .returned (.bool true) ∧ Below w0.heap.size w0 w') (F6 (.pointer (some ⟨hb, 0, none⟩)) (.int .i64 (n : Int)) wv (.pointer (some ⟨qa, 0, none⟩)) (.pointer (some ⟨qo, 0, none⟩)) (.int .i64 (x : Int)) (.int .i64 ((x : Int) + y)) (.slice ap la ac) (.pointer (some ⟨qq, 0, none⟩)) (.nilIface) u) w := by
 have R1 : Hid _ := r1
 have R2 : Hid _ := r2
 have R3 : Hid _ := r3
 have OA : Hid (w.ownsRow Ba 32 11 (.slice ap la ac) la (rowOf (wds as'))) := oa
 have OW : Hid (w.ownsRow B 3 1 wv n (ws.map (Value.int .i64))) := ow
 have HRM : Hid _ := hrm
 have HQL : Hid _ := hql
 have HWS : Hid _ := hws
 have HAL : Hid _ := hal
 have HO1 : Hid _ := ho1
 have HO2 : Hid _ := ho2
 have hwl : ∀ g, wv.ownBlock = some g → g < w.heap.size := fun g e => (ow.lt g e).2
 clear r1 r2 r3 oa ow hrm hql hws hal ho1 ho2
 have Bw : Below w.heap.size w w := Below.refl _ _
 try unfold F1
 try unfold F2
 try unfold F5
 try unfold F6
 conv => arg 2; whnf
 refine wp_seq_k ?_
 intro K18 hK18
 have HK18 : Hid (∀ (a : Act) (w : World), Code.wp Tryz.prog (pieceN 19) (bodyPost Tryz.prog Tryz.f3 fun r w' => r = .returned (.bool true) ∧ Below w0.heap.size w0 w') a w → K18 a w) := hK18
 clear hK18
 have c18 := (cells_of (hqq)).1
 go_wp2_with fail
 refine (R1.out _ Bw).mono ?_
 rintro _ W1 ⟨gv, rfl, bW1, og⟩
 have BW1 : Below w.heap.size w W1 := Bw.trans (bW1.mono Bw.size)
 have Oog : Hid _ := og
 clear og c18
 go_wp2_with fail
 refine HK18.out _ _ ?_
 clear HK18
 try unfold F1
 try unfold F2
 try unfold F5
 try unfold F6
 conv => arg 2; whnf
 refine wp_seq_k ?_
 intro K19 hK19
 have HK19 : Hid (∀ (a : Act) (w : World), Code.wp Tryz.prog (pieceN 20) (bodyPost Tryz.prog Tryz.f3 fun r w' => r = .returned (.bool true) ∧ Below w0.heap.size w0 w') a w → K19 a w) := hK19
 clear hK19
 have c19 := (cells_of ((BW1.block _ (hblk hall)).trans hall)).1
 go_wp2_with fail
 refine (R2.out _ BW1).mono ?_
 rintro _ W2 ⟨sv, rfl, bW2, os⟩
 have BW2 : Below w.heap.size w W2 := BW1.trans (bW2.mono BW1.size)
 have Oos : Hid _ := os
 clear os c19
 go_wp2_with fail
 refine HK19.out _ _ ?_
 clear HK19
 try unfold F1
 try unfold F2
 try unfold F5
 try unfold F6
 conv => arg 2; whnf
 refine wp_seq_k ?_
 intro K20 hK20
 have HK20 : Hid (∀ (a : Act) (w : World), Code.wp Tryz.prog (pieceN 21) (bodyPost Tryz.prog Tryz.f3 fun r w' => r = .returned (.bool true) ∧ Below w0.heap.size w0 w') a w → K20 a w) := hK20
 clear hK20
 have c20 := (cells_of ((BW2.block _ (hblk hoth)).trans hoth)).1
 go_wp2_with fail
 refine (R3.out _ BW2).mono ?_
 rintro _ W3 ⟨tv, rfl, bW3, ot⟩
 have BW3 : Below w.heap.size w W3 := BW2.trans (bW3.mono BW2.size)
 have Oot : Hid _ := ot
 clear ot c20
 go_wp2_with fail
 refine HK20.out _ _ ?_
 clear HK20
 have OG3 : Hid (W3.ownsRow w.heap.size 3 1 gv ql (((ws.drop x).take y ++ as').map (Value.int .i64))) := ownsRow_below Oog.out ((bW2.mono (Nat.le_refl _)).trans (bW3.mono bW2.size))
 have OS3 : Hid (W3.ownsRow W1.heap.size 3 1 sv n ((wantAt rm ws as' x y (y + la)).map (Value.int .i64))) := ownsRow_below Oos.out bW3
 have OT3 : Hid (W3.ownsRow W2.heap.size 3 1 tv n ((ints n).map (Value.int .i64))) := Oot.out
 have hz1 := bW1.size
 have hz2 := bW2.size
 have HT : Hid (∀ a, E5 n x y la rm wv gv sv tv qa qo qq ap ac a → Code.wp Tryz.prog (pieceN 23) (bodyPost Tryz.prog Tryz.f3 fun r w' => r = .returned (.bool true) ∧ Below w0.heap.size w0 w') a W3) := fun a ⟨u, e⟩ => by
  rw [e]
  have hq3 : QBox W3 rm qa qo qq n y la := ⟨(BW3.block _ (hblk hall)).trans hall, (BW3.block _ (hblk hoth)).trans hoth, o, f, c, (by have := (BW3.block _ (hblk hqq)).trans hqq; rwa [HQL.out] at this), HO1.out, HO2.out⟩
  exact tail23 n x y la rm wv gv sv tv qa qo qq ap ac u w0 W3 (hu.trans (BW3.mono hu.size)) hq3 (fun h => by have h2 := HRM.out; rw [h] at h2; have := of_decide_eq_false h2.symm; omega) hn B w.heap.size W1.heap.size W2.heap.size Ba as' ws hxy HAL.out hla3 HWS.out HRM.out hB0 (ownsRow_below OW.out BW3) (by have := OG3.out; rwa [HQL.out] at this) OS3.out OT3.out (ownsRow_below OA.out BW3) (fun g e => ⟨hwl g e, Nat.lt_of_lt_of_le (hwl g e) hz1, Nat.lt_of_lt_of_le (hwl g e) (Nat.le_trans hz1 hz2)⟩)
 obtain ⟨-, gp, gc, rfl⟩ := nums_form OG3.out
 obtain ⟨-, sp, sc, rfl⟩ := nums_form OS3.out
 obtain ⟨-, tp, tc, rfl⟩ := nums_form OT3.out
 have e1 : (x : Int) + y - x = y := by omega
 have e3 : (y : Int) + la = (ql : Int) := by have := HQL.out; omega
 have HD : Hid (decide ((ql : Int) ≤ (n : Int) - x) = rm) := by
  show _ = _
  rw [HRM.out]
  exact decide_eq_decide.2 ⟨fun h => by have := HQL.out; omega, fun h => by have := HQL.out; omega⟩
 clear R1 R2 R3 OA OW HRM HQL HWS HAL HO1 HO2 Oog Oos Oot OG3 OS3 OT3 bW1 bW2 bW3 BW1 BW2 BW3 Bw hwl hqq hall hoth hz1 hz2 hu hB0
 try unfold F1
 try unfold F2
 try unfold F5
 try unfold F6
 conv => arg 2; whnf
 refine wp_seq_k ?_
 intro K21 hK21
 have HK21 : Hid (∀ (a : Act) (w : World), Code.wp Tryz.prog (pieceN 22) (bodyPost Tryz.prog Tryz.f3 fun r w' => r = .returned (.bool true) ∧ Below w0.heap.size w0 w') a w → K21 a w) := hK21
 clear hK21
 go_wp2_with fail
 refine HK21.out _ _ ?_
 clear HK21
 try unfold F1
 try unfold F2
 try unfold F5
 try unfold F6
 conv => arg 2; whnf
 refine wp_seq_k ?_
 intro K22 hK22
 have HK22 : Hid (∀ (a : Act) (w : World), Code.wp Tryz.prog (pieceN 23) (bodyPost Tryz.prog Tryz.f3 fun r w' => r = .returned (.bool true) ∧ Below w0.heap.size w0 w') a w → K22 a w) := hK22
 clear hK22
 go_wp2_with fail
 rw [HD.out]
 exact HK22.out _ _ (HT.out _ (e5_close _ _ _ _ _ _ _ _ _ _ _ _ _ _ _ rfl))
end Go.Proofs.YtdbijkgnddcneaaGreatDoor
namespace Go.Proofs.YtdbijkgnddcneaaGreatDoor
open Go.RowKit Go.ChangeMaps
set_option maxRecDepth 1000000
set_option maxHeartbeats 16000000
theorem row_take (as' : List Int) (k : Nat) (h : k < as'.length) : rowOf (wds (as'.take k)) ++ (wholeD as'[k]).cells.toList = rowOf (wds (as'.take (k + 1))) := by
 rw [List.take_succ_eq_append_getElem h, wds, wds, List.map_append, rowOf_append]
 rfl
def L2Rel (ms : List Int) (w : World) (av i : Value) (wr : World) : Prop := ∃ k : Nat, i = .int .i64 (k : Int) ∧ k ≤ ms.length ∧ k ≤ 30 ∧ Below w.heap.size w wr ∧ wr.ownsRow w.heap.size 32 11 av k (rowOf (wds (ms.take k))) ∧ (k = 0 → av = .slice none 0 0)
def L2I (many frm to at1 : Int) (pm : Option Addr) (ml mc hb n x y : Nat) (wv al ot pv : Value) (ms : List Int) (w : World) (a : Act) (wr : World) : Prop := ∃ (u : Nat → Value) (av i : Value), L2Rel ms w av i wr ∧ a = (F2 (.int .i64 many) (.int .i64 frm) (.int .i64 to) (.int .i64 at1) (.slice pm ml mc) (.pointer (some ⟨hb, 0, none⟩)) (.int .i64 (n : Int)) wv al ot (.int .i64 (x : Int)) (.int .i64 ((x : Int) + y)) pv av i u)
theorem l2_close (many frm to at1 : Int) (pm : Option Addr) (ml mc hb n x y : Nat) (wv al ot pv : Value) (ms : List Int) (w : World) (a : Act) (wr : World) (h : L2Rel ms w (a.tmps.getD 29 undef) (a.tmps.getD 30 undef) wr) (ha : a = (F2 (.int .i64 many) (.int .i64 frm) (.int .i64 to) (.int .i64 at1) (.slice pm ml mc) (.pointer (some ⟨hb, 0, none⟩)) (.int .i64 (n : Int)) wv al ot (.int .i64 (x : Int)) (.int .i64 ((x : Int) + y)) pv (a.tmps.getD 29 undef) (a.tmps.getD 30 undef) (fun k => a.tmps.getD k undef))) : L2I many frm to at1 pm ml mc hb n x y wv al ot pv ms w a wr := ⟨fun k => a.tmps.getD k undef, _, _, h, ha⟩
def L2m (n : Nat) (a : Act) (_ : World) : Nat := n - (intOf (a.tmps.getD 30 undef)).toNat
def L2E (many frm to at1 : Int) (pm : Option Addr) (ml mc hb n x y : Nat) (wv al ot pv : Value) (ms : List Int) (w : World) (a : Act) (wr : World) : Prop := ∃ (u : Nat → Value) (av : Value), (Below w.heap.size w wr ∧ wr.ownsRow w.heap.size 32 11 av (ms.take 30).length (rowOf (wds (ms.take 30))) ∧ ((ms.take 30).length = 0 → av = .slice none 0 0)) ∧ a = (F2 (.int .i64 many) (.int .i64 frm) (.int .i64 to) (.int .i64 at1) (.slice pm ml mc) (.pointer (some ⟨hb, 0, none⟩)) (.int .i64 (n : Int)) wv al ot (.int .i64 (x : Int)) (.int .i64 ((x : Int) + y)) pv av (u 30) u)
theorem l2e_close (many frm to at1 : Int) (pm : Option Addr) (ml mc hb n x y : Nat) (wv al ot pv : Value) (ms : List Int) (w : World) (a : Act) (wr : World) (h : Below w.heap.size w wr ∧ wr.ownsRow w.heap.size 32 11 (a.tmps.getD 29 undef) (ms.take 30).length (rowOf (wds (ms.take 30))) ∧ ((ms.take 30).length = 0 → (a.tmps.getD 29 undef) = .slice none 0 0)) (ha : a = (F2 (.int .i64 many) (.int .i64 frm) (.int .i64 to) (.int .i64 at1) (.slice pm ml mc) (.pointer (some ⟨hb, 0, none⟩)) (.int .i64 (n : Int)) wv al ot (.int .i64 (x : Int)) (.int .i64 ((x : Int) + y)) pv (a.tmps.getD 29 undef) (a.tmps.getD 30 undef) (fun k => a.tmps.getD k undef))) : L2E many frm to at1 pm ml mc hb n x y wv al ot pv ms w a wr := ⟨fun k => a.tmps.getD k undef, _, h, ha⟩
theorem loop2 (mb mo : Nat) (many frm to at1 : Int) (mc hb n x y : Nat) (wv al ot pv : Value) (ms : List Int) (w : World) (hmb : mb < w.heap.size) (hms : ∀ (i : Nat) (hi : i < ms.length), w.cell? ⟨mb, mo + i, none⟩ = some (.int .i64 ms[i])) (hml : ms.length ≤ 9223372036854775807)
  (K : Act → World → Prop) (QQ : Exit → Act → World → Prop)
  (hK : ∀ (a : Act) (wr : World), L2E many frm to at1 (some ⟨mb, mo, none⟩) ms.length mc hb n x y wv al ot pv ms w a wr → K a wr) (a1 : Act) (hI : L2I many frm to at1 (some ⟨mb, mo, none⟩) ms.length mc hb n x y wv al ot pv ms w a1 w) :
  Code.wp Tryz.prog (Code.loop (bodyN 1)) (Exit.inBlock 2 (Exit.then K QQ)) a1 w := by
 have HK : Hid _ := hK
 clear hK
 obtain ⟨i0, hi, hz0, hz1, hz2⟩ := info_parts info32z
 have HML : Hid _ := hml
 clear hml
 refine wp_loop (L2I many frm to at1 (some ⟨mb, mo, none⟩) ms.length mc hb n x y wv al ot pv ms w) (L2m 30) hI (fun a0 wr hGI => ?_)
 clear hI
 obtain ⟨u, av, i, ⟨k, rfl, hk, hk30, hb1, oa, h00⟩, rfl⟩ := hGI
 have H00 : Hid _ := h00
 clear h00
 have OA : Hid (wr.ownsRow w.heap.size 32 11 av k (rowOf (wds (ms.take k)))) := oa
 clear oa
 have hys := hb1.size
 try unfold F1
 try unfold F2
 try unfold F5
 try unfold F6
 conv => arg 2; whnf
 by_cases hlt : k < ms.length
 ·have j1 : (k : Int) < (ms.length : Int) := by omega
  by_cases hlt2 : k < 30
  ·have j2 : (k : Int) < 30 := by omega
   obtain ⟨z, hz⟩ : ∃ z, ms[k] = z := ⟨_, rfl⟩
   have hc : wr.cell? ⟨mb, mo + k, none⟩ = some (.int .i64 z) := by rw [← hz]; exact (hb1.cell (p := ⟨mb, mo + k, none⟩) hmb).trans (hms k hlt)
   have HE : Hid (rowOf (wds (ms.take k)) ++ (wholeD z).cells.toList = rowOf (wds (ms.take (k + 1)))) := by rw [← hz]; exact row_take ms k hlt
   clear hz
   go_wp2_with fail
   refine (whole_any z wr).mono ?_
   rintro _ V1 ⟨rfl, c1⟩
   have hb2 : Below w.heap.size w V1 := hb1.trans (c1.mono hb1.size)
   have OA1 : Hid (V1.ownsRow w.heap.size 32 11 av k (rowOf (wds (ms.take k)))) := ownsRow_below OA.out c1
   have hys2 := hb2.size
   clear hb1 c1 OA hys hc
   simp only [wholeD, MD.val, D, List.length_nil]
   go_wp2_with (first | (at_builtin; refine wpList_append_own _ rfl _ _ 27 rfl w.heap.size 32 i0 (.agg #[.int .i64 0, .string ⟨#[]⟩, .int .i64 0, .int .u64 0, .string ⟨#[]⟩, .int .i64 0, .int .i64 0, .int .i64 0, .int .i64 0, .slice none 0 0, .slice none 0 0]) 11 136 Tryz.underlying27 hi hz0 hz1 hz2 rfl (by decide) _ _ _ rfl (OA1.out.alloc _) ⟨V1.heap.size, 0, none⟩ 1 1 (wholeD z).cells.toList rfl rfl (new11 V1 z) (one11 z) (by unfold maxLen; omega) (by omega) (by simp; omega) ?_; intro v2 w3 hown3 hgr3 _; have HB3 : Hid (Below w.heap.size w w3) := (Below.grown (hb2.alloc (by omega) _) hgr3 (by simp; omega) (fun j hj => by have := (OA1.out.lt _ hj).1; omega)); have OA3 : Hid (w3.ownsRow w.heap.size 32 11 v2 (k + 1) (rowOf (wds (ms.take (k + 1))))) := (by show World.ownsRow _ _ _ _ _ _ _; rw [← HE.out]; exact hown3); clear hown3 hgr3))
   exact ⟨l2_close _ _ _ _ _ _ _ _ _ _ _ _ _ _ _ _ _ _ _ ⟨k + 1, by simp, by omega, by omega, HB3.out, OA3.out, fun e => absurd e (Nat.succ_ne_zero k)⟩ rfl, by simp [L2m, intOf]; omega⟩
  ·have j2 : ¬ (k : Int) < 30 := by omega
   obtain rfl : k = 30 := by omega
   have OE : Hid (Below w.heap.size w wr ∧ wr.ownsRow w.heap.size 32 11 av (ms.take 30).length (rowOf (wds (ms.take 30))) ∧ ((ms.take 30).length = 0 → av = .slice none 0 0)) := by
    have e30 : (ms.take 30).length = 30 := by rw [List.length_take]; omega
    show _ ∧ _ ∧ _
    rw [e30]
    exact ⟨hb1, OA.out, H00.out⟩
   clear OA H00
   go_wp2_with fail
   exact HK.out _ _ (l2e_close _ _ _ _ _ _ _ _ _ _ _ _ _ _ _ _ _ _ _ OE.out rfl)
 ·have j1 : ¬ (k : Int) < (ms.length : Int) := by omega
  obtain rfl : k = ms.length := by omega
  have OE : Hid (Below w.heap.size w wr ∧ wr.ownsRow w.heap.size 32 11 av (ms.take 30).length (rowOf (wds (ms.take 30))) ∧ ((ms.take 30).length = 0 → av = .slice none 0 0)) := by
   have e30 : ms.take 30 = ms := List.take_of_length_le hk30
   have e31 : ms.take ms.length = ms := List.take_length
   have := OA.out
   rw [e31] at this
   show _ ∧ _ ∧ _
   rw [e30]
   exact ⟨hb1, this, H00.out⟩
  clear OA H00
  go_wp2_with fail
  exact HK.out _ _ (l2e_close _ _ _ _ _ _ _ _ _ _ _ _ _ _ _ _ _ _ _ OE.out rfl)
theorem loop2_none (many frm to at1 : Int) (pm : Option Addr) (mc hb n x y : Nat) (wv al ot pv : Value) (w : World)
  (K : Act → World → Prop) (QQ : Exit → Act → World → Prop)
  (hK : ∀ (a : Act) (wr : World), L2E many frm to at1 pm 0 mc hb n x y wv al ot pv [] w a wr → K a wr) (a1 : Act) (hI : L2I many frm to at1 pm 0 mc hb n x y wv al ot pv [] w a1 w) :
  Code.wp Tryz.prog (Code.loop (bodyN 1)) (Exit.inBlock 2 (Exit.then K QQ)) a1 w := by
 have HK : Hid _ := hK
 clear hK
 refine wp_loop (L2I many frm to at1 pm 0 mc hb n x y wv al ot pv [] w) (L2m 30) hI (fun a0 wr hGI => ?_)
 clear hI
 obtain ⟨u, av, i, ⟨k, rfl, hk, hk30, hb1, oa, h00⟩, rfl⟩ := hGI
 have H00 : Hid _ := h00
 clear h00
 obtain rfl : k = 0 := by simp at hk; omega
 have OA : Hid (Below w.heap.size w wr ∧ wr.ownsRow w.heap.size 32 11 av ([].take 30 : List Int).length (rowOf (wds ([].take 30))) ∧ (([].take 30 : List Int).length = 0 → av = .slice none 0 0)) := ⟨hb1, oa, H00.out⟩
 clear oa
 try unfold F1
 try unfold F2
 try unfold F5
 try unfold F6
 conv => arg 2; whnf
 go_wp2_with fail
 exact HK.out _ _ (l2e_close _ _ _ _ _ _ _ _ _ _ _ _ _ _ _ _ _ _ _ OA.out rfl)
end Go.Proofs.YtdbijkgnddcneaaGreatDoor
