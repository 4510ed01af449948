/-
  .
  .
-/
import Derived.Test.YtdbijkgnddcneaaGreatDoorMhJ
import Derived.Test.YtdbijkgnddcneaaGreatDoorHe2
import Derived.Laws.Cover1
import Derived.Test.YtdbijkgnddcneaaGreatDoorGf2J
namespace Go.Proofs.YtdbijkgnddcneaaGreatDoor
open Go.RowKit
attribute [local go_sem] refold2 cell3_0 cell3_1 b28_0 b28_01
theorem all2_trans (n : Nat) (hI : ∀ x y z : MD, MD.same n x y = true → MD.same n y z = true → MD.same n x z = true) : ∀ (xs ys zs : List MD), all2 (MD.same n) xs ys = true → all2 (MD.same n) ys zs = true → xs.length = ys.length → all2 (MD.same n) xs zs = true
 | [], _, _, _, _, _ => by simp [all2]
 | _ :: _, [], _, _, _, h => by simp at h
 | _ :: _, _ :: _, [], _, _, _ => by simp [all2]
 | x :: xs, y :: ys, z :: zs, h, h', hl => by
  have h1 : (MD.same n x y && all2 (MD.same n) xs ys) = true := h
  have h2 : (MD.same n y z && all2 (MD.same n) ys zs) = true := h'
  rw [Bool.and_eq_true] at h1 h2
  show (MD.same n x z && all2 (MD.same n) xs zs) = true
  rw [hI x y z h1.1 h2.1, all2_trans n hI xs ys zs h1.2 h2.2 (by simpa using hl)]; rfl
theorem same_trans : ∀ (n : Nat) (x y z : MD), MD.same n x y = true → MD.same n y z = true → MD.same n x z = true
 | 0, _, _, _, _, _ => rfl
 | n + 1, x, y, z, h, h' => by
  obtain ⟨e0, e1, e2, e3, e4, e5, e6, e7, e8, e9, ep, ea⟩ := same_parts h
  obtain ⟨f0, f1, f2, f3, f4, f5, f6, f7, f8, f9, fp, fa⟩ := same_parts h'
  show (sameH x.h z.h x.items.length z.items.length && decide (x.h.path = z.h.path) && all2 (MD.same n) x.items z.items) = true
  rw [decide_eq_true (ep.symm.trans fp.symm), all2_trans n (same_trans n) _ _ _ ea fa e9.symm]
  have : sameH x.h z.h x.items.length z.items.length = true := decide_eq_true ⟨by rw [f0, e0], by rw [f1, e1], by rw [f2, e2], by rw [f3, e3], by rw [f4, e4], by rw [f5, e5], by rw [f6, e6], by rw [f7, e7], by rw [f8, e8], by rw [fp, ep], by rw [f9, e9]⟩
  rw [this]; rfl
theorem foldl_same (n : Nat) (hI : ∀ (h : Int) (x d : MD), MD.same n x d = true → MD.hash n h x = MD.hash n h d) : ∀ (xs ds : List MD) (h : Int), all2 (MD.same n) xs ds = true → xs.length = ds.length → xs.foldl (MD.hash n) h = ds.foldl (MD.hash n) h
 | [], [], _, _, _ => rfl
 | [], _ :: _, _, _, h => by simp at h
 | _ :: _, [], _, _, h => by simp at h
 | x :: xs, d :: ds, h, ha, hl => by
  have h1 : (MD.same n x d && all2 (MD.same n) xs ds) = true := ha
  rw [Bool.and_eq_true] at h1
  show xs.foldl (MD.hash n) (MD.hash n h x) = ds.foldl (MD.hash n) (MD.hash n h d)
  rw [hI h x d h1.1]
  exact foldl_same n hI xs ds _ h1.2 (by simpa using hl)
theorem same_hash : ∀ (n : Nat) (h : Int) (x d : MD), MD.same n x d = true → MD.hash n h x = MD.hash n h d
 | 0, _, _, _, _ => rfl
 | n + 1, h, x, d, hs => by
  obtain ⟨e0, e1, e2, e3, e4, e5, e6, e7, e8, e9, ep, ea⟩ := same_parts hs
  show x.items.foldl (MD.hash n) (stirC h x.h.k x.h.t x.h.n x.h.f x.h.s x.h.r0 x.h.path x.items.length) = d.items.foldl (MD.hash n) (stirC h d.h.k d.h.t d.h.n d.h.f d.h.s d.h.r0 d.h.path d.items.length)
  rw [e0, e1, e2, e3, e4, e5, e9, ep]
  exact foldl_same n (same_hash n) _ _ _ ea e9.symm
end Go.Proofs.YtdbijkgnddcneaaGreatDoor
namespace Go.Proofs.YtdbijkgnddcneaaGreatDoor
open Go.RowKit
set_option maxRecDepth 100000
set_option maxHeartbeats 4000000
theorem eleven_row {w : World} {g : Nat} {c0 c1 c2 c3 c4 c5 c6 c7 c8 c9 c10 : Value} (h : w.heap[g]? = some (.cells #[c0, c1, c2, c3, c4, c5, c6, c7, c8, c9, c10] 32 (0, 0))) (v0 v1 v2 v3 v4 v5 v6 v7 v8 v9 v10 : Value) : (((((((((((w.setCell ⟨g, 0, none⟩ v0).setCell ⟨g, 1, none⟩ v1).setCell ⟨g, 2, none⟩ v2).setCell ⟨g, 3, none⟩ v3).setCell ⟨g, 4, none⟩ v4).setCell ⟨g, 5, none⟩ v5).setCell ⟨g, 6, none⟩ v6).setCell ⟨g, 7, none⟩ v7).setCell ⟨g, 8, none⟩ v8).setCell ⟨g, 9, none⟩ v9).setCell ⟨g, 10, none⟩ v10).heap[g]? = some (.cells #[v0, v1, v2, v3, v4, v5, v6, v7, v8, v9, v10] 32 (0, 0)) := by
 have h' := row_set (row_set (row_set (row_set (row_set (row_set (row_set (row_set (row_set (row_set (row_set h 0 v0) 1 v1) 2 v2) 3 v3) 4 v4) 5 v5) 6 v6) 7 v7) 8 v8) 9 v9) 10 v10
 simp only [List.setIfInBounds_toArray, List.set_cons_zero, List.set_cons_succ] at h'
 exact h'
theorem eleven_only (w : World) (g c : Nat) (hc : c ≠ g) (v0 v1 v2 v3 v4 v5 v6 v7 v8 v9 v10 : Value) : (((((((((((w.setCell ⟨g, 0, none⟩ v0).setCell ⟨g, 1, none⟩ v1).setCell ⟨g, 2, none⟩ v2).setCell ⟨g, 3, none⟩ v3).setCell ⟨g, 4, none⟩ v4).setCell ⟨g, 5, none⟩ v5).setCell ⟨g, 6, none⟩ v6).setCell ⟨g, 7, none⟩ v7).setCell ⟨g, 8, none⟩ v8).setCell ⟨g, 9, none⟩ v9).setCell ⟨g, 10, none⟩ v10).heap[c]? = w.heap[c]? := by
 simp only [heap_setCell_other _ _ _ _ _ hc]
theorem eleven_size (w : World) (g : Nat) (v0 v1 v2 v3 v4 v5 v6 v7 v8 v9 v10 : Value) : (((((((((((w.setCell ⟨g, 0, none⟩ v0).setCell ⟨g, 1, none⟩ v1).setCell ⟨g, 2, none⟩ v2).setCell ⟨g, 3, none⟩ v3).setCell ⟨g, 4, none⟩ v4).setCell ⟨g, 5, none⟩ v5).setCell ⟨g, 6, none⟩ v6).setCell ⟨g, 7, none⟩ v7).setCell ⟨g, 8, none⟩ v8).setCell ⟨g, 9, none⟩ v9).setCell ⟨g, 10, none⟩ v10).heap.size = w.heap.size := by simp
def OwnP (n : Nat) (d : MD) (w : World) (r : Ending) (w' : World) : Prop := ∃ b d', r = .returned (.pointer (some ⟨b, 0, none⟩)) ∧ w.heap.size ≤ b ∧ Box w' n b d' ∧ MD.same n d d' = true ∧ Below w.heap.size w w' ∧ MD.Above w.heap.size n d'
theorem MD.In.high {w w' : World} {lo : Nat} (hs : w'.heap.size = w.heap.size) (h : ∀ c, lo ≤ c → w'.heap[c]? = w.heap[c]?) : ∀ (n : Nat) (d : MD), MD.Above lo n d → MD.In w.heap.size w n d → MD.In w'.heap.size w' n d := fun n d ha hi => by
 rw [hs]
 exact MD.In.aloft (fun c h1 _ => h c h1) n d hi ha
theorem Tg.high {w w' : World} {lo : Nat} (h : ∀ c, lo ≤ c → w'.heap[c]? = w.heap[c]?) : ∀ (n : Nat) (d : MD), MD.Above lo n d → Tg w n d → Tg w' n d
 | 0, _, _, hh => hh
 | n + 1, d, ⟨a1, a2, a3⟩, ⟨p, q⟩ => by
  refine ⟨?_, ?_⟩
  ·rcases p with e | ⟨g, o, cur, e1, e2⟩
   ·exact .inl e
   ·exact .inr ⟨g, o, cur, e1, (h g (a1 g o e1)).trans e2⟩
  ·rcases q with e | ⟨g, o, cur, e1, e2, e3⟩
   ·exact .inl e
   ·exact .inr ⟨g, o, cur, e1, (h g (a2 g o e1)).trans e2, fun i hi => Tg.high h n _ (a3 _ (List.getElem_mem hi)) (e3 i hi)⟩
theorem own_any (n : Nat) (d : MD) (w : World) (hin : MD.In w.heap.size w n d) (hf : MD.full n d = true) :
  Calls Tryz.prog 79 #[d.val] w (OwnP n d w) := by
 have HC : Hid (∀ W, Below w.heap.size w W → Calls Tryz.prog 84 #[d.val] W (CopyG n d W)) := fun W hW => copiedG_any n d W (hin.later (Nat.le_refl _) hW) hf
 clear hin hf
 obtain ⟨⟨k, t, a, f, s, r0, r1, r2, r3, pp, path, pc⟩, ip, ic, items⟩ := d
 simp only [MD.val, D] at HC ⊢
 go_enter Tryz.func79, Tryz.ntmps79
 go_wp2_with fail
 refine (HC.out _ (below1 _ _)).mono ?_
 rintro r w2 ⟨d', rfl, hd1, hd2, hd3, hd4, hd5⟩
 have hx2 : w2.heap[w.heap.size]? = some (.cells #[.int .i64 k, .string t, .int .i64 a, .int .u64 f, .string s, .int .i64 r0, .int .i64 r1, .int .i64 r2, .int .i64 r3, .slice pp path.length pc, .slice ip items.length ic] 32 (0, 0)) := (hd4.block _ (by simp)).trans (heap_alloc_new _ _)
 have hq2 : Below w.heap.size w w2 := (below1 _ _).trans (hd4.mono (by simp))
 have hA : MD.Above (w.heap.size + 1) n d' := MD.Above.mono (by simp) n _ hd2
 have hz : w.heap.size < w2.heap.size := (Array.getElem?_eq_some_iff.1 hx2).1
 have HT : Hid (Tg w2 n d') := Good.tg n _ hd5 hd1
 have HX : Hid (w2.heap[w.heap.size]? = some (.cells #[.int .i64 k, .string t, .int .i64 a, .int .u64 f, .string s, .int .i64 r0, .int .i64 r1, .int .i64 r2, .int .i64 r3, .slice pp path.length pc, .slice ip items.length ic] 32 (0, 0))) := hx2
 obtain ⟨⟨l0, l1, l2, l3, l4, l5, l6, l7, l8, lp, lpath, lpc⟩, lip, lic, lit⟩ := d'
 have HD : Hid (MD.In w2.heap.size w2 n ⟨⟨l0, l1, l2, l3, l4, l5, l6, l7, l8, lp, lpath, lpc⟩, lip, lic, lit⟩ ∧ MD.Above (w.heap.size + 1) n ⟨⟨l0, l1, l2, l3, l4, l5, l6, l7, l8, lp, lpath, lpc⟩, lip, lic, lit⟩ ∧ MD.same n ⟨⟨k, t, a, f, s, r0, r1, r2, r3, pp, path, pc⟩, ip, ic, items⟩ ⟨⟨l0, l1, l2, l3, l4, l5, l6, l7, l8, lp, lpath, lpc⟩, lip, lic, lit⟩ = true) := ⟨hd1, hA, hd3⟩
 simp only [MD.val, D]
 have hc2 : ∀ j, w2.cell? ⟨w.heap.size, j, none⟩ = (#[.int .i64 k, .string t, .int .i64 a, .int .u64 f, .string s, .int .i64 r0, .int .i64 r1, .int .i64 r2, .int .i64 r3, .slice pp path.length pc, .slice ip items.length ic] : Array Value)[j]? := fun j => row_at hx2 j
 have hf2 := fun j => fz _ _ _ _ j hx2
 clear hd1 hd2 hd3 hd4 hd5 hA hx2
 go_wp2_with fail
 go_ret
 refine ⟨w.heap.size, ⟨⟨l0, l1, l2, l3, l4, l5, l6, l7, l8, lp, lpath, lpc⟩, lip, lic, lit⟩, rfl, Nat.le_refl _, ⟨eleven_row HX.out _ _ _ _ _ _ _ _ _ _ _, ?_, ?_⟩, HD.out.2.2, bset hq2 (Nat.le_refl _) _ _ _ _ _ _ _ _ _ _ _, MD.Above.mono (Nat.le_succ _) n _ HD.out.2.1⟩
 ·exact MD.In.high (eleven_size _ _ _ _ _ _ _ _ _ _ _ _ _) (fun c hc => eleven_only w2 w.heap.size c (by omega) _ _ _ _ _ _ _ _ _ _ _) n _ HD.out.2.1 HD.out.1
 ·exact Tg.high (fun c hc => eleven_only w2 w.heap.size c (by omega) _ _ _ _ _ _ _ _ _ _ _) n _ HD.out.2.1 HT.out
end Go.Proofs.YtdbijkgnddcneaaGreatDoor
