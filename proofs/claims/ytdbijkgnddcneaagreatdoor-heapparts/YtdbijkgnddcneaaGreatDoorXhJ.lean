/-
  .
  .
  .
  .
  .
  .
-/
import Derived.Test.YtdbijkgnddcneaaGreatDoorSq
import Derived.Test.YtdbijkgnddcneaaGreatDoorXb
import Derived.Test.YtdbijkgnddcneaaGreatDoorIa2J
import Derived.Test.YtdbijkgnddcneaaGreatDoorMhJ
import Derived.Deep.MidRow
import Derived.Test.YtdbijkgnddcneaaGreatDoorVa
import Derived.Stop.Asserts
namespace Go.Proofs.YtdbijkgnddcneaaGreatDoor
open Go.RowKit Go.ChangeMaps
set_option maxRecDepth 100000
set_option maxHeartbeats 4000000
attribute [local go_sem] refold2 cell3_0 cell3_1 b28_0 b28_01 nz26 nz23
def flatD (k : Int) (t : ByteArray) (n o f l c : Int) : MD := ⟨⟨k, t, n, 0, ⟨#[]⟩, o, f, l, c, none, [], 0⟩, none, 0, []⟩
theorem copies_nil (w : World) : Calls Tryz.prog 35 #[.slice none 0 0] w fun r w' => r = .returned (.slice none 0 0) ∧ w' = w := by
 go_enter Tryz.func35, Tryz.ntmps35
 go_wp2_with fail
 go_ret
 exact ⟨rfl, rfl⟩
theorem eleven_set {w : World} {b : Nat} (h : w.heap[b]? = some (.cells #[.int .i64 0, .string ⟨#[]⟩, .int .i64 0, .int .u64 0, .string ⟨#[]⟩, .int .i64 0, .int .i64 0, .int .i64 0, .int .i64 0, .slice none 0 0, .slice none 0 0] 32)) (v0 v1 v2 v3 v4 v5 v6 v7 v8 v9 v10 : Value) : ((((((((((((w.setCell ⟨b, 0, none⟩ (v0)).setCell ⟨b, 1, none⟩ (v1)).setCell ⟨b, 2, none⟩ (v2)).setCell ⟨b, 3, none⟩ (v3)).setCell ⟨b, 4, none⟩ (v4)).setCell ⟨b, 5, none⟩ (v5)).setCell ⟨b, 6, none⟩ (v6)).setCell ⟨b, 7, none⟩ (v7)).setCell ⟨b, 8, none⟩ (v8)).setCell ⟨b, 9, none⟩ (v9)).setCell ⟨b, 10, none⟩ (v10))).heap[b]? = some (.cells #[v0, v1, v2, v3, v4, v5, v6, v7, v8, v9, v10] 32) := by
 have h := (heap_set (heap_set (heap_set (heap_set (heap_set (heap_set (heap_set (heap_set (heap_set (heap_set (heap_set h 0 v0) 1 v1) 2 v2) 3 v3) 4 v4) 5 v5) 6 v6) 7 v7) 8 v8) 9 v9) 10 v10)
 simpa only [List.setIfInBounds_toArray, List.set_cons_succ, List.set_cons_zero] using h
theorem copied_flat (k : Int) (t : ByteArray) (n o f l c : Int) (ht : t.size ≤ 60000) (w : World) : Calls Tryz.prog 41 #[(flatD k t n o f l c).val] w fun r w' => r = .returned (flatD k t n o f l c).val ∧ Below w.heap.size w w' := by
 show Calls Tryz.prog 41 #[.agg #[.int .i64 k, .string t, .int .i64 n, .int .u64 0, .string ⟨#[]⟩, .int .i64 o, .int .i64 f, .int .i64 l, .int .i64 c, .slice none 0 0, .slice none 0 0]] w _
 go_enter Tryz.func41, Tryz.ntmps41
 go_wp2_with fail
 obtain ⟨U0, hU0⟩ : ∃ W, W = (w.alloc (.cells #[.int .i64 k, .string t, .int .i64 n, .int .u64 0, .string ⟨#[]⟩, .int .i64 o, .int .i64 f, .int .i64 l, .int .i64 c, .slice none 0 0, .slice none 0 0] 32)).alloc (.cells #[.int .i64 0, .string ⟨#[]⟩, .int .i64 0, .int .u64 0, .string ⟨#[]⟩, .int .i64 0, .int .i64 0, .int .i64 0, .int .i64 0, .slice none 0 0, .slice none 0 0] 32) := ⟨_, rfl⟩
 rw [← hU0]
 have u0 : Below w.heap.size w U0 := by rw [hU0]; exact below2 w _ _
 have y0 : w.heap.size + 1 < U0.heap.size := by rw [hU0]; simp
 have b0 : U0.heap[w.heap.size]? = some (.cells #[.int .i64 k, .string t, .int .i64 n, .int .u64 0, .string ⟨#[]⟩, .int .i64 o, .int .i64 f, .int .i64 l, .int .i64 c, .slice none 0 0, .slice none 0 0] 32) := by rw [hU0, Below.heap_alloc _ _ _ (by simp)]; exact heap_alloc_new _ _
 have r0 : U0.heap[w.heap.size + 1]? = some (.cells #[.int .i64 0, .string ⟨#[]⟩, .int .i64 0, .int .u64 0, .string ⟨#[]⟩, .int .i64 0, .int .i64 0, .int .i64 0, .int .i64 0, .slice none 0 0, .slice none 0 0] 32) := by rw [hU0]; exact heap2_1 _ _ _
 clear hU0
 refine rg (S := fun W => (∀ j, W.cell? ⟨w.heap.size, j, none⟩ = (#[.int .i64 k, .string t, .int .i64 n, .int .u64 0, .string ⟨#[]⟩, .int .i64 o, .int .i64 f, .int .i64 l, .int .i64 c, .slice none 0 0, .slice none 0 0] : Array Value)[j]?)) (fun U1 hB4 HU1 => ?_)
 have hS := (cells_of ((hB4.block _ (by omega)).trans b0)).1
 refine tq 0 (.pointer (some ⟨w.heap.size, 1, none⟩)) rfl hS ?_
 simp only [sa, sb, Act.put, sd, se, sf]
 refine tk 1 (.string t) rfl (.inl ⟨by rfl, ?r⟩) hS ?_
 case r => intro W hW; simp [go_sem, execOp, Act.eval, hW]
 simp only [sa, sb, sc, Act.put, sd, se, sf]
 refine tq 3 (.pointer (some ⟨w.heap.size, 4, none⟩)) rfl hS ?_
 simp only [sa, sb, sc, Act.put, sd, se, sf]
 refine tk 4 (.string ⟨#[]⟩) rfl (.inl ⟨by rfl, ?r⟩) hS ?_
 case r => intro W hW; simp [go_sem, execOp, Act.eval, hW]
 simp only [sa, sb, sc, Act.put, sd, se, sf]
 have u1 : Below w.heap.size w U1 := u0.trans (hB4.mono (by omega))
 have y1 : w.heap.size + 1 < U1.heap.size := Nat.lt_of_lt_of_le y0 hB4.size
 have b1 : U1.heap[w.heap.size]? = _ := (hB4.block _ (by omega)).trans b0
 have r1 : U1.heap[w.heap.size + 1]? = _ := (hB4.block _ (by omega)).trans r0
 clear HU1 hB4
 refine one 2 rfl (fun K hK => ?_)
 simp only [sa, sb, sc]
 go_simp
 refine (clone_any t _ (by omega)).mono ?_
 rintro r U2 ⟨rfl, c2⟩
 have y2 : w.heap.size + 1 < U2.heap.size := Nat.lt_of_lt_of_le y1 c2.size
 have u2 : Below w.heap.size w U2 := u1.trans (c2.mono (by omega))
 have b2 : U2.heap[w.heap.size]? = _ := (c2.block _ (by omega)).trans b1
 have r2 : U2.heap[w.heap.size + 1]? = _ := (c2.block _ (by omega)).trans r1
 go_simp
 have hS2 := (cells_of b2).1
 refine hK _ _ ⟨hS2, ?_⟩
 clear hK K hS
 have hS := hS2
 clear hS2
 try simp only [Act.put, sd, se, sf]
 refine tq 6 (.pointer (some ⟨w.heap.size, 1, none⟩)) rfl hS ?_
 simp only [sa, sb, sc, Act.put, sd, se, sf]
 refine one 5 rfl (fun K hK => ?_)
 simp only [sa, sb, sc]
 go_simp
 refine (clone_any ⟨#[]⟩ _ (by show 0 ≤ _; omega)).mono ?_
 rintro r U3 ⟨rfl, c3⟩
 have y3 : w.heap.size + 1 < U3.heap.size := Nat.lt_of_lt_of_le y2 c3.size
 have u3 : Below w.heap.size w U3 := u2.trans (c3.mono (by omega))
 have b3 : U3.heap[w.heap.size]? = _ := (c3.block _ (by omega)).trans b2
 have r3 : U3.heap[w.heap.size + 1]? = _ := (c3.block _ (by omega)).trans r2
 go_simp
 have hS2 := (cells_of b3).1
 refine hK _ _ ⟨hS2, ?_⟩
 clear hK K hS
 have hS := hS2
 clear hS2
 try simp only [Act.put, sd, se, sf]
 obtain ⟨bc3, bf3⟩ := cells_of b3
 refine one 7 rfl (fun K hK => ?_)
 simp only [sa, sb, sc]
 go_simp
 obtain ⟨U4, hU4⟩ : ∃ W, W = U3.setCell ⟨w.heap.size, 1, none⟩ (.string t) := ⟨_, rfl⟩
 rw [← hU4]
 have k4 : Kp (· = w.heap.size) U3 U4 := by rw [hU4]; exact Kp.set _ _ _ _ rfl
 have b4 : U4.heap[w.heap.size]? = some (.cells #[.int .i64 k, .string t, .int .i64 n, .int .u64 0, .string ⟨#[]⟩, .int .i64 o, .int .i64 f, .int .i64 l, .int .i64 c, .slice none 0 0, .slice none 0 0] 32) := by rw [hU4]; exact heap_set b3 1 _
 clear hU4
 have y4 := k4.size
 have r4 : U4.heap[w.heap.size + 1]? = _ := (k4.block _ (by omega) (by omega)).trans r3
 have u4 : Below w.heap.size w U4 := u3.trans (k4.below (by omega) fun i hi h => by omega)
 refine hK _ _ ⟨(cells_of b4).1, ?_⟩
 clear hK K hS
 have hS := (cells_of b4).1
 try simp only [Act.put, sd, se, sf]
 obtain ⟨bc4, bf4⟩ := cells_of b4
 refine tq 8 (.pointer (some ⟨w.heap.size, 4, none⟩)) rfl hS ?_
 simp only [sa, sb, sc, Act.put, sd, se, sf]
 refine one 9 rfl (fun K hK => ?_)
 simp only [sa, sb, sc]
 go_simp
 obtain ⟨U5, hU5⟩ : ∃ W, W = U4.setCell ⟨w.heap.size, 4, none⟩ (.string ⟨#[]⟩) := ⟨_, rfl⟩
 rw [← hU5]
 have k5 : Kp (· = w.heap.size) U4 U5 := by rw [hU5]; exact Kp.set _ _ _ _ rfl
 have b5 : U5.heap[w.heap.size]? = some (.cells #[.int .i64 k, .string t, .int .i64 n, .int .u64 0, .string ⟨#[]⟩, .int .i64 o, .int .i64 f, .int .i64 l, .int .i64 c, .slice none 0 0, .slice none 0 0] 32) := by rw [hU5]; exact heap_set b4 4 _
 clear hU5
 have y5 := k5.size
 have r5 : U5.heap[w.heap.size + 1]? = _ := (k5.block _ (by omega) (by omega)).trans r4
 have u5 : Below w.heap.size w U5 := u4.trans (k5.below (by omega) fun i hi h => by omega)
 refine hK _ _ ⟨(cells_of b5).1, ?_⟩
 clear hK K hS
 have hS := (cells_of b5).1
 try simp only [Act.put, sd, se, sf]
 refine dn ?_
 try simp only [Act.put]
 obtain ⟨bc5, bf5⟩ := cells_of b5
 obtain ⟨rc5, rf5⟩ := cells_of r5
 go_wp2_with fail
 obtain ⟨U6, hU6⟩ : ∃ W, W = U5.setCell ⟨w.heap.size, 9, none⟩ (.slice none 0 0) := ⟨_, rfl⟩
 rw [← hU6]
 have k6 : Kp (· = w.heap.size) U5 U6 := by rw [hU6]; exact Kp.set _ _ _ _ rfl
 have b6 : U6.heap[w.heap.size]? = some (.cells #[.int .i64 k, .string t, .int .i64 n, .int .u64 0, .string ⟨#[]⟩, .int .i64 o, .int .i64 f, .int .i64 l, .int .i64 c, .slice none 0 0, .slice none 0 0] 32) := by rw [hU6]; exact heap_set b5 9 _
 clear hU6
 have y6 := k6.size
 have r6 : U6.heap[w.heap.size + 1]? = _ := (k6.block _ (by omega) (by omega)).trans r5
 have u6 : Below w.heap.size w U6 := u5.trans (k6.below (by omega) fun i hi h => by omega)
 refine (copies_nil _).mono ?_
 rintro _ U7 ⟨rfl, hU7⟩
 obtain rfl := hU7.symm
 clear bc5 bf5 rc5 rf5 bc3 bf3 bc4 bf4 hS
 obtain ⟨bc6, bf6⟩ := cells_of b6
 obtain ⟨rc6, rf6⟩ := cells_of r6
 go_wp2_with fail
 obtain ⟨U7, hU7⟩ : ∃ W, W = U6.setCell ⟨w.heap.size, 10, none⟩ (.slice none 0 0) := ⟨_, rfl⟩
 rw [← hU7]
 have u7 : Below w.heap.size w U7 := by rw [hU7]; exact u6.setCell (p := ⟨w.heap.size, 10, none⟩) (Nat.le_refl _) _
 have r7 : U7.heap[w.heap.size + 1]? = some (.cells #[.int .i64 0, .string ⟨#[]⟩, .int .i64 0, .int .u64 0, .string ⟨#[]⟩, .int .i64 0, .int .i64 0, .int .i64 0, .int .i64 0, .slice none 0 0, .slice none 0 0] 32) := by rw [hU7, heap_set_other _ _ _ _ _ (by omega)]; exact r6
 clear hU7
 have hb := bset u7 (b := w.heap.size + 1) (by omega) (.int .i64 k) (.string t) (.int .i64 n) (.int .u64 0) (.string ⟨#[]⟩) (.int .i64 o) (.int .i64 f) (.int .i64 l) (.int .i64 c) (.slice none 0 0) (.slice none 0 0)
 have hr := eleven_set r7 (.int .i64 k) (.string t) (.int .i64 n) (.int .u64 0) (.string ⟨#[]⟩) (.int .i64 o) (.int .i64 f) (.int .i64 l) (.int .i64 c) (.slice none 0 0) (.slice none 0 0)
 obtain ⟨U8, hU8⟩ : ∃ W, W = (((((((((((U7.setCell ⟨w.heap.size + 1, 0, none⟩ (.int .i64 k)).setCell ⟨w.heap.size + 1, 1, none⟩ (.string t)).setCell ⟨w.heap.size + 1, 2, none⟩ (.int .i64 n)).setCell ⟨w.heap.size + 1, 3, none⟩ (.int .u64 0)).setCell ⟨w.heap.size + 1, 4, none⟩ (.string ⟨#[]⟩)).setCell ⟨w.heap.size + 1, 5, none⟩ (.int .i64 o)).setCell ⟨w.heap.size + 1, 6, none⟩ (.int .i64 f)).setCell ⟨w.heap.size + 1, 7, none⟩ (.int .i64 l)).setCell ⟨w.heap.size + 1, 8, none⟩ (.int .i64 c)).setCell ⟨w.heap.size + 1, 9, none⟩ (.slice none 0 0)).setCell ⟨w.heap.size + 1, 10, none⟩ (.slice none 0 0)) := ⟨_, rfl⟩
 rw [← hU8] at hb hr ⊢
 clear hU8
 have rc8 := (cells_of hr).1
 exact bodyPost_ret (v := (flatD k t n o f l c).val) (by simp [results, Tryz.results41, go_sem, rc8, flatD, MD.val, D]) rfl ⟨rfl, hb⟩
end Go.Proofs.YtdbijkgnddcneaaGreatDoor
namespace Go.Proofs.YtdbijkgnddcneaaGreatDoor
open Go.RowKit Go.ChangeMaps
set_option maxRecDepth 100000
set_option maxHeartbeats 4000000
attribute [local go_sem] refold2 cell3_0 cell3_1 b28_0 b28_01 nz26 nz23
def Flat (d : MD) : Prop := ∃ k t n o f l c, d = flatD k t n o f l c ∧ t.size ≤ 60000
theorem Flat.whole (z : Int) : Flat (wholeD z) := ⟨2, ⟨#[105, 110, 116]⟩, z, 0, 0, 0, 0, rfl, by show 3 ≤ 60000; omega⟩
def putL (cs : Array Value) : Nat → List Value → Array Value
 | _, [] => cs
 | o, v :: r => putL (cs.setIfInBounds o v) (o + 1) r
theorem putL_size : ∀ (vs : List Value) (o : Nat) (cs : Array Value), (putL cs o vs).size = cs.size
 | [], _, _ => rfl
 | v :: r, o, cs => by show (putL (cs.setIfInBounds o v) (o + 1) r).size = _; rw [putL_size r]; simp
theorem putL_append : ∀ (xs ys : List Value) (o : Nat) (cs : Array Value), putL cs o (xs ++ ys) = putL (putL cs o xs) (o + xs.length) ys
 | [], _, _, _ => rfl
 | v :: r, ys, o, cs => by
  show putL (cs.setIfInBounds o v) (o + 1) (r ++ ys) = putL (putL (cs.setIfInBounds o v) (o + 1) r) (o + (r.length + 1)) ys
  rw [putL_append r ys, show o + 1 + r.length = o + (r.length + 1) by omega]
theorem putL_out : ∀ (vs : List Value) (o : Nat) (cs : Array Value) (j : Nat), (j < o ∨ o + vs.length ≤ j) → (putL cs o vs)[j]? = cs[j]?
 | [], _, _, _, _ => rfl
 | v :: r, o, cs, j, h => by
  show (putL (cs.setIfInBounds o v) (o + 1) r)[j]? = _
  simp only [List.length_cons] at h
  rw [putL_out r (o + 1) _ j (by omega), Array.getElem?_setIfInBounds_ne (by omega)]
theorem putL_in : ∀ (vs : List Value) (o : Nat) (cs : Array Value) (j : Nat), j < vs.length → o + vs.length ≤ cs.size → (putL cs o vs)[o + j]? = vs[j]?
 | v :: r, o, cs, 0, _, hs => by
  show (putL (cs.setIfInBounds o v) (o + 1) r)[o + 0]? = _
  simp only [List.length_cons] at hs
  rw [putL_out r (o + 1) _ _ (by omega), Nat.add_zero, Array.getElem?_setIfInBounds_self_of_lt (by omega)]; rfl
 | v :: r, o, cs, j + 1, h, hs => by
  show (putL (cs.setIfInBounds o v) (o + 1) r)[o + (j + 1)]? = _
  simp only [List.length_cons] at h hs
  rw [show o + (j + 1) = o + 1 + j by omega, putL_in r (o + 1) _ j (by omega) (by simp; omega)]; rfl
theorem putL_heap {g : Nat} {t : TypeId} : ∀ (vs : List Value) (o : Nat) (w : World) (cs : Array Value), w.heap[g]? = some (.cells cs t) → (w.setCells g o vs).heap[g]? = some (.cells (putL cs o vs) t)
 | [], _, _, _, h => h
 | v :: r, o, w, _cs, h => putL_heap r (o + 1) (w.setCell ⟨g, o, none⟩ v) _ (heap_set h o v)
theorem kp_setCells {g : Nat} : ∀ (vs : List Value) (o : Nat) (w : World), Kp (· = g) w (w.setCells g o vs)
 | [], _, w => Kp.refl _ w
 | v :: r, o, w => (Kp.set (S := (· = g)) w g o v rfl).trans (S' := (· = g)) (kp_setCells r (o + 1) (w.setCell ⟨g, o, none⟩ v)) fun _ _ h => h
theorem rowOf_snoc : ∀ (l : List MD) (d : MD), rowOf (l ++ [d]) = rowOf l ++ d.cells.toList
 | [], d => by show d.cells.toList ++ [] = _; simp [rowOf]
 | x :: l, d => by show x.cells.toList ++ rowOf (l ++ [d]) = (x.cells.toList ++ rowOf l) ++ _; rw [rowOf_snoc l d, List.append_assoc]
theorem old_cellsP {w : World} {g p m : Nat} (h : w.there g 0 m) (hk : p + 11 ≤ m) : ∃ u0 u1 u2 u3 u4 u5 u6 u7 u8 u9 u10 : Value, (w.cell? ⟨g, p, none⟩ = some u0 ∧ w.cell? ⟨g, p + 1, none⟩ = some u1 ∧ w.cell? ⟨g, p + 2, none⟩ = some u2 ∧ w.cell? ⟨g, p + 3, none⟩ = some u3 ∧ w.cell? ⟨g, p + 4, none⟩ = some u4 ∧ w.cell? ⟨g, p + 5, none⟩ = some u5 ∧ w.cell? ⟨g, p + 6, none⟩ = some u6 ∧ w.cell? ⟨g, p + 7, none⟩ = some u7 ∧ w.cell? ⟨g, p + 8, none⟩ = some u8 ∧ w.cell? ⟨g, p + 9, none⟩ = some u9 ∧ w.cell? ⟨g, p + 10, none⟩ = some u10) ∧
  (w.frozen? ⟨g, p, none⟩ = false ∧ w.frozen? ⟨g, p + 1, none⟩ = false ∧ w.frozen? ⟨g, p + 2, none⟩ = false ∧ w.frozen? ⟨g, p + 3, none⟩ = false ∧ w.frozen? ⟨g, p + 4, none⟩ = false ∧ w.frozen? ⟨g, p + 5, none⟩ = false ∧ w.frozen? ⟨g, p + 6, none⟩ = false ∧ w.frozen? ⟨g, p + 7, none⟩ = false ∧ w.frozen? ⟨g, p + 8, none⟩ = false ∧ w.frozen? ⟨g, p + 9, none⟩ = false ∧ w.frozen? ⟨g, p + 10, none⟩ = false) := by
 have key := there_part h hk
 have get : ∀ j, j < 11 → ∃ u, w.cell? ⟨g, p + j, none⟩ = some u := fun j hj => Option.isSome_iff_exists.1 (key j hj).1
 obtain ⟨u0, e0⟩ := get 0 (by omega)
 obtain ⟨u1, e1⟩ := get 1 (by omega)
 obtain ⟨u2, e2⟩ := get 2 (by omega)
 obtain ⟨u3, e3⟩ := get 3 (by omega)
 obtain ⟨u4, e4⟩ := get 4 (by omega)
 obtain ⟨u5, e5⟩ := get 5 (by omega)
 obtain ⟨u6, e6⟩ := get 6 (by omega)
 obtain ⟨u7, e7⟩ := get 7 (by omega)
 obtain ⟨u8, e8⟩ := get 8 (by omega)
 obtain ⟨u9, e9⟩ := get 9 (by omega)
 obtain ⟨u10, e10⟩ := get 10 (by omega)
 exact ⟨u0, u1, u2, u3, u4, u5, u6, u7, u8, u9, u10, ⟨e0, e1, e2, e3, e4, e5, e6, e7, e8, e9, e10⟩, (key 0 (by omega)).2, (key 1 (by omega)).2, (key 2 (by omega)).2, (key 3 (by omega)).2, (key 4 (by omega)).2, (key 5 (by omega)).2, (key 6 (by omega)).2, (key 7 (by omega)).2, (key 8 (by omega)).2, (key 9 (by omega)).2, (key 10 (by omega)).2⟩
def LRel (g o : Nat) (cs : Array Value) (ds : List MD) (w : World) (i : Value) (wr : World) : Prop := ∃ k : Nat, i = .int .i64 k ∧ k ≤ ds.length ∧ wr.heap[g]? = some (.cells (putL cs o (rowOf (ds.take k))) 32) ∧ Kp (· = g) w wr
theorem there_row {W : World} {g m : Nat} {cur : Array Value} (hg : W.heap[g]? = some (.cells cur 32)) (hm : m ≤ cur.size) : W.there g 0 m := there_at hg hm
theorem layCopies_flat (g o gs os nu cu cap : Nat) (cs : Array Value) (ds : List MD) (hds : ∀ d ∈ ds, Flat d) (hl : ds.length ≤ 1048576) (hu : ds.length ≤ nu) (w : World) (hg : w.heap[g]? = some (.cells cs 32)) (ho : o + ds.length * 11 ≤ cs.size) (hne : gs ≠ g) (hgs : gs < w.heap.size) (hsrc : ∀ (i : Nat) (hi : i < ds.length), MD.CellsAt w gs (os + i * 11) ds[i]) :
  Calls Tryz.prog 42 #[.slice (some ⟨g, o, none⟩) nu cu, .slice (some ⟨gs, os, none⟩) ds.length cap] w fun r w' => r = .returned (.tuple #[]) ∧ w'.heap[g]? = some (.cells (putL cs o (rowOf ds)) 32) ∧ Kp (· = g) w w' := by
 go_enter Tryz.func42, Tryz.ntmps42
 go_wp2_with fail
 go_loopw [8] (fun i wr => LRel g o cs ds w i wr) (fun i _ => ds.length - (intOf i).toNat)
 case atStart => exact ⟨0, rfl, Nat.zero_le _, hg, Kp.refl _ _⟩
 case round =>
  obtain ⟨k, rfl, hk, hrow, hkp⟩ := hrel
  have hlen : ds.length ≤ 1048576 := by omega
  by_cases hlt : k < ds.length
  ·have i1 : (k : Int) < ds.length := by omega
   have i2 : (k : Int) < nu := by omega
   have hC := hsrc k hlt
   have hC : MD.CellsAt wr gs (os + k * 11) ds[k] := fun j hj => (World.cell?_of_block (a := ⟨gs, os + k * 11 + j, none⟩) (hkp.block gs hgs hne)).trans (hC j hj)
   have HN : Hid (∀ w9, Below wr.heap.size wr w9 → LRel g o cs ds w (.int .i64 ((k : Int) + 1)) (w9.setCells g (o + k * 11) ds[k].cells.toList)) := fun w9 h9 => by
    have hr9 := (h9.block g (hblk hrow)).trans hrow
    refine ⟨k + 1, by simp, hlt, ?_, (hkp.next h9).trans (kp_setCells _ _ _) fun _ _ h => h⟩
    rw [putL_heap _ _ _ _ hr9, List.take_succ_eq_append_getElem hlt, rowOf_snoc, putL_append, rowOf_length, List.length_take, Nat.min_eq_left (by omega)]
   have HO : Hid (wr.there g 0 cs.size) := there_row hrow (by rw [putL_size]; exact Nat.le_refl _)
   have hF := hds _ (List.getElem_mem hlt)
   have hgl := hblk hrow
   generalize ds[k] = kid at hC HN hF
   obtain ⟨k0, k1, k2, k5, k6, k7, k8, rfl, ht⟩ := hF
   have c0 : wr.cell? ⟨gs, os + k * 11, none⟩ = some (.int .i64 k0) := hC 0 (by omega)
   have c1 : wr.cell? ⟨gs, os + k * 11 + 1, none⟩ = some (.string k1) := hC 1 (by omega)
   have c2 : wr.cell? ⟨gs, os + k * 11 + 2, none⟩ = some (.int .i64 k2) := hC 2 (by omega)
   have c3 : wr.cell? ⟨gs, os + k * 11 + 3, none⟩ = some (.int .u64 0) := hC 3 (by omega)
   have c4 : wr.cell? ⟨gs, os + k * 11 + 4, none⟩ = some (.string ⟨#[]⟩) := hC 4 (by omega)
   have c5 : wr.cell? ⟨gs, os + k * 11 + 5, none⟩ = some (.int .i64 k5) := hC 5 (by omega)
   have c6 : wr.cell? ⟨gs, os + k * 11 + 6, none⟩ = some (.int .i64 k6) := hC 6 (by omega)
   have c7 : wr.cell? ⟨gs, os + k * 11 + 7, none⟩ = some (.int .i64 k7) := hC 7 (by omega)
   have c8 : wr.cell? ⟨gs, os + k * 11 + 8, none⟩ = some (.int .i64 k8) := hC 8 (by omega)
   have c9 : wr.cell? ⟨gs, os + k * 11 + 9, none⟩ = some (.slice none 0 0) := hC 9 (by omega)
   have c10 : wr.cell? ⟨gs, os + k * 11 + 10, none⟩ = some (.slice none 0 0) := hC 10 (by omega)
   have HC : Hid (∀ W, Calls Tryz.prog 41 #[.agg #[.int .i64 k0, .string k1, .int .i64 k2, .int .u64 0, .string ⟨#[]⟩, .int .i64 k5, .int .i64 k6, .int .i64 k7, .int .i64 k8, .slice none 0 0, .slice none 0 0]] W fun r w' => r = .returned (flatD k0 k1 k2 k5 k6 k7 k8).val ∧ Below W.heap.size W w') := fun W => copied_flat k0 k1 k2 k5 k6 k7 k8 ht W
   have HOk : Hid (o + k * 11 + 11 ≤ cs.size) := by show _ ≤ _; omega
   clear hC hsrc hrow hkp hds ho hg
   go_wp2_with (go_at_call 41; refine (HC.out _).mono ?_; rintro r w9 ⟨rfl, hd4⟩; have hd5 : Below wr.heap.size wr w9 := (below1 _ _).trans (hd4.mono (by simp)); have HR2 : Hid _ := HN.out w9 hd5; obtain ⟨u0, u1, u2, u3, u4, u5, u6, u7, u8, u9, u10, ⟨e0, e1, e2, e3, e4, e5, e6, e7, e8, e9, e10⟩, f0, f1, f2, f3, f4, f5, f6, f7, f8, f9, f10⟩ := old_cellsP (there_below HO.out hgl hd5) HOk.out; simp only [flatD, MD.val, D]; clear hd4 hd5)
   exact ⟨HR2.out, by simp [intOf]; omega⟩
  ·have i1 : ¬ (k : Int) < ds.length := by omega
   obtain rfl : k = ds.length := by omega
   rw [List.take_length] at hrow
   go_wp2_with fail
   exact bodyPost_end (results_none rfl _ _ _) rfl ⟨rfl, hrow, hkp⟩
end Go.Proofs.YtdbijkgnddcneaaGreatDoor
namespace Go.Proofs.YtdbijkgnddcneaaGreatDoor
open Go.RowKit Go.ChangeMaps
set_option maxRecDepth 100000
set_option maxHeartbeats 4000000
attribute [local go_sem] refold2 cell3_0 cell3_1 b28_0 b28_01 nz26 nz23 b32_012 b32_015 b30_023 b30_0123 b30_0 b131_0
theorem info32z : (Tryz.prog.info? 32).map (fun i => (i.zero, i.size, i.bytes)) = some (some (.agg #[.int .i64 0, .string ⟨#[]⟩, .int .i64 0, .int .u64 0, .string ⟨#[]⟩, .int .i64 0, .int .i64 0, .int .i64 0, .int .i64 0, .slice none 0 0, .slice none 0 0]), 11, 136) := by kernel_rfl
theorem putL_all {cs : Array Value} {vs : List Value} (h : vs.length = cs.size) : putL cs 0 vs = vs.toArray := by
 apply Array.ext
 ·rw [putL_size]; simp [h]
 ·intro i h1 h2
  have := putL_in vs 0 cs i (by simpa using h2) (by omega)
  rw [Nat.zero_add, Array.getElem?_eq_getElem h1] at this
  simp at h2
  rw [List.getElem?_eq_getElem h2] at this
  simpa using this
theorem mk_rows (m : Nat) (hm : m ≤ 1048576) : ∃ Y : Array Value, Y.size = m * 11 ∧ ∀ W : World, (Instr.makeSlice 27 (.int .i64 (m : Int)) (.int .i64 (m : Int))).run Tryz.prog W = .ok (.slice (some ⟨W.heap.size, 0, none⟩) m m) (W.alloc (.cells Y 32)) := by
 obtain ⟨i0, hi, hz0, hz1, hz2⟩ := info_parts info32z
 refine ⟨madeCells (Value.agg #[.int .i64 0, .string ⟨#[]⟩, .int .i64 0, .int .u64 0, .string ⟨#[]⟩, .int .i64 0, .int .i64 0, .int .i64 0, .int .i64 0, .slice none 0 0, .slice none 0 0]).cells (((m : Nat) : Int).toNat * i0.size), by rw [size_madeCells, hz1]; simp, fun W => ?_⟩
 have h := run_make (P := Tryz.prog) W 27 32 i0 (.agg #[.int .i64 0, .string ⟨#[]⟩, .int .i64 0, .int .u64 0, .string ⟨#[]⟩, .int .i64 0, .int .i64 0, .int .i64 0, .int .i64 0, .slice none 0 0, .slice none 0 0]) Tryz.underlying27 hi hz0 .i64 .i64 (m : Int) (m : Int) (by omega) (by omega) (by rw [hz2]; omega) (by omega)
 simpa using h
theorem copies_flat (gs os cap : Nat) (ds : List MD) (hds : ∀ d ∈ ds, Flat d) (h0 : 0 < ds.length) (hl : ds.length ≤ 1048576) (w : World) (hgs : gs < w.heap.size) (hsrc : ∀ (i : Nat) (hi : i < ds.length), MD.CellsAt w gs (os + i * 11) ds[i]) :
  Calls Tryz.prog 35 #[.slice (some ⟨gs, os, none⟩) ds.length cap] w fun r w' => ∃ g, r = .returned (.slice (some ⟨g, 0, none⟩) ds.length ds.length) ∧ w'.heap[g]? = some (.cells (rowOf ds).toArray 32) ∧ Below w.heap.size w w' ∧ w.heap.size ≤ g := by
 obtain ⟨Y, hY, hmk⟩ := mk_rows ds.length hl
 have h00 : ¬ ds.length = 0 := by omega
 have h01 : ((ds.length : Int) == 0) = false := by rw [beq_eq_false_iff_ne]; omega
 go_enter Tryz.func35, Tryz.ntmps35
 go_wp2_with fail
 have hrow : (w.alloc (.cells Y 32)).heap[w.heap.size]? = some (.cells Y 32) := heap_alloc_new w _
 have hb := below1 w (.cells Y 32)
 refine Calls.mono (layCopies_flat w.heap.size 0 gs os ds.length ds.length cap Y ds hds (by omega) (Nat.le_refl _) _ hrow (by omega) (by omega) (by simp; omega) (fun i hi => (hsrc i hi).below hgs hb)) ?_
 rintro _ V ⟨rfl, hV, kV⟩
 have uV : Below w.heap.size w V := hb.trans (kV.below (by simp) fun i hi e => by omega)
 rw [putL_all (by rw [rowOf_length, hY])] at hV
 clear hrow hb kV
 go_wp2_with fail
 go_ret
 exact ⟨w.heap.size, rfl, hV, uV, Nat.le_refl _⟩
structure FlatR (d : MD) : Prop where
 flat : Flat d
 fine : MD.Fine d.h
 right : MD.right 4 d = true
theorem FlatR.inn {d : MD} (h : FlatR d) (B : Nat) (w : World) : MD.In B w 4 d := by
 obtain ⟨⟨k, t, n, o, f, l, c, rfl, ht⟩, hf, _⟩ := h
 exact ⟨hf, ⟨fun x hx => (by cases hx), .inl rfl⟩, Nat.le_refl _, Nat.zero_le _, .inl rfl⟩
theorem FlatR.whole (z : Int) (h0 : -9223372036854775808 ≤ z) (h1 : z ≤ 9223372036854775807) : FlatR (wholeD z) :=
 ⟨Flat.whole z, ⟨by show (-9223372036854775808 : Int) ≤ 2; decide, by show (2 : Int) ≤ 9223372036854775807; decide, h0, h1, by show (0 : Int) ≤ 0; decide, by show (0 : Int) ≤ 18446744073709551615; decide, by show (-9223372036854775808 : Int) ≤ 0; decide, by show (0 : Int) ≤ 9223372036854775807; decide, by show (-9223372036854775808 : Int) ≤ 0; decide, by show (0 : Int) ≤ 9223372036854775807; decide, by show (-9223372036854775808 : Int) ≤ 0; decide, by show (0 : Int) ≤ 9223372036854775807; decide, by show (-9223372036854775808 : Int) ≤ 0; decide, by show (0 : Int) ≤ 9223372036854775807; decide, by show 3 ≤ maxLen; decide, by show 0 ≤ maxLen; decide, Nat.le_refl _, by show 0 ≤ maxLen; decide⟩, by kernel_rfl⟩
theorem allRight_none (c : Nat) (q : Option Addr) (w : World) : Calls Tryz.prog 32 #[.slice q 0 c] w fun r w' => r = .returned (.bool true) ∧ w' = w := by
 go_enter Tryz.func32, Tryz.ntmps32
 go_wp2_with fail
 go_loopw [7] (fun i wr => i = .int .i64 0 ∧ wr = w) (fun _ _ => 0)
 case atStart => exact ⟨rfl, rfl⟩
 case round =>
  obtain ⟨rfl, rfl⟩ := hrel
  go_wp2_with fail
  go_ret
  exact ⟨rfl, rfl⟩
theorem allRight_flat (gs os cap : Nat) (ds : List MD) (hds : ∀ d ∈ ds, FlatR d) (hl : ds.length ≤ 1048576) (w : World) (hN : NamesAt w) (hgs : gs < w.heap.size) (hsrc : ∀ (i : Nat) (hi : i < ds.length), MD.CellsAt w gs (os + i * 11) ds[i]) :
  Calls Tryz.prog 32 #[.slice (some ⟨gs, os, none⟩) ds.length cap] w fun r w' => r = .returned (.bool true) ∧ Below w.heap.size w w' := by
 go_enter Tryz.func32, Tryz.ntmps32
 go_wp2_with fail
 go_loopw [7] (fun i wr => ∃ k : Nat, i = .int .i64 k ∧ k ≤ ds.length ∧ Below w.heap.size w wr) (fun i _ => ds.length - (intOf i).toNat)
 case atStart => exact ⟨0, rfl, Nat.zero_le _, Below.refl _ _⟩
 case round =>
  obtain ⟨k, rfl, hk, hb⟩ := hrel
  have hlen : ds.length ≤ 1048576 := by omega
  by_cases hlt : k < ds.length
  ·have i1 : (k : Int) < ds.length := by omega
   have hC := (hsrc k hlt).below hgs hb
   have hF := hds _ (List.getElem_mem hlt)
   have HC : Hid (∀ W, Below w.heap.size w W → Calls Tryz.prog 39 #[ds[k].val] W fun r w' => r = .returned (.bool true) ∧ Below W.heap.size W w') := fun W hW => by
    have := Right_any 4 ds[k] W (hN.kept hW) (hF.inn _ _)
    rw [hF.right] at this
    exact this
   obtain ⟨k0, k1, k2, k5, k6, k7, k8, e, ht⟩ := hF.flat
   rw [e] at hC HC
   have c0 : wr.cell? ⟨gs, os + k * 11, none⟩ = some (.int .i64 k0) := hC 0 (by omega)
   have c1 : wr.cell? ⟨gs, os + k * 11 + 1, none⟩ = some (.string k1) := hC 1 (by omega)
   have c2 : wr.cell? ⟨gs, os + k * 11 + 2, none⟩ = some (.int .i64 k2) := hC 2 (by omega)
   have c3 : wr.cell? ⟨gs, os + k * 11 + 3, none⟩ = some (.int .u64 0) := hC 3 (by omega)
   have c4 : wr.cell? ⟨gs, os + k * 11 + 4, none⟩ = some (.string ⟨#[]⟩) := hC 4 (by omega)
   have c5 : wr.cell? ⟨gs, os + k * 11 + 5, none⟩ = some (.int .i64 k5) := hC 5 (by omega)
   have c6 : wr.cell? ⟨gs, os + k * 11 + 6, none⟩ = some (.int .i64 k6) := hC 6 (by omega)
   have c7 : wr.cell? ⟨gs, os + k * 11 + 7, none⟩ = some (.int .i64 k7) := hC 7 (by omega)
   have c8 : wr.cell? ⟨gs, os + k * 11 + 8, none⟩ = some (.int .i64 k8) := hC 8 (by omega)
   have c9 : wr.cell? ⟨gs, os + k * 11 + 9, none⟩ = some (.slice none 0 0) := hC 9 (by omega)
   have c10 : wr.cell? ⟨gs, os + k * 11 + 10, none⟩ = some (.slice none 0 0) := hC 10 (by omega)
   clear hC hsrc hF e hds
   go_wp2_with fail
   refine Calls.mono (HC.out _ (hb.trans ((below1 _ _).mono hb.size))) ?_
   rintro _ W ⟨rfl, hW⟩
   have hW2 : Below w.heap.size w W := hb.trans (((below1 _ _).trans (hW.mono (by simp))).mono hb.size)
   clear hW hb
   go_wp2_with fail
   exact ⟨⟨k + 1, by simp, hlt, hW2⟩, by simp [intOf]; omega⟩
  ·have i1 : ¬ (k : Int) < ds.length := by omega
   go_wp2_with fail
   go_ret
   exact ⟨rfl, hb⟩
end Go.Proofs.YtdbijkgnddcneaaGreatDoor
namespace Go.Proofs.YtdbijkgnddcneaaGreatDoor
open Go.RowKit Go.ChangeMaps
set_option maxRecDepth 100000
set_option maxHeartbeats 4000000
attribute [local go_sem] refold2 cell3_0 cell3_1 b28_0 b28_01 nz26 nz23 b32_012 b32_015 b30_023 b30_0123 b30_0 b131_0
theorem kp_eleven (w : World) (b : Nat) (v0 v1 v2 v3 v4 v5 v6 v7 v8 v9 v10 : Value) : Kp (· = b) w ((((((((((((w.setCell ⟨b, 0, none⟩ (v0)).setCell ⟨b, 1, none⟩ (v1)).setCell ⟨b, 2, none⟩ (v2)).setCell ⟨b, 3, none⟩ (v3)).setCell ⟨b, 4, none⟩ (v4)).setCell ⟨b, 5, none⟩ (v5)).setCell ⟨b, 6, none⟩ (v6)).setCell ⟨b, 7, none⟩ (v7)).setCell ⟨b, 8, none⟩ (v8)).setCell ⟨b, 9, none⟩ (v9)).setCell ⟨b, 10, none⟩ (v10))) := kp_setCells [v0, v1, v2, v3, v4, v5, v6, v7, v8, v9, v10] 0 w
def arrV (ab : Nat) : Value := .iface 129 (.pointer (some ⟨ab, 0, none⟩))
theorem listOf_any (hb M : Nat) (vs : List Value) (hl : vs.length < 1000) (nm : ByteArray) (hnm : nm.size ≤ 60000) (p : Option Addr) (n : Nat) (_hn : n ≤ 1048576) (len : Int) (w : World) (h : HeapAt w hb M vs) :
  Calls Tryz.prog 34 #[.pointer (some ⟨hb, 0, none⟩), .string nm, .slice p n n, .int .i64 len] w fun r w' => r = .returned (.tuple #[(leadD 5 nm ((vs.length : Int) + 1) 0 len n).val, .nilIface]) ∧ ∃ ab, HeapAt w' hb M (vs ++ [arrV ab]) ∧ w'.heap[ab]? = some (.cells #[.slice p n n] 131) ∧ Kp (fun b => b = hb ∨ b = M) w w' ∧ w.heap.size ≤ ab := by
 have HA : Hid (∀ v W, HeapAt W hb M vs → Calls Tryz.prog 43 #[.pointer (some ⟨hb, 0, none⟩), v] W fun r w' => r = .returned (.tuple #[.int .i64 ((vs.length : Int) + 1), .nilIface]) ∧ HeapAt w' hb M (vs ++ [v]) ∧ Kp (fun b => b = hb ∨ b = M) W w') := fun v W hW => add_any v hb M vs hl W hW
 have hlt1 := hblk h.box
 have hlt2 := hblk h.map
 go_enter Tryz.func34, Tryz.ntmps34
 go_wp2_with fail
 have hb2 := below2 w (.cells #[.int .i64 0, .string ⟨#[]⟩, .int .i64 0, .int .u64 0, .string ⟨#[]⟩, .int .i64 0, .int .i64 0, .int .i64 0, .int .i64 0, .slice none 0 0, .slice none 0 0] 32) (.cells #[.slice p n n] 131)
 have ha : ((w.alloc (.cells #[.int .i64 0, .string ⟨#[]⟩, .int .i64 0, .int .u64 0, .string ⟨#[]⟩, .int .i64 0, .int .i64 0, .int .i64 0, .int .i64 0, .slice none 0 0, .slice none 0 0] 32)).alloc (.cells #[.slice p n n] 131)).heap[w.heap.size + 1]? = some (.cells #[.slice p n n] 131) := heap2_1 _ _ _
 have hr : ((w.alloc (.cells #[.int .i64 0, .string ⟨#[]⟩, .int .i64 0, .int .u64 0, .string ⟨#[]⟩, .int .i64 0, .int .i64 0, .int .i64 0, .int .i64 0, .slice none 0 0, .slice none 0 0] 32)).alloc (.cells #[.slice p n n] 131)).heap[w.heap.size]? = some (.cells #[.int .i64 0, .string ⟨#[]⟩, .int .i64 0, .int .u64 0, .string ⟨#[]⟩, .int .i64 0, .int .i64 0, .int .i64 0, .int .i64 0, .slice none 0 0, .slice none 0 0] 32) := by rw [Below.heap_alloc _ _ _ (by simp)]; exact heap_alloc_new _ _
 refine (HA.out _ _ (h.below hb2)).mono ?_
 rintro _ V ⟨rfl, hV, kV⟩
 have ha1 := (kV.block _ (hblk ha) (by omega)).trans ha
 have hr1 := (kV.block _ (hblk hr) (by omega)).trans hr
 have k1 : Kp (fun b => b = hb ∨ b = M) w V := (Kp.of hb2).trans kV fun _ _ e => e
 have y1 : w.heap.size + 2 ≤ V.heap.size := by have := kV.size; simp at this; omega
 clear ha hr hb2 kV
 go_wp2_with fail
 refine Calls.mono (leading_any 5 ((vs.length : Int) + 1) 0 len n nm hnm _) ?_
 rintro _ V2 ⟨rfl, u2⟩
 have ha2 := (u2.block _ (hblk ha1)).trans ha1
 have hr2 := (u2.block _ (hblk hr1)).trans hr1
 have k2 := k1.next u2
 have hV2 := hV.below u2
 have y2 := u2.size
 clear ha1 hr1 k1 u2 hV
 obtain ⟨rc2, rf2⟩ := cells_of hr2
 simp only [leadD, MD.val, D, List.length_nil]
 go_wp2_with fail
 have kU8 := kp_eleven V2 (w.heap.size) (.int .i64 5) (.string nm) (.int .i64 0) (.int .u64 0) (.string ⟨#[]⟩) (.int .i64 ((vs.length : Int) + 1)) (.int .i64 0) (.int .i64 len) (.int .i64 n) (.slice none 0 0) (.slice none 0 0)
 have hrU8 := eleven_set hr2 (.int .i64 5) (.string nm) (.int .i64 0) (.int .u64 0) (.string ⟨#[]⟩) (.int .i64 ((vs.length : Int) + 1)) (.int .i64 0) (.int .i64 len) (.int .i64 n) (.slice none 0 0) (.slice none 0 0)
 obtain ⟨U8, hU8⟩ : ∃ W, W = (((((((((((V2.setCell ⟨w.heap.size, 0, none⟩ (.int .i64 5)).setCell ⟨w.heap.size, 1, none⟩ (.string nm)).setCell ⟨w.heap.size, 2, none⟩ (.int .i64 0)).setCell ⟨w.heap.size, 3, none⟩ (.int .u64 0)).setCell ⟨w.heap.size, 4, none⟩ (.string ⟨#[]⟩)).setCell ⟨w.heap.size, 5, none⟩ (.int .i64 ((vs.length : Int) + 1))).setCell ⟨w.heap.size, 6, none⟩ (.int .i64 0)).setCell ⟨w.heap.size, 7, none⟩ (.int .i64 len)).setCell ⟨w.heap.size, 8, none⟩ (.int .i64 n)).setCell ⟨w.heap.size, 9, none⟩ (.slice none 0 0)).setCell ⟨w.heap.size, 10, none⟩ (.slice none 0 0)) := ⟨_, rfl⟩
 rw [← hU8] at kU8 hrU8 ⊢
 clear hU8
 have rcU8 := (cells_of hrU8).1
 have y8 := kU8.size
 exact bodyPost_ret (v := .tuple #[(leadD 5 nm ((vs.length : Int) + 1) 0 len n).val, .nilIface]) (by simp [results, Tryz.results34, go_sem, rcU8, leadD, MD.val, D]) rfl ⟨rfl, w.heap.size + 1, hV2.kp kU8 (by omega) (by omega), (kU8.block _ (hblk ha2) (by omega)).trans ha2, k2.trans kU8 fun i hi e => by omega, by omega⟩
theorem List_flat (hb M : Nat) (vs : List Value) (hl : vs.length < 1000) (gs cap : Nat) (ds : List MD) (hds : ∀ d ∈ ds, FlatR d) (h0 : 0 < ds.length) (hm : ds.length ≤ 1048576) (w : World) (hN : NamesAt w) (hgs : gs < w.heap.size) (hsrc : ∀ (i : Nat) (hi : i < ds.length), MD.CellsAt w gs (0 + i * 11) ds[i]) (h : HeapAt w hb M vs) :
  Calls Tryz.prog 9 #[.pointer (some ⟨hb, 0, none⟩), .slice (some ⟨gs, 0, none⟩) ds.length cap] w fun r w' => r = .returned (.tuple #[(leadD 5 ⟨#[108, 105, 115, 116]⟩ ((vs.length : Int) + 1) 0 ds.length ds.length).val, .nilIface]) ∧ ∃ ab g, HeapAt w' hb M (vs ++ [arrV ab]) ∧ w'.heap[ab]? = some (.cells #[.slice (some ⟨g, 0, none⟩) ds.length ds.length] 131) ∧ w'.heap[g]? = some (.cells (rowOf ds).toArray 32) ∧ Kp (fun b => b = hb ∨ b = M) w w' ∧ w.heap.size ≤ ab ∧ w.heap.size ≤ g ∧ g < ab := by
 have hlt1 := hblk h.box
 have hlt2 := hblk h.map
 have i1 : ¬ (1048576 : Int) < ds.length := by omega
 go_enter Tryz.func9, Tryz.ntmps9
 go_wp2_with fail
 have hb1 := below1 w (.cells #[.int .i64 0, .string ⟨#[]⟩, .int .i64 0, .int .u64 0, .string ⟨#[]⟩, .int .i64 0, .int .i64 0, .int .i64 0, .int .i64 0, .slice none 0 0, .slice none 0 0] 32)
 have hr : (w.alloc (.cells #[.int .i64 0, .string ⟨#[]⟩, .int .i64 0, .int .u64 0, .string ⟨#[]⟩, .int .i64 0, .int .i64 0, .int .i64 0, .int .i64 0, .slice none 0 0, .slice none 0 0] 32)).heap[w.heap.size]? = some (.cells #[.int .i64 0, .string ⟨#[]⟩, .int .i64 0, .int .u64 0, .string ⟨#[]⟩, .int .i64 0, .int .i64 0, .int .i64 0, .int .i64 0, .slice none 0 0, .slice none 0 0] 32) := heap_alloc_new _ _
 refine (allRight_flat gs 0 cap ds hds hm _ (hN.kept hb1) (by simp; omega) fun i hi => (hsrc i hi).below hgs hb1).mono ?_
 rintro _ V1 ⟨rfl, u1⟩
 have hr1 := (u1.block _ (hblk hr)).trans hr
 have b1 : Below w.heap.size w V1 := hb1.trans (u1.mono (by simp))
 have y0 : w.heap.size + 1 ≤ V1.heap.size := by have := u1.size; simp at this; omega
 clear hr hb1 u1
 go_wp2_with fail
 refine (copies_flat gs 0 cap ds (fun d hd => (hds d hd).flat) h0 hm _ (by omega) fun i hi => (hsrc i hi).below hgs b1).mono ?_
 rintro _ V2 ⟨g, rfl, hg2, u2, hg3⟩
 have hr2 := (u2.block _ (hblk hr1)).trans hr1
 have b2 : Below w.heap.size w V2 := b1.trans (u2.mono (by omega))
 have y2 := u2.size
 clear hr1 b1 u2
 go_wp2_with fail
 refine (listOf_any hb M vs hl ⟨#[108, 105, 115, 116]⟩ (by show 4 ≤ 60000; omega) _ ds.length hm _ _ (h.below b2)).mono ?_
 rintro _ V ⟨rfl, ab, h1, h2, h3, h4⟩
 have hr3 := (h3.block _ (hblk hr2) (by omega)).trans hr2
 have hg4 := (h3.block _ (hblk hg2) (by omega)).trans hg2
 have k1 : Kp (fun b => b = hb ∨ b = M) w V := (Kp.of b2).trans h3 fun _ _ e => e
 have hgl := hblk hg2
 have y1 : w.heap.size + 1 ≤ ab := by omega
 clear hr2 h3 hg2 b2
 obtain ⟨rc2, rf2⟩ := cells_of hr3
 simp only [leadD, MD.val, D, List.length_nil]
 go_wp2_with fail
 have kU8 := kp_eleven V (w.heap.size) (.int .i64 5) (.string ⟨#[108, 105, 115, 116]⟩) (.int .i64 0) (.int .u64 0) (.string ⟨#[]⟩) (.int .i64 ((vs.length : Int) + 1)) (.int .i64 0) (.int .i64 ds.length) (.int .i64 ds.length) (.slice none 0 0) (.slice none 0 0)
 have hrU8 := eleven_set hr3 (.int .i64 5) (.string ⟨#[108, 105, 115, 116]⟩) (.int .i64 0) (.int .u64 0) (.string ⟨#[]⟩) (.int .i64 ((vs.length : Int) + 1)) (.int .i64 0) (.int .i64 ds.length) (.int .i64 ds.length) (.slice none 0 0) (.slice none 0 0)
 obtain ⟨U8, hU8⟩ : ∃ W, W = (((((((((((V.setCell ⟨w.heap.size, 0, none⟩ (.int .i64 5)).setCell ⟨w.heap.size, 1, none⟩ (.string ⟨#[108, 105, 115, 116]⟩)).setCell ⟨w.heap.size, 2, none⟩ (.int .i64 0)).setCell ⟨w.heap.size, 3, none⟩ (.int .u64 0)).setCell ⟨w.heap.size, 4, none⟩ (.string ⟨#[]⟩)).setCell ⟨w.heap.size, 5, none⟩ (.int .i64 ((vs.length : Int) + 1))).setCell ⟨w.heap.size, 6, none⟩ (.int .i64 0)).setCell ⟨w.heap.size, 7, none⟩ (.int .i64 ds.length)).setCell ⟨w.heap.size, 8, none⟩ (.int .i64 ds.length)).setCell ⟨w.heap.size, 9, none⟩ (.slice none 0 0)).setCell ⟨w.heap.size, 10, none⟩ (.slice none 0 0)) := ⟨_, rfl⟩
 rw [← hU8] at kU8 hrU8 ⊢
 clear hU8
 have rcU8 := (cells_of hrU8).1
 have y8 := kU8.size
 exact bodyPost_ret (v := .tuple #[(leadD 5 ⟨#[108, 105, 115, 116]⟩ ((vs.length : Int) + 1) 0 ds.length ds.length).val, .nilIface]) (by simp [results, Tryz.results9, go_sem, rcU8, leadD, MD.val, D]) rfl ⟨rfl, ab, g, h1.kp kU8 (by omega) (by omega), (kU8.block _ (hblk h2) (by omega)).trans h2, (kU8.block _ (hblk hg4) (by omega)).trans hg4, k1.trans kU8 fun i hi e => by omega, by omega, by omega, by omega⟩
end Go.Proofs.YtdbijkgnddcneaaGreatDoor
namespace Go.Proofs.YtdbijkgnddcneaaGreatDoor
open Go.RowKit Go.ChangeMaps
set_option maxRecDepth 100000
set_option maxHeartbeats 4000000
attribute [local go_sem] refold2 cell3_0 cell3_1 b28_0 b28_01 nz26 nz23 b32_012 b32_015 b30_023 b30_0123 b30_0 b131_0
theorem ta84 (ab : Nat) (w : World) : (Instr.typeAssert (.iface 129 (.pointer (some ⟨ab, 0, none⟩))) 134 84 true).run Tryz.prog w = .ok (.tuple #[.pointer none, .bool false]) w := by kernel_rfl
theorem ta129 (ab : Nat) (w : World) : (Instr.typeAssert (.iface 129 (.pointer (some ⟨ab, 0, none⟩))) 134 129 true).run Tryz.prog w = .ok (.tuple #[.pointer (some ⟨ab, 0, none⟩), .bool true]) w := by kernel_rfl
attribute [local go_sem] ta84 ta129
theorem fits_list (hb M : Nat) (vs : List Value) (m ab : Nat) (hm : vs[m]? = some (arrV ab)) (p : Option Addr) (n : Nat) (t : ByteArray) (o f l c : Int) (ho : o = (m : Int) + 1) (hF : FlatR (leadD 5 t o f l c)) (hfit : 0 ≤ f ∧ 0 ≤ c ∧ f + c ≤ n) (hn : n ≤ 1048576) (w : World) (hN : NamesAt w) (h : HeapAt w hb M vs) (ha : w.heap[ab]? = some (.cells #[.slice p n n] 131)) :
  Calls Tryz.prog 64 #[.pointer (some ⟨hb, 0, none⟩), .agg #[.int .i64 5, .string t, .int .i64 0, .int .u64 0, .string ⟨#[]⟩, .int .i64 o, .int .i64 f, .int .i64 l, .int .i64 c, .slice none 0 0, .slice none 0 0]] w fun r w' => r = .returned (.bool true) ∧ Below w.heap.size w w' := by
 have o1 : ¬ o = 0 := by omega
 have HO : Hid (o = (m : Int) + 1) := ho
 have hadd : IntKind.i64.wrap (f + c) = f + c := by rw [IntKind.wrap_i64]; omega
 have hle : f + c ≤ (n : Int) := hfit.2.2
 clear ho
 go_enter Tryz.func64, Tryz.ntmps64
 go_wp2_with fail
 obtain ⟨U0, hU0⟩ : ∃ W, W = w.alloc (.cells #[.int .i64 5, .string t, .int .i64 0, .int .u64 0, .string ⟨#[]⟩, .int .i64 o, .int .i64 f, .int .i64 l, .int .i64 c, .slice none 0 0, .slice none 0 0] 32) := ⟨_, rfl⟩
 have u0 : Below w.heap.size w U0 := by rw [hU0]; exact below1 w _
 have b0 : U0.heap[w.heap.size]? = some (.cells #[.int .i64 5, .string t, .int .i64 0, .int .u64 0, .string ⟨#[]⟩, .int .i64 o, .int .i64 f, .int .i64 l, .int .i64 c, .slice none 0 0, .slice none 0 0] 32) := by rw [hU0]; exact heap_alloc_new _ _
 have n0 := hN.kept u0
 have HR : Hid (Calls Tryz.prog 39 #[.agg #[.int .i64 5, .string t, .int .i64 0, .int .u64 0, .string ⟨#[]⟩, .int .i64 o, .int .i64 f, .int .i64 l, .int .i64 c, .slice none 0 0, .slice none 0 0]] U0 fun r w' => r = .returned (.bool true) ∧ Below U0.heap.size U0 w') := by
  have := Right_any 4 (leadD 5 t o f l c) U0 n0 (hF.inn _ _)
  rw [hF.right] at this
  exact this
 rw [← hU0]
 clear hU0
 refine HR.out.mono ?_
 rintro _ U1 ⟨rfl, c1⟩
 have u1 : Below w.heap.size w U1 := u0.trans (c1.mono u0.size)
 have b1 := (c1.block _ (hblk b0)).trans b0
 clear b0 u0 c1 HR n0
 have bc1 := (cells_of b1).1
 go_wp2_with fail
 refine rg (S := fun W => (∀ j, W.cell? ⟨w.heap.size, j, none⟩ = (#[.int .i64 5, .string t, .int .i64 0, .int .u64 0, .string ⟨#[]⟩, .int .i64 o, .int .i64 f, .int .i64 l, .int .i64 c, .slice none 0 0, .slice none 0 0] : Array Value)[j]?) ∧ (∀ j, W.cell? ⟨hb, j, none⟩ = (#[.map (some M), .int .i64 vs.length] : Array Value)[j]?) ∧ HeapAt W hb M vs) (fun U2 hB4 HU2 => ?_)
 have hS : (∀ j, U2.cell? ⟨w.heap.size, j, none⟩ = (#[.int .i64 5, .string t, .int .i64 0, .int .u64 0, .string ⟨#[]⟩, .int .i64 o, .int .i64 f, .int .i64 l, .int .i64 c, .slice none 0 0, .slice none 0 0] : Array Value)[j]?) ∧ (∀ j, U2.cell? ⟨hb, j, none⟩ = (#[.map (some M), .int .i64 vs.length] : Array Value)[j]?) ∧ HeapAt U2 hb M vs := ⟨(cells_of ((hB4.block _ (hblk b1)).trans b1)).1, (cells_of ((h.below u1).below hB4).box).1, (h.below u1).below hB4⟩
 refine tq 0 (.pointer (some ⟨hb, 0, none⟩)) rfl hS ?_
 simp only [sa, sb, Act.put, sd, se, sf]
 refine tq 1 (.pointer (some ⟨hb, 0, none⟩)) rfl hS ?_
 simp only [sa, sb, sc, Act.put, sd, se, sf]
 refine tq 2 (.pointer (some ⟨hb, 0, none⟩)) rfl hS ?_
 simp only [sa, sb, sc, Act.put, sd, se, sf]
 refine tk 3 (.map (some M)) rfl (.inl ⟨by rfl, ?r⟩) hS ?_
 case r => intro W hW; simp [go_sem, execOp, Act.eval, hW.2.1]
 simp only [sa, sb, sc, Act.put, sd, se, sf]
 refine tq 4 (.pointer (some ⟨w.heap.size, 5, none⟩)) rfl hS ?_
 simp only [sa, sb, sc, Act.put, sd, se, sf]
 refine tq 5 (.pointer (some ⟨w.heap.size, 5, none⟩)) rfl hS ?_
 simp only [sa, sb, sc, Act.put, sd, se, sf]
 refine tk 6 (.int .i64 o) rfl (.inl ⟨by rfl, ?r⟩) hS ?_
 case r => intro W hW; simp [go_sem, execOp, Act.eval, hW.1]
 simp only [sa, sb, sc, Act.put, sd, se, sf]
 refine tk 7 (.iface 129 (.pointer (some ⟨ab, 0, none⟩))) rfl (.inl ⟨by rfl, ?r⟩) hS ?_
 case r => intro W hW; simp [go_sem, execOp, Act.eval, hW.2.2.look hm HO.out, arrV]
 simp only [sa, sb, sc, Act.put, sd, se, sf]
 have b2 := (hB4.block _ (hblk b1)).trans b1
 have u2 : Below w.heap.size w U2 := u1.trans (hB4.mono u1.size)
 clear HU2 hB4 hS b1 bc1 u1
 have a2 := (u2.block _ (hblk ha)).trans ha
 refine dn ?_
 try simp only [Act.put]
 have bc2 := (cells_of b2).1
 go_wp2_with fail
 refine rg (S := fun W => (∀ j, W.cell? ⟨w.heap.size, j, none⟩ = (#[.int .i64 5, .string t, .int .i64 0, .int .u64 0, .string ⟨#[]⟩, .int .i64 o, .int .i64 f, .int .i64 l, .int .i64 c, .slice none 0 0, .slice none 0 0] : Array Value)[j]?) ∧ (∀ j, W.cell? ⟨ab, j, none⟩ = (#[.slice p n n] : Array Value)[j]?)) (fun U3 hB4 HU3 => ?_)
 have hS : (∀ j, U3.cell? ⟨w.heap.size, j, none⟩ = (#[.int .i64 5, .string t, .int .i64 0, .int .u64 0, .string ⟨#[]⟩, .int .i64 o, .int .i64 f, .int .i64 l, .int .i64 c, .slice none 0 0, .slice none 0 0] : Array Value)[j]?) ∧ (∀ j, U3.cell? ⟨ab, j, none⟩ = (#[.slice p n n] : Array Value)[j]?) := ⟨(cells_of ((hB4.block _ (hblk b2)).trans b2)).1, (cells_of ((hB4.block _ (hblk a2)).trans a2)).1⟩
 refine tq 0 (.pointer (some ⟨w.heap.size, 0, none⟩)) rfl hS ?_
 simp only [sa, sb, Act.put, sd, se, sf]
 refine tk 1 (.int .i64 5) rfl (.inl ⟨by rfl, ?r⟩) hS ?_
 case r => intro W hW; simp [go_sem, execOp, Act.eval, hW.1]
 simp only [sa, sb, sc, Act.put, sd, se, sf]
 refine tq 2 (.bool true) rfl hS ?_
 simp only [sa, sb, sc, Act.put, sd, se, sf]
 refine tq 3 (.bool true) rfl hS ?_
 simp only [sa, sb, sc, Act.put, sd, se, sf]
 refine tq 4 (.pointer (some ⟨w.heap.size, 5, none⟩)) rfl hS ?_
 simp only [sa, sb, sc, Act.put, sd, se, sf]
 refine tq 5 (.pointer (some ⟨w.heap.size, 6, none⟩)) rfl hS ?_
 simp only [sa, sb, sc, Act.put, sd, se, sf]
 refine tk 6 (.int .i64 f) rfl (.inl ⟨by rfl, ?r⟩) hS ?_
 case r => intro W hW; simp [go_sem, execOp, Act.eval, hW.1]
 simp only [sa, sb, sc, Act.put, sd, se, sf]
 refine tq 7 (.pointer (some ⟨w.heap.size, 5, none⟩)) rfl hS ?_
 simp only [sa, sb, sc, Act.put, sd, se, sf]
 refine tq 8 (.pointer (some ⟨w.heap.size, 8, none⟩)) rfl hS ?_
 simp only [sa, sb, sc, Act.put, sd, se, sf]
 refine tk 9 (.int .i64 c) rfl (.inl ⟨by rfl, ?r⟩) hS ?_
 case r => intro W hW; simp [go_sem, execOp, Act.eval, hW.1]
 simp only [sa, sb, sc, Act.put, sd, se, sf]
 refine tk 10 (.int .i64 (f + c)) rfl (.inl ⟨by rfl, ?r⟩) hS ?_
 case r => intro W hW; simp [go_sem, execOp, Act.eval, hadd]
 simp only [sa, sb, sc, Act.put, sd, se, sf]
 refine tq 11 (.pointer (some ⟨ab, 0, none⟩)) rfl hS ?_
 simp only [sa, sb, sc, Act.put, sd, se, sf]
 refine tq 12 (.pointer (some ⟨ab, 0, none⟩)) rfl hS ?_
 simp only [sa, sb, sc, Act.put, sd, se, sf]
 refine tq 13 (.pointer (some ⟨ab, 0, none⟩)) rfl hS ?_
 simp only [sa, sb, sc, Act.put, sd, se, sf]
 refine tk 14 (.slice p n n) rfl (.inl ⟨by rfl, ?r⟩) hS ?_
 case r => intro W hW; simp [go_sem, execOp, Act.eval, hW.2]
 simp only [sa, sb, sc, Act.put, sd, se, sf]
 refine tq 15 (.int .i64 n) rfl hS ?_
 simp only [sa, sb, sc, Act.put, sd, se, sf]
 refine tk 16 (.bool true) rfl (.inl ⟨by rfl, ?r⟩) hS ?_
 case r => intro W hW; simp [go_sem, execOp, Act.eval, hle]
 simp only [sa, sb, sc, Act.put, sd, se, sf]
 refine tq 17 (.bool true) rfl hS ?_
 simp only [sa, sb, sc, Act.put, sd, se, sf]
 have u3 : Below w.heap.size w U3 := u2.trans (hB4.mono u2.size)
 refine one 18 rfl (fun K hK => ?_)
 simp only [sa, sb, sc]
 go_simp
 refine hK _ _ ⟨hS, ?_⟩
 clear hK K
 refine dn ?_
 try simp only [Act.put]
 go_wp2_with fail
 go_ret
 exact ⟨rfl, u3⟩
def pieceP (g f c : Nat) : Addr := if c = 0 then ⟨g, 0, none⟩ else ⟨g, f * 11, none⟩
theorem pieceA_any (ab g n f l c : Nat) (o : Int) (hfit : l ≤ c ∧ f + c ≤ n) (hn : n ≤ 1048576) (w : World) (ha : w.heap[ab]? = some (.cells #[.slice (some ⟨g, 0, none⟩) n n] 131)) :
  Calls Tryz.prog 65 #[.pointer (some ⟨ab, 0, none⟩), .agg #[.int .i64 o, .int .i64 (f : Int), .int .i64 (l : Int), .int .i64 (c : Int), .slice none 0 0]] w fun r w' => r = .returned (.slice (some (pieceP g f c)) l c) ∧ Below w.heap.size w w' := by
 have hadd : IntKind.i64.wrap ((f : Int) + c) = (f : Int) + c := by rw [IntKind.wrap_i64]; omega
 have hadl : IntKind.i64.wrap ((f : Int) + l) = (f : Int) + l := by rw [IntKind.wrap_i64]; omega
 go_enter Tryz.func65, Tryz.ntmps65
 go_wp2_with fail
 obtain ⟨U0, hU0⟩ : ∃ W, W = w.alloc (.cells #[.int .i64 o, .int .i64 (f : Int), .int .i64 (l : Int), .int .i64 (c : Int), .slice none 0 0] 30) := ⟨_, rfl⟩
 rw [← hU0]
 have u0 : Below w.heap.size w U0 := by rw [hU0]; exact below1 w _
 have b0 : U0.heap[w.heap.size]? = some (.cells #[.int .i64 o, .int .i64 (f : Int), .int .i64 (l : Int), .int .i64 (c : Int), .slice none 0 0] 30) := by rw [hU0]; exact heap_alloc_new _ _
 have a0 := (u0.block _ (hblk ha)).trans ha
 clear hU0
 refine rg (S := fun W => (∀ j, W.cell? ⟨w.heap.size, j, none⟩ = (#[.int .i64 o, .int .i64 (f : Int), .int .i64 (l : Int), .int .i64 (c : Int), .slice none 0 0] : Array Value)[j]?) ∧ (∀ j, W.cell? ⟨ab, j, none⟩ = (#[.slice (some ⟨g, 0, none⟩) n n] : Array Value)[j]?)) (fun U1 hB4 HU1 => ?_)
 have hS : (∀ j, U1.cell? ⟨w.heap.size, j, none⟩ = (#[.int .i64 o, .int .i64 (f : Int), .int .i64 (l : Int), .int .i64 (c : Int), .slice none 0 0] : Array Value)[j]?) ∧ (∀ j, U1.cell? ⟨ab, j, none⟩ = (#[.slice (some ⟨g, 0, none⟩) n n] : Array Value)[j]?) := ⟨(cells_of ((hB4.block _ (hblk b0)).trans b0)).1, (cells_of ((hB4.block _ (hblk a0)).trans a0)).1⟩
 refine tq 0 (.pointer (some ⟨ab, 0, none⟩)) rfl hS ?_
 simp only [sa, sb, Act.put, sd, se, sf]
 refine tq 1 (.pointer (some ⟨ab, 0, none⟩)) rfl hS ?_
 simp only [sa, sb, sc, Act.put, sd, se, sf]
 refine tq 2 (.pointer (some ⟨ab, 0, none⟩)) rfl hS ?_
 simp only [sa, sb, sc, Act.put, sd, se, sf]
 refine tk 3 (.slice (some ⟨g, 0, none⟩) n n) rfl (.inl ⟨by rfl, ?r⟩) hS ?_
 case r => intro W hW; simp [go_sem, execOp, Act.eval, hW.2]
 simp only [sa, sb, sc, Act.put, sd, se, sf]
 refine tq 4 (.pointer (some ⟨w.heap.size, 1, none⟩)) rfl hS ?_
 simp only [sa, sb, sc, Act.put, sd, se, sf]
 refine tk 5 (.int .i64 (f : Int)) rfl (.inl ⟨by rfl, ?r⟩) hS ?_
 case r => intro W hW; simp [go_sem, execOp, Act.eval, hW.1]
 simp only [sa, sb, sc, Act.put, sd, se, sf]
 refine tq 6 (.pointer (some ⟨w.heap.size, 1, none⟩)) rfl hS ?_
 simp only [sa, sb, sc, Act.put, sd, se, sf]
 refine tk 7 (.int .i64 (f : Int)) rfl (.inl ⟨by rfl, ?r⟩) hS ?_
 case r => intro W hW; simp [go_sem, execOp, Act.eval, hW.1]
 simp only [sa, sb, sc, Act.put, sd, se, sf]
 refine tq 8 (.pointer (some ⟨w.heap.size, 2, none⟩)) rfl hS ?_
 simp only [sa, sb, sc, Act.put, sd, se, sf]
 refine tk 9 (.int .i64 (l : Int)) rfl (.inl ⟨by rfl, ?r⟩) hS ?_
 case r => intro W hW; simp [go_sem, execOp, Act.eval, hW.1]
 simp only [sa, sb, sc, Act.put, sd, se, sf]
 refine tk 10 (.int .i64 ((f : Int) + l)) rfl (.inl ⟨by rfl, ?r⟩) hS ?_
 case r => intro W hW; simp [go_sem, execOp, Act.eval, hadl]
 simp only [sa, sb, sc, Act.put, sd, se, sf]
 refine tq 11 (.pointer (some ⟨w.heap.size, 1, none⟩)) rfl hS ?_
 simp only [sa, sb, sc, Act.put, sd, se, sf]
 refine tk 12 (.int .i64 (f : Int)) rfl (.inl ⟨by rfl, ?r⟩) hS ?_
 case r => intro W hW; simp [go_sem, execOp, Act.eval, hW.1]
 simp only [sa, sb, sc, Act.put, sd, se, sf]
 refine tq 13 (.pointer (some ⟨w.heap.size, 3, none⟩)) rfl hS ?_
 simp only [sa, sb, sc, Act.put, sd, se, sf]
 refine tk 14 (.int .i64 (c : Int)) rfl (.inl ⟨by rfl, ?r⟩) hS ?_
 case r => intro W hW; simp [go_sem, execOp, Act.eval, hW.1]
 simp only [sa, sb, sc, Act.put, sd, se, sf]
 refine tk 15 (.int .i64 ((f : Int) + c)) rfl (.inl ⟨by rfl, ?r⟩) hS ?_
 case r => intro W hW; simp [go_sem, execOp, Act.eval, hadd]
 simp only [sa, sb, sc, Act.put, sd, se, sf]
 have u1 : Below w.heap.size w U1 := u0.trans (hB4.mono u0.size)
 refine one 16 rfl (fun K hK => ?_)
 simp only [sa, sb, sc]
 go_simp
 rw [if_pos (show (0 : Int) ≤ (f : Int) + c ∧ (f : Int) + c ≤ n by omega), if_pos (show (0 : Int) ≤ (f : Int) + l ∧ (f : Int) + l ≤ max ((f : Int) + c) 0 by omega), if_pos (show f ≤ ((f : Int) + l).toNat by omega)]
 have e1 : ((f : Int) + l).toNat - f = l := by omega
 have e2 : ((f : Int) + c).toNat - f = c := by omega
 have e3 : (if ((f : Int) + c).toNat = f then some (⟨g, 0, none⟩ : Addr) else some ⟨g, f * 11, none⟩) = some (pieceP g f c) := by
  unfold pieceP
  by_cases hc : c = 0
  ·rw [if_pos (by omega), if_pos hc]
  ·rw [if_neg (by omega), if_neg hc]
 rw [e1, e2, e3]
 clear e1 e2 e3
 go_simp
 refine hK _ _ ⟨hS, ?_⟩
 clear hK K
 try simp only [Act.put, sd, se, sf]
 refine one 17 rfl (fun K hK => ?_)
 simp only [sa, sb, sc]
 go_simp
 refine hK _ _ ⟨hS, ?_⟩
 clear hK K
 try simp only [Act.put, sd, se, sf]
 refine dn ?_
 try simp only [Act.put]
 go_wp2_with fail
 go_ret
 exact ⟨rfl, u1⟩
theorem piece_any (hb M : Nat) (vs : List Value) (m ab : Nat) (hm : vs[m]? = some (arrV ab)) (g n f l c : Nat) (hfit : l ≤ c ∧ f + c ≤ n) (hn : n ≤ 1048576) (t : ByteArray) (hF : FlatR (leadD 5 t ((m : Int) + 1) f l c)) (w : World) (hN : NamesAt w) (h : HeapAt w hb M vs) (ha : w.heap[ab]? = some (.cells #[.slice (some ⟨g, 0, none⟩) n n] 131)) :
  Calls Tryz.prog 36 #[.pointer (some ⟨hb, 0, none⟩), .agg #[.int .i64 5, .string t, .int .i64 0, .int .u64 0, .string ⟨#[]⟩, .int .i64 ((m : Int) + 1), .int .i64 (f : Int), .int .i64 (l : Int), .int .i64 (c : Int), .slice none 0 0, .slice none 0 0]] w fun r w' => r = .returned (.tuple #[.slice (some (pieceP g f c)) l c, .bool true]) ∧ Below w.heap.size w w' := by
 have HF : Hid (∀ W, Below w.heap.size w W → Calls Tryz.prog 64 #[.pointer (some ⟨hb, 0, none⟩), .agg #[.int .i64 5, .string t, .int .i64 0, .int .u64 0, .string ⟨#[]⟩, .int .i64 ((m : Int) + 1), .int .i64 (f : Int), .int .i64 (l : Int), .int .i64 (c : Int), .slice none 0 0, .slice none 0 0]] W fun r w' => r = .returned (.bool true) ∧ Below W.heap.size W w') := fun W hW => fits_list hb M vs m ab hm _ n t _ f l c rfl hF (by omega) hn W (hN.kept hW) (h.below hW) ((hW.block _ (hblk ha)).trans ha)
 go_enter Tryz.func36, Tryz.ntmps36
 go_wp2_with fail
 have u0 := below1 w (.cells #[.int .i64 5, .string t, .int .i64 0, .int .u64 0, .string ⟨#[]⟩, .int .i64 ((m : Int) + 1), .int .i64 (f : Int), .int .i64 (l : Int), .int .i64 (c : Int), .slice none 0 0, .slice none 0 0] 32)
 obtain ⟨U0, hU0⟩ : ∃ W, W = w.alloc (.cells #[.int .i64 5, .string t, .int .i64 0, .int .u64 0, .string ⟨#[]⟩, .int .i64 ((m : Int) + 1), .int .i64 (f : Int), .int .i64 (l : Int), .int .i64 (c : Int), .slice none 0 0, .slice none 0 0] 32) := ⟨_, rfl⟩
 rw [← hU0] at u0 ⊢
 have b0 : U0.heap[w.heap.size]? = some (.cells #[.int .i64 5, .string t, .int .i64 0, .int .u64 0, .string ⟨#[]⟩, .int .i64 ((m : Int) + 1), .int .i64 (f : Int), .int .i64 (l : Int), .int .i64 (c : Int), .slice none 0 0, .slice none 0 0] 32) := by rw [hU0]; exact heap_alloc_new _ _
 clear hU0
 refine (HF.out U0 u0).mono ?_
 rintro _ U1 ⟨rfl, c1⟩
 have u1 : Below w.heap.size w U1 := u0.trans (c1.mono u0.size)
 have b1 := (c1.block _ (hblk b0)).trans b0
 clear b0 u0 c1
 go_wp2_with fail
 refine rg (S := fun W => (∀ j, W.cell? ⟨w.heap.size, j, none⟩ = (#[.int .i64 5, .string t, .int .i64 0, .int .u64 0, .string ⟨#[]⟩, .int .i64 ((m : Int) + 1), .int .i64 (f : Int), .int .i64 (l : Int), .int .i64 (c : Int), .slice none 0 0, .slice none 0 0] : Array Value)[j]?) ∧ (∀ j, W.cell? ⟨hb, j, none⟩ = (#[.map (some M), .int .i64 vs.length] : Array Value)[j]?) ∧ HeapAt W hb M vs) (fun U2 hB4 HU2 => ?_)
 have hS : (∀ j, U2.cell? ⟨w.heap.size, j, none⟩ = (#[.int .i64 5, .string t, .int .i64 0, .int .u64 0, .string ⟨#[]⟩, .int .i64 ((m : Int) + 1), .int .i64 (f : Int), .int .i64 (l : Int), .int .i64 (c : Int), .slice none 0 0, .slice none 0 0] : Array Value)[j]?) ∧ (∀ j, U2.cell? ⟨hb, j, none⟩ = (#[.map (some M), .int .i64 vs.length] : Array Value)[j]?) ∧ HeapAt U2 hb M vs := ⟨(cells_of ((hB4.block _ (hblk b1)).trans b1)).1, (cells_of ((h.below u1).below hB4).box).1, (h.below u1).below hB4⟩
 refine tq 0 (.pointer (some ⟨hb, 0, none⟩)) rfl hS ?_
 simp only [sa, sb, Act.put, sd, se, sf]
 refine tq 1 (.pointer (some ⟨hb, 0, none⟩)) rfl hS ?_
 simp only [sa, sb, sc, Act.put, sd, se, sf]
 refine tq 2 (.pointer (some ⟨hb, 0, none⟩)) rfl hS ?_
 simp only [sa, sb, sc, Act.put, sd, se, sf]
 refine tk 3 (.map (some M)) rfl (.inl ⟨by rfl, ?r⟩) hS ?_
 case r => intro W hW; simp [go_sem, execOp, Act.eval, hW.2.1]
 simp only [sa, sb, sc, Act.put, sd, se, sf]
 refine tq 4 (.pointer (some ⟨w.heap.size, 5, none⟩)) rfl hS ?_
 simp only [sa, sb, sc, Act.put, sd, se, sf]
 refine tq 5 (.pointer (some ⟨w.heap.size, 5, none⟩)) rfl hS ?_
 simp only [sa, sb, sc, Act.put, sd, se, sf]
 refine tk 6 (.int .i64 ((m : Int) + 1)) rfl (.inl ⟨by rfl, ?r⟩) hS ?_
 case r => intro W hW; simp [go_sem, execOp, Act.eval, hW.1]
 simp only [sa, sb, sc, Act.put, sd, se, sf]
 refine tk 7 (.iface 129 (.pointer (some ⟨ab, 0, none⟩))) rfl (.inl ⟨by rfl, ?r⟩) hS ?_
 case r => intro W hW; simp [go_sem, execOp, Act.eval, hW.2.2.look hm rfl, arrV]
 simp only [sa, sb, sc, Act.put, sd, se, sf]
 refine tq 8 (.tuple #[.pointer (some ⟨ab, 0, none⟩), .bool true]) rfl hS ?_
 simp only [sa, sb, sc, Act.put, sd, se, sf]
 refine tq 9 (.tuple #[.pointer (some ⟨ab, 0, none⟩), .bool true]) rfl hS ?_
 simp only [sa, sb, sc, Act.put, sd, se, sf]
 refine tq 10 (.pointer (some ⟨ab, 0, none⟩)) rfl hS ?_
 simp only [sa, sb, sc, Act.put, sd, se, sf]
 refine tq 11 (.bool true) rfl hS ?_
 simp only [sa, sb, sc, Act.put, sd, se, sf]
 have b2 := (hB4.block _ (hblk b1)).trans b1
 have u2 : Below w.heap.size w U2 := u1.trans (hB4.mono u1.size)
 have a2 := (u2.block _ (hblk ha)).trans ha
 clear HU2 hB4 b1 u1
 refine one 12 rfl (fun K hK => ?_)
 simp only [sa, sb, sc]
 go_simp
 refine hK _ _ ⟨hS, ?_⟩
 clear hK K
 try simp only [Act.put, sd, se, sf]
 refine one 13 rfl (fun K hK => ?_)
 simp only [sa, sb, sc]
 go_simp
 refine hK _ _ ⟨hS, ?_⟩
 clear hK K hS
 try simp only [Act.put, sd, se, sf]
 refine dn ?_
 try simp only [Act.put]
 have bc2 := (cells_of b2).1
 go_wp2_with fail
 refine (pieceA_any ab g n f l c ((m : Int) + 1) hfit hn _ a2).mono ?_
 rintro _ U3 ⟨rfl, c3⟩
 have u3 : Below w.heap.size w U3 := u2.trans (c3.mono u2.size)
 go_wp2_with fail
 exact bodyPost_ret (v := .tuple #[.slice (some (pieceP g f c)) l c, .bool true]) (by simp [results, Tryz.results36, go_sem]) rfl ⟨rfl, u3⟩
end Go.Proofs.YtdbijkgnddcneaaGreatDoor
namespace Go.Proofs.YtdbijkgnddcneaaGreatDoor
open Go.RowKit Go.ChangeMaps
set_option maxRecDepth 100000
set_option maxHeartbeats 4000000
attribute [local go_sem] refold2 cell3_0 cell3_1 b28_0 b28_01 nz26 nz23 b32_012 b32_015 b30_023 b30_0123 b30_0 b131_0
theorem At_any (hb M : Nat) (vs : List Value) (m ab : Nat) (hm : vs[m]? = some (arrV ab)) (g n f l c : Nat) (hfit : l ≤ c ∧ f + c ≤ n) (hn : n ≤ 1048576) (t : ByteArray) (hF : FlatR (leadD 5 t ((m : Int) + 1) f l c)) (ds : List MD) (_hlen : ds.length = n) (hds : ∀ d ∈ ds, Flat d) (i : Nat) (hi : i < l) (w : World) (hN : NamesAt w) (h : HeapAt w hb M vs) (ha : w.heap[ab]? = some (.cells #[.slice (some ⟨g, 0, none⟩) n n] 131)) (hg : w.heap[g]? = some (.cells (rowOf ds).toArray 32)) (d : MD) (hd : ds[f + i]? = some d) :
  Calls Tryz.prog 22 #[.pointer (some ⟨hb, 0, none⟩), .agg #[.int .i64 5, .string t, .int .i64 0, .int .u64 0, .string ⟨#[]⟩, .int .i64 ((m : Int) + 1), .int .i64 (f : Int), .int .i64 (l : Int), .int .i64 (c : Int), .slice none 0 0, .slice none 0 0], .int .i64 (i : Int)] w fun r w' => r = .returned (.tuple #[d.val, .nilIface]) ∧ Below w.heap.size w w' := by
 have HP : Hid (∀ W, Below w.heap.size w W → Calls Tryz.prog 36 #[.pointer (some ⟨hb, 0, none⟩), .agg #[.int .i64 5, .string t, .int .i64 0, .int .u64 0, .string ⟨#[]⟩, .int .i64 ((m : Int) + 1), .int .i64 (f : Int), .int .i64 (l : Int), .int .i64 (c : Int), .slice none 0 0, .slice none 0 0]] W fun r w' => r = .returned (.tuple #[.slice (some (pieceP g f c)) l c, .bool true]) ∧ Below W.heap.size W w') := fun W hW => piece_any hb M vs m ab hm g n f l c hfit hn t hF W (hN.kept hW) (h.below hW) ((hW.block _ (hblk ha)).trans ha)
 have hpp : pieceP g f c = ⟨g, f * 11, none⟩ := by unfold pieceP; rw [if_neg (by omega)]
 rw [hpp] at HP
 clear hpp
 have hdm : d ∈ ds := List.mem_of_getElem? hd
 have i1 : ¬ (i : Int) < 0 := by omega
 have i2 : (i : Int) < l := by omega
 have hil : f + i < ds.length := (List.getElem?_eq_some_iff.1 hd).1
 have hC0 : MD.CellsAt w g (f * 11 + i * 11) d := by
  have e := (List.getElem?_eq_some_iff.1 hd).2
  have := rowOf_at (items := ds) (i := f + i) hg (by simp [← rowOf_length]) hil
  rw [e, Nat.add_mul] at this
  exact this
 obtain ⟨k0, k1, k2, k5, k6, k7, k8, rfl, ht⟩ := hds d hdm
 go_enter Tryz.func22, Tryz.ntmps22
 go_wp2_with fail
 obtain ⟨U0, hU0⟩ : ∃ W, W = (w.alloc (.cells #[.int .i64 5, .string t, .int .i64 0, .int .u64 0, .string ⟨#[]⟩, .int .i64 ((m : Int) + 1), .int .i64 (f : Int), .int .i64 (l : Int), .int .i64 (c : Int), .slice none 0 0, .slice none 0 0] 32)).alloc (.cells #[.int .i64 0, .string ⟨#[]⟩, .int .i64 0, .int .u64 0, .string ⟨#[]⟩, .int .i64 0, .int .i64 0, .int .i64 0, .int .i64 0, .slice none 0 0, .slice none 0 0] 32) := ⟨_, rfl⟩
 rw [← hU0]
 have u0 : Below w.heap.size w U0 := by rw [hU0]; exact below2 w _ _
 have y0 : w.heap.size + 1 < U0.heap.size := by rw [hU0]; simp
 have r0 : U0.heap[w.heap.size + 1]? = some (.cells #[.int .i64 0, .string ⟨#[]⟩, .int .i64 0, .int .u64 0, .string ⟨#[]⟩, .int .i64 0, .int .i64 0, .int .i64 0, .int .i64 0, .slice none 0 0, .slice none 0 0] 32) := by rw [hU0]; exact heap2_1 _ _ _
 clear hU0
 refine (HP.out _ u0).mono ?_
 rintro _ V1 ⟨rfl, c1⟩
 have u1 : Below w.heap.size w V1 := u0.trans (c1.mono u0.size)
 have r1 : V1.heap[w.heap.size + 1]? = _ := (c1.block _ (by omega)).trans r0
 have hC := hC0.below (hblk hg) u1
 have y1 : w.heap.size + 1 < V1.heap.size := Nat.lt_of_lt_of_le y0 c1.size
 clear c1 r0 u0 hC0
 have c0 : V1.cell? ⟨g, f * 11 + i * 11, none⟩ = some (.int .i64 k0) := hC 0 (by omega)
 have c1 : V1.cell? ⟨g, f * 11 + i * 11 + 1, none⟩ = some (.string k1) := hC 1 (by omega)
 have c2 : V1.cell? ⟨g, f * 11 + i * 11 + 2, none⟩ = some (.int .i64 k2) := hC 2 (by omega)
 have c3 : V1.cell? ⟨g, f * 11 + i * 11 + 3, none⟩ = some (.int .u64 0) := hC 3 (by omega)
 have c4 : V1.cell? ⟨g, f * 11 + i * 11 + 4, none⟩ = some (.string ⟨#[]⟩) := hC 4 (by omega)
 have c5 : V1.cell? ⟨g, f * 11 + i * 11 + 5, none⟩ = some (.int .i64 k5) := hC 5 (by omega)
 have c6 : V1.cell? ⟨g, f * 11 + i * 11 + 6, none⟩ = some (.int .i64 k6) := hC 6 (by omega)
 have c7 : V1.cell? ⟨g, f * 11 + i * 11 + 7, none⟩ = some (.int .i64 k7) := hC 7 (by omega)
 have c8 : V1.cell? ⟨g, f * 11 + i * 11 + 8, none⟩ = some (.int .i64 k8) := hC 8 (by omega)
 have c9 : V1.cell? ⟨g, f * 11 + i * 11 + 9, none⟩ = some (.slice none 0 0) := hC 9 (by omega)
 have c10 : V1.cell? ⟨g, f * 11 + i * 11 + 10, none⟩ = some (.slice none 0 0) := hC 10 (by omega)
 clear hC
 go_wp2_with fail
 refine (copied_flat k0 k1 k2 k5 k6 k7 k8 ht _).mono ?_
 rintro _ V2 ⟨rfl, c2⟩
 have u2 : Below w.heap.size w V2 := u1.trans (c2.mono u1.size)
 have r2 : V2.heap[w.heap.size + 1]? = _ := (c2.block _ (by omega)).trans r1
 clear c0 c3 c4 c5 c6 c7 c8 c9 c10 r1 u1
 obtain ⟨rc2, rf2⟩ := cells_of r2
 simp only [flatD, MD.val, D, List.length_nil]
 go_wp2_with fail
 have kU8 := kp_eleven V2 (w.heap.size + 1) (.int .i64 k0) (.string k1) (.int .i64 k2) (.int .u64 0) (.string ⟨#[]⟩) (.int .i64 k5) (.int .i64 k6) (.int .i64 k7) (.int .i64 k8) (.slice none 0 0) (.slice none 0 0)
 have hrU8 := eleven_set r2 (.int .i64 k0) (.string k1) (.int .i64 k2) (.int .u64 0) (.string ⟨#[]⟩) (.int .i64 k5) (.int .i64 k6) (.int .i64 k7) (.int .i64 k8) (.slice none 0 0) (.slice none 0 0)
 obtain ⟨U8, hU8⟩ : ∃ W, W = (((((((((((V2.setCell ⟨w.heap.size + 1, 0, none⟩ (.int .i64 k0)).setCell ⟨w.heap.size + 1, 1, none⟩ (.string k1)).setCell ⟨w.heap.size + 1, 2, none⟩ (.int .i64 k2)).setCell ⟨w.heap.size + 1, 3, none⟩ (.int .u64 0)).setCell ⟨w.heap.size + 1, 4, none⟩ (.string ⟨#[]⟩)).setCell ⟨w.heap.size + 1, 5, none⟩ (.int .i64 k5)).setCell ⟨w.heap.size + 1, 6, none⟩ (.int .i64 k6)).setCell ⟨w.heap.size + 1, 7, none⟩ (.int .i64 k7)).setCell ⟨w.heap.size + 1, 8, none⟩ (.int .i64 k8)).setCell ⟨w.heap.size + 1, 9, none⟩ (.slice none 0 0)).setCell ⟨w.heap.size + 1, 10, none⟩ (.slice none 0 0)) := ⟨_, rfl⟩
 rw [← hU8] at kU8 hrU8 ⊢
 clear hU8
 have rcU8 := (cells_of hrU8).1
 exact bodyPost_ret (v := .tuple #[(flatD k0 k1 k2 k5 k6 k7 k8).val, .nilIface]) (by simp [results, Tryz.results22, go_sem, rcU8, flatD, MD.val, D]) rfl ⟨rfl, u2.trans (kU8.below u2.size fun i hi e => by omega)⟩
end Go.Proofs.YtdbijkgnddcneaaGreatDoor
