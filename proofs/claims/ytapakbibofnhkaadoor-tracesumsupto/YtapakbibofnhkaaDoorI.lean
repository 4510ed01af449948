/-
  Lines: is it begun here, its line found, one more counted.
-/
import Derived.Test.YtapakbibofnhkaaDoorH
import Derived.Test.YtapakbibofnhkaaDoorSh
namespace Go.Proofs.YtapakbibofnhkaaDoor
open Go.RowKit Go.ChangeMaps

/-- Does an event count on a line of the text? -/
def hit (s : ByteArray) (e : Ev) : Bool := decide (e.k = 1) && decide (0 ≤ e.a) && decide (e.a ≤ s.size)
/-- One more on a line. -/
def bump (cs : List Int) (i : Nat) : List Int := cs.set i (cs.getD i 0 + 1)
/-- The counts of events. -/
def tally (s : ByteArray) (l : List Ev) : List Int := l.foldl (fun cs e => if hit s e then bump cs (nf s.data.toList e.a.toNat) else cs) (List.replicate (nf s.data.toList s.size + 1) 0)

set_option maxRecDepth 100000 in
set_option maxHeartbeats 4000000 in
theorem begun_1 (s : ByteArray) (fv cv : Value) (pb : Nat) (e : Ev) (w : World) (hp : w.heap[pb]? = some (.cells #[.int .i64 (s.size : Int), fv, cv] 47)) (h1 : ¬ e.k = 1) :
    Calls Tryd.prog 20 #[.pointer (some ⟨pb, 0, none⟩), .agg #[.int .i64 e.k, .int .i64 e.a, .string e.t]] w fun r w' => r = .returned (.bool false) ∧ Below w.heap.size w w' := by
  have hps := heap_lt hp
  have hc := (cells_of hp).1
  have d1 : decide (e.k = 1) = false := by simpa using h1
  go_enter Tryd.func20, Tryd.ntmps20
  go_wp2_with fail
  go_quiet (fail)
  go_wp2_with fail
  go_ret
  exact ⟨rfl, below_drewN (below1 w _) _⟩

set_option maxRecDepth 100000 in
set_option maxHeartbeats 4000000 in
theorem begun_2 (s : ByteArray) (fv cv : Value) (pb : Nat) (e : Ev) (w : World) (hp : w.heap[pb]? = some (.cells #[.int .i64 (s.size : Int), fv, cv] 47)) (h1 : e.k = 1) (h2 : e.a < 0) :
    Calls Tryd.prog 20 #[.pointer (some ⟨pb, 0, none⟩), .agg #[.int .i64 e.k, .int .i64 e.a, .string e.t]] w fun r w' => r = .returned (.bool false) ∧ Below w.heap.size w w' := by
  have hps := heap_lt hp
  have hc := (cells_of hp).1
  have d1 : decide (e.k = 1) = true := by simpa using h1
  have h3 : ¬ 0 ≤ e.a := by omega
  have d2 : decide (0 ≤ e.a) = false := by simpa using h2
  go_enter Tryd.func20, Tryd.ntmps20
  go_wp2_with fail
  go_quiet (fail)
  go_wp2_with fail
  go_ret
  exact ⟨rfl, below_drewN (below1 w _) _⟩

set_option maxRecDepth 100000 in
set_option maxHeartbeats 4000000 in
theorem begun_3 (s : ByteArray) (fv cv : Value) (pb : Nat) (e : Ev) (w : World) (hp : w.heap[pb]? = some (.cells #[.int .i64 (s.size : Int), fv, cv] 47)) (h1 : e.k = 1) (h2 : 0 ≤ e.a) (h4 : (s.size : Int) < e.a) :
    Calls Tryd.prog 20 #[.pointer (some ⟨pb, 0, none⟩), .agg #[.int .i64 e.k, .int .i64 e.a, .string e.t]] w fun r w' => r = .returned (.bool false) ∧ Below w.heap.size w w' := by
  have hps := heap_lt hp
  have hc := (cells_of hp).1
  have d1 : decide (e.k = 1) = true := by simpa using h1
  have d2 : decide (0 ≤ e.a) = true := by simpa using h2
  have h5 : ¬ e.a ≤ s.size := by omega
  have d3 : decide (e.a ≤ (s.size : Int)) = false := by simpa using h4
  go_enter Tryd.func20, Tryd.ntmps20
  go_wp2_with fail
  go_quiet (fail)
  go_wp2_with fail
  go_ret
  exact ⟨rfl, below_drewN (below1 w _) _⟩

set_option maxRecDepth 100000 in
set_option maxHeartbeats 4000000 in
theorem begun_4 (s : ByteArray) (fv cv : Value) (pb : Nat) (e : Ev) (w : World) (hp : w.heap[pb]? = some (.cells #[.int .i64 (s.size : Int), fv, cv] 47)) (h1 : e.k = 1) (h2 : 0 ≤ e.a) (h4 : e.a ≤ (s.size : Int)) :
    Calls Tryd.prog 20 #[.pointer (some ⟨pb, 0, none⟩), .agg #[.int .i64 e.k, .int .i64 e.a, .string e.t]] w fun r w' => r = .returned (.bool true) ∧ Below w.heap.size w w' := by
  have hps := heap_lt hp
  have hc := (cells_of hp).1
  have d1 : decide (e.k = 1) = true := by simpa using h1
  have d2 : decide (0 ≤ e.a) = true := by simpa using h2
  have d3 : decide (e.a ≤ (s.size : Int)) = true := by simpa using h4
  go_enter Tryd.func20, Tryd.ntmps20
  go_wp2_with fail
  go_quiet (fail)
  go_wp2_with fail
  go_ret
  exact ⟨rfl, below_drewN (below1 w _) _⟩

theorem begun_any (s : ByteArray) (fv cv : Value) (pb : Nat) (e : Ev) (w : World) (hp : w.heap[pb]? = some (.cells #[.int .i64 (s.size : Int), fv, cv] 47)) :
    Calls Tryd.prog 20 #[.pointer (some ⟨pb, 0, none⟩), .agg #[.int .i64 e.k, .int .i64 e.a, .string e.t]] w fun r w' => r = .returned (.bool (hit s e)) ∧ Below w.heap.size w w' := by
  unfold hit
  by_cases h1 : e.k = 1
  · by_cases h2 : 0 ≤ e.a
    · by_cases h3 : e.a ≤ (s.size : Int)
      · simpa [h1, h2, h3] using begun_4 s fv cv pb e w hp h1 h2 h3
      · simpa [h1, h2, h3] using begun_3 s fv cv pb e w hp h1 h2 (by omega)
    · simpa [h1, h2] using begun_2 s fv cv pb e w hp h1 (by omega)
  · simpa [h1] using begun_1 s fv cv pb e w hp h1

set_option maxRecDepth 100000 in
set_option maxHeartbeats 4000000 in
theorem bs_none (x : Int) (w : World) : Calls Tryd.prog 32 #[.slice none 0 0, .int .i64 x] w fun r w' => r = .returned (.tuple #[.int .i64 0, .bool false]) ∧ w' = w := by
  go_enter Tryd.func32, Tryd.ntmps32
  go_wp2_with fail
  refine wp_loop_rounds 1 ?_
  rw [rounds_succ]
  go_wp2_with fail
  go_ret2
  exact ⟨rfl, rfl⟩
/-- BinarySearch in a row of one's own. -/
theorem bs_any (B : Nat) (fv : Value) (zs : List Int) (hs : zs.Pairwise (· ≤ ·)) (hl : zs.length ≤ 1048576) (x : Int) (w : World) (h : w.ownsRow B 3 1 fv zs.length (zs.map (Value.int .i64))) :
    Calls Tryd.prog 32 #[fv, .int .i64 x] w fun r w' => r = .returned (.tuple #[.int .i64 (zs.countP (· < x) : Nat), .bool (zs.contains x)]) ∧ ∃ q, w' = w.drewN q := by
  rcases h.2 with ⟨rfl, h0⟩ | ⟨g, cap, cur, hv, hg, hh, h3, h4, h5, h6⟩
  · obtain rfl : zs = [] := List.eq_nil_of_length_eq_zero h0
    exact (bs_none x w).mono fun e w' ⟨he, hw⟩ => ⟨he, 0, hw⟩
  · subst hv
    refine (slices_BinarySearch_int g 0 zs.length cap zs x w (Nat.le_refl _) (by omega) (fun j hj => ?_) (by rw [List.take_length]; exact hs)).mono fun e w' ⟨he, hw⟩ => ⟨?_, hw⟩
    · rw [Nat.zero_add]
      refine (own_cells h j _ ?_).1
      rw [List.getElem?_map, List.getElem?_eq_getElem hj]
      simp [hj]
    · rw [List.take_length] at he
      exact he
end Go.Proofs.YtapakbibofnhkaaDoor
