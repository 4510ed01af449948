/-
  The walk of NumberShows.
-/
import Derived.Test.YtoplmbboaobahaaDoorSw
import Derived.Test.YtoplmbboaobahaaDoorK
import Derived.Deep.RegionHeld3
namespace Go.Proofs.YtoplmbboaobahaaDoor
open Go.RowKit
attribute [local go_sem] refold2 cell3_0 cell3_1 b28_0 b28_01 b28_012 b28_013 b28_014 b35_01 b35_0 b35 mkI69

set_option maxRecDepth 100000 in
set_option maxHeartbeats 8000000 in
theorem showsLaw (k : Int) (t : ByteArray) (n f : Int) (s : ByteArray) (r0 r1 r2 r3 : Int) (p i : Value) (w : World) (x y : ByteArray)
    (HS : Hid (∀ W, Below w.heap.size w W → Calls Tryd.prog 26 #[.agg #[.int .i64 k, .string t, .int .i64 n, .int .u64 f, .string s, .int .i64 r0, .int .i64 r1, .int .i64 r2, .int .i64 r3, p, i]] W fun r w' => r = .returned (.string x) ∧ Below W.heap.size W w'))
    (HT : Hid (∀ W, Calls Tryd.prog 27 #[.agg #[.int .i64 k, .string t, .int .i64 n, .int .u64 f, .string s, .int .i64 r0, .int .i64 r1, .int .i64 r2, .int .i64 r3, p, i]] W fun r w' => r = .returned (.string x) ∧ Below W.heap.size W w'))
    (HN : Hid (∀ W, Calls Tryd.prog 28 #[.agg #[.int .i64 k, .string t, .int .i64 n, .int .u64 f, .string s, .int .i64 r0, .int .i64 r1, .int .i64 r2, .int .i64 r3, p, i]] W fun r w' => r = .returned (.string y) ∧ Below W.heap.size W w'))
    (HM : Hid (∀ W, Calls Tryd.prog 29 #[.agg #[.int .i64 k, .string t, .int .i64 n, .int .u64 f, .string s, .int .i64 r0, .int .i64 r1, .int .i64 r2, .int .i64 r3, p, i]] W fun r w' => r = .returned (.string y) ∧ Below W.heap.size W w')) :
    Calls Tryd.prog 7 #[D k t n f s r0 r1 r2 r3 p i] w fun r w' => r = .returned (.bool true) ∧ Below w.heap.size w w' := by
  simp only [D]
  have HK : Hid (∀ W, Below (w.alloc (.cells #[.int .i64 k, .string t, .int .i64 n, .int .u64 f, .string s, .int .i64 r0, .int .i64 r1, .int .i64 r2, .int .i64 r3, p, i] 28)).heap.size (w.alloc (.cells #[.int .i64 k, .string t, .int .i64 n, .int .u64 f, .string s, .int .i64 r0, .int .i64 r1, .int .i64 r2, .int .i64 r3, p, i] 28)) W → (W.cell? ⟨w.heap.size, 0, none⟩ = some (.int .i64 k) ∧ W.cell? ⟨w.heap.size, 1, none⟩ = some (.string t) ∧ W.cell? ⟨w.heap.size, 2, none⟩ = some (.int .i64 n) ∧ W.cell? ⟨w.heap.size, 3, none⟩ = some (.int .u64 f) ∧ W.cell? ⟨w.heap.size, 4, none⟩ = some (.string s) ∧ W.cell? ⟨w.heap.size, 5, none⟩ = some (.int .i64 r0) ∧ W.cell? ⟨w.heap.size, 6, none⟩ = some (.int .i64 r1) ∧ W.cell? ⟨w.heap.size, 7, none⟩ = some (.int .i64 r2) ∧ W.cell? ⟨w.heap.size, 8, none⟩ = some (.int .i64 r3) ∧ W.cell? ⟨w.heap.size, 9, none⟩ = some (p) ∧ W.cell? ⟨w.heap.size, 10, none⟩ = some (i))) := fun W hW => by
    have hk : ∀ j, W.cell? ⟨w.heap.size, j, none⟩ = (#[.int .i64 k, .string t, .int .i64 n, .int .u64 f, .string s, .int .i64 r0, .int .i64 r1, .int .i64 r2, .int .i64 r3, p, i] : Array Value)[j]? := fun j => by
      rw [hW.cell (p := ⟨w.heap.size, j, none⟩) (by simp), World.cell?_alloc_new]
    exact ⟨hk 0, hk 1, hk 2, hk 3, hk 4, hk 5, hk 6, hk 7, hk 8, hk 9, hk 10⟩
  go_enter Tryd.func7, Tryd.ntmps7
  go_wp2_with fail
  refine (known_any _).mono ?_
  rintro r w1 ⟨rfl, b1⟩
  have q1 : Below w.heap.size w w1 := (below1 w _).trans (b1.mono (by simp))
  have hb0 : Below (w.alloc (.cells #[.int .i64 k, .string t, .int .i64 n, .int .u64 f, .string s, .int .i64 r0, .int .i64 r1, .int .i64 r2, .int .i64 r3, p, i] 28)).heap.size (w.alloc (.cells #[.int .i64 k, .string t, .int .i64 n, .int .u64 f, .string s, .int .i64 r0, .int .i64 r1, .int .i64 r2, .int .i64 r3, p, i] 28)) w1.drew := b1.drew
  have q1d : Below w.heap.size w w1.drew := q1.drew
  go_wp2_with fail
  go_region_held3 (fun W => W.cell? ⟨w.heap.size, 0, none⟩ = some (.int .i64 k) ∧ W.cell? ⟨w.heap.size, 1, none⟩ = some (.string t) ∧ W.cell? ⟨w.heap.size, 2, none⟩ = some (.int .i64 n) ∧ W.cell? ⟨w.heap.size, 3, none⟩ = some (.int .u64 f) ∧ W.cell? ⟨w.heap.size, 4, none⟩ = some (.string s) ∧ W.cell? ⟨w.heap.size, 5, none⟩ = some (.int .i64 r0) ∧ W.cell? ⟨w.heap.size, 6, none⟩ = some (.int .i64 r1) ∧ W.cell? ⟨w.heap.size, 7, none⟩ = some (.int .i64 r2) ∧ W.cell? ⟨w.heap.size, 8, none⟩ = some (.int .i64 r3) ∧ W.cell? ⟨w.heap.size, 9, none⟩ = some (p) ∧ W.cell? ⟨w.heap.size, 10, none⟩ = some (i))
    ((first | with_reducible exact HK.out _ hbD | with_reducible exact HK.out _ hbC | with_reducible exact HK.out _ hbB | with_reducible exact HK.out _ hbA | with_reducible exact HK.out _ hb0))
    ((first
      | (go_at_call 26; refine (HS.out _ q1d).mono ?_; rintro r w2 ⟨rfl, b2⟩; have hbA : Below (w.alloc (.cells #[.int .i64 k, .string t, .int .i64 n, .int .u64 f, .string s, .int .i64 r0, .int .i64 r1, .int .i64 r2, .int .i64 r3, p, i] 28)).heap.size (w.alloc (.cells #[.int .i64 k, .string t, .int .i64 n, .int .u64 f, .string s, .int .i64 r0, .int .i64 r1, .int .i64 r2, .int .i64 r3, p, i] 28)) w2 := hb0.trans (b2.mono hb0.size))
      | (go_at_call 27; refine (HT.out _).mono ?_; rintro r w3 ⟨rfl, b3⟩; have hbB : Below (w.alloc (.cells #[.int .i64 k, .string t, .int .i64 n, .int .u64 f, .string s, .int .i64 r0, .int .i64 r1, .int .i64 r2, .int .i64 r3, p, i] 28)).heap.size (w.alloc (.cells #[.int .i64 k, .string t, .int .i64 n, .int .u64 f, .string s, .int .i64 r0, .int .i64 r1, .int .i64 r2, .int .i64 r3, p, i] 28)) w3 := hbA.trans (b3.mono hbA.size))
      | (go_at_call 28; refine (HN.out _).mono ?_; rintro r w4 ⟨rfl, b4⟩; have hbC : Below (w.alloc (.cells #[.int .i64 k, .string t, .int .i64 n, .int .u64 f, .string s, .int .i64 r0, .int .i64 r1, .int .i64 r2, .int .i64 r3, p, i] 28)).heap.size (w.alloc (.cells #[.int .i64 k, .string t, .int .i64 n, .int .u64 f, .string s, .int .i64 r0, .int .i64 r1, .int .i64 r2, .int .i64 r3, p, i] 28)) w4 := hbB.trans (b4.mono hbB.size))
      | (go_at_call 29; refine (HM.out _).mono ?_; rintro r w5 ⟨rfl, b5⟩; have hbD : Below (w.alloc (.cells #[.int .i64 k, .string t, .int .i64 n, .int .u64 f, .string s, .int .i64 r0, .int .i64 r1, .int .i64 r2, .int .i64 r3, p, i] 28)).heap.size (w.alloc (.cells #[.int .i64 k, .string t, .int .i64 n, .int .u64 f, .string s, .int .i64 r0, .int .i64 r1, .int .i64 r2, .int .i64 r3, p, i] 28)) w5 := hbC.trans (b5.mono hbC.size))))
  go_wp2_with fail
  go_ret
  exact ⟨rfl, (below1 w _).trans (hbD.mono (by simp))⟩
end Go.Proofs.YtoplmbboaobahaaDoor
