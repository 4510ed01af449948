/-
  DispatchTurns: what its calls leave, and its picks.
-/
import Derived.Test.YtaboeocgoocgfaaGreatDoorBh
import Derived.Test.YtaboeocgoocgfaaGreatDoorAh
namespace Go.Proofs.YtaboeocgoocgfaaGreatDoor
open Go.RowKit Go.ChangeMaps

theorem pick_n (c : Int) (n : Nat) (hn : n = 60 ∨ n = 5) (w : World) (h0 : -9223372036854775808 ≤ c) (h1 : c ≤ 9223372036854775807) :
    Calls Tryz.prog 14 #[.int .i64 c, .int .i64 n] w fun e w' => ∃ r : Nat, r < n ∧ e = .returned (.int .i64 r) ∧ w' = w := by
  by_cases h : c < 0
  · have e : ∀ m : Int, 0 < m → -(c + 1).tmod m = (-(c + 1)) % m := fun m hm => by
      rw [← Int.neg_tmod, Int.tmod_eq_emod_of_nonneg (by omega)]
    rcases hn with rfl | rfl
    · go_enter Tryz.func14, Tryz.ntmps14
      go_wp2
      go_ret
      refine ⟨((-(c + 1)) % 60).toNat, by omega, congrArg (fun x => Ending.returned (.int .i64 x)) ?_, rfl⟩
      have := e 60 (by omega)
      omega
    · go_enter Tryz.func14, Tryz.ntmps14
      go_wp2
      go_ret
      refine ⟨((-(c + 1)) % 5).toNat, by omega, congrArg (fun x => Ending.returned (.int .i64 x)) ?_, rfl⟩
      have := e 5 (by omega)
      omega
  · rcases hn with rfl | rfl
    · go_enter Tryz.func14, Tryz.ntmps14
      go_wp2
      go_ret
      refine ⟨(c % 60).toNat, by omega, congrArg (fun x => Ending.returned (.int .i64 x)) ?_, rfl⟩
      omega
    · go_enter Tryz.func14, Tryz.ntmps14
      go_wp2
      go_ret
      refine ⟨(c % 5).toNat, by omega, congrArg (fun x => Ending.returned (.int .i64 x)) ?_, rfl⟩
      omega

/-- Two new caches. -/
theorem two_new {V1 V2 V3 : World} {tb M g cap pb pe clk k : Nat} {es : Array MapEntry} (ht : TabAt V1 tb M g cap pb pe es clk) (u2 : Below V1.heap.size V1 V2) (u3 : Below V2.heap.size V2 V3)
    (m2 : V2.heap[V1.heap.size]? = some (.map #[] 0)) (c2 : V2.heap[V1.heap.size + 1]? = some (.cells (cacheC tb V1.heap.size k 0 0 (ringP (V1.heap.size + 1)) (ringP (V1.heap.size + 1))) 74))
    (m3 : V3.heap[V2.heap.size]? = some (.map #[] 0)) (c3 : V3.heap[V2.heap.size + 1]? = some (.cells (cacheC tb V2.heap.size k 0 0 (ringP (V2.heap.size + 1)) (ringP (V2.heap.size + 1))) 74)) :
    Two V1 V1.heap.size tb M g cap pb pe clk es k V1.heap.size (V1.heap.size + 1) V2.heap.size (V2.heap.size + 1) 0 0 0 V3 := by
  have z2 := u2.size
  have z3 := u3.size
  have l2 := heap_lt c2
  refine ⟨[], [], 0, [], [], 0, (ht.below u2).below u3, ⟨⟨(u3.block _ (heap_lt c2)).trans c2, trivial, fun x hx => by (cases hx), by simp⟩, (u3.block _ (heap_lt m2)).trans m2, by omega, fun x hx => by (cases hx)⟩, Or.inl ⟨rfl, rfl, rfl⟩, ⟨⟨c3, trivial, fun x hx => by (cases hx), by simp⟩, m3, by omega, fun x hx => by (cases hx)⟩, ⟨rfl, by simp [names]⟩, fun a ha => ?_, fun a ha => ?_, u2.trans (u3.mono z2)⟩
  · rcases ha with rfl | rfl | ⟨x, hx, _⟩
    · exact ⟨by omega, fun h => by rcases h with h | h | ⟨x, hx, _⟩; omega; omega; cases hx⟩
    · exact ⟨by omega, fun h => by rcases h with h | h | ⟨x, hx, _⟩; omega; omega; cases hx⟩
    · cases hx
  · rcases ha with rfl | rfl | ⟨x, hx, _⟩
    · omega
    · omega
    · cases hx
end Go.Proofs.YtaboeocgoocgfaaGreatDoor
