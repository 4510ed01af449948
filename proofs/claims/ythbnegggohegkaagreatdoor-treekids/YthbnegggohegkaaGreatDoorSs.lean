/-
  What holds between two rounds of tree.Same, and at its start.
-/
import Derived.Test.YthbnegggohegkaaGreatDoorAk
import Derived.Deep.LoopGhost
import Derived.Deep.DeepCutAuto
namespace Go.Proofs.YthbnegggohegkaaGreatDoor
open Go.RowKit

theorem BoxAt.first (w : World) (x y : MT) : BoxAt (((w.alloc (nodeO x)).alloc (nodeO y)).drew) w.heap.size x ∧ BoxAt (((w.alloc (nodeO x)).alloc (nodeO y)).drew) (w.heap.size + 1) y :=
  ⟨⟨by simp, by simp, by simp, by simp, by simp⟩, ⟨by simp, by simp, by simp, by simp, by simp⟩⟩

theorem own_below {w w' : World} {base e size n : Nat} {v : Value} {xs : List Value} (h : w.ownsRow base e size v n xs) (hb : Below w.heap.size w w') : w'.ownsRow base e size v n xs := by
  refine ⟨h.1, ?_⟩
  rcases h.2 with hn | ⟨g, cap, cur, rfl, hg, hgg, rest⟩
  · exact .inl hn
  · exact .inr ⟨g, cap, cur, rfl, hg, (hb.block g (Array.getElem?_eq_some_iff.1 hgg).1).trans hgg, rest⟩

theorem info71 : (Tryz.prog.info? 71).map (fun i => (i.zero, i.size, i.bytes)) = some (some (.agg #[.slice none 0 0, .slice none 0 0]), 2, 48) := by kernel_rfl

theorem two_new (w : World) (a b : Value) (t : TypeId) : ∀ j u, [a, b][j]? = some u → (w.alloc (.cells #[a, b] t)).cell? ((⟨w.heap.size, 0, none⟩ : Addr).add j) = some u := by
  intro j u hj
  match j, hj with
  | 0, hj => simp at hj; subst hj; simp [Addr.add]
  | 1, hj => simp at hj; subst hj; simp [Addr.add]
  | j + 2, hj => simp at hj

/-- What holds between two rounds of tree.Same. -/
structure SmInv (a b : MT) (B : Nat) (W0 : World) (fs : List Fr) (seen : Nat) (v : Value) (wr : World) : Prop where
  own : wr.ownsRow B 71 2 v fs.length (flat fs)
  some_ : ∃ g cap, v = .slice (some ⟨g, 0, none⟩) fs.length cap
  rows : ∀ f ∈ fs, f.In B wr
  seen_le : seen ≤ 1000000
  few : fs.length ≤ seen + 1
  says : MT.same a b = (okAll fs && decide (seen + total fs ≤ 1000000))
  below : Below B W0 wr

set_option maxHeartbeats 1000000 in
theorem start17 (a b : MT) (w : World) (ha : a.In w.heap.size w) (hb : b.In w.heap.size w) :
    SmInv a b (w.heap.size + 4) ((((w.alloc (nodeO a)).alloc (nodeO b)).alloc (nodeO a)).alloc (nodeO b)) [⟨some ⟨w.heap.size + 2, 0, none⟩, 1, [a], some ⟨w.heap.size + 3, 0, none⟩, 1, [b]⟩] 0 (.slice (some ⟨w.heap.size + 4, 0, none⟩) 1 1)
      (((((w.alloc (nodeO a)).alloc (nodeO b)).alloc (nodeO a)).alloc (nodeO b)).alloc (.cells #[.slice (some ⟨w.heap.size + 2, 0, none⟩) 1 1, .slice (some ⟨w.heap.size + 3, 0, none⟩) 1 1] 71)) := by
  have hB4 : Below w.heap.size w ((((w.alloc (nodeO a)).alloc (nodeO b)).alloc (nodeO a)).alloc (nodeO b)) := ((((Below.refl _ _).alloc (Nat.le_refl _) _).alloc (by simp) _).alloc (by simp; omega) _).alloc (by simp; omega) _
  have hz : ((((w.alloc (nodeO a)).alloc (nodeO b)).alloc (nodeO a)).alloc (nodeO b)).heap.size = w.heap.size + 4 := by simp
  have hc2 : MT.CellsAt ((((w.alloc (nodeO a)).alloc (nodeO b)).alloc (nodeO a)).alloc (nodeO b)) (w.heap.size + 2) 0 a := by
    have h1 := (BoxAt.new ((w.alloc (nodeO a)).alloc (nodeO b)) a).below (B := w.heap.size + 3) (by simp) ((Below.refl _ _).alloc (by simp) (nodeO b))
    simp only [World.size_alloc] at h1
    exact ⟨h1.k0, h1.k1, h1.k2, h1.k3, h1.k4⟩
  have hc3 : MT.CellsAt ((((w.alloc (nodeO a)).alloc (nodeO b)).alloc (nodeO a)).alloc (nodeO b)) (w.heap.size + 3) 0 b := by
    have h1 := BoxAt.new (((w.alloc (nodeO a)).alloc (nodeO b)).alloc (nodeO a)) b
    simp only [World.size_alloc] at h1
    exact ⟨h1.k0, h1.k1, h1.k2, h1.k3, h1.k4⟩
  generalize ((((w.alloc (nodeO a)).alloc (nodeO b)).alloc (nodeO a)).alloc (nodeO b)) = W4 at *
  have hb5 : Below (w.heap.size + 4) W4 (W4.alloc (.cells #[.slice (some ⟨w.heap.size + 2, 0, none⟩) 1 1, .slice (some ⟨w.heap.size + 3, 0, none⟩) 1 1] 71)) := (Below.refl _ _).alloc (by omega) _
  have ha' := MT.In.mono (Nat.le_add_right _ 4) a (MT.In.below (hB4.trans (hb5.mono (by omega))) a ha)
  have hb' := MT.In.mono (Nat.le_add_right _ 4) b (MT.In.below (hB4.trans (hb5.mono (by omega))) b hb)
  refine ⟨⟨rfl, .inr ⟨w.heap.size + 4, 1, #[.slice (some ⟨w.heap.size + 2, 0, none⟩) 1 1, .slice (some ⟨w.heap.size + 3, 0, none⟩) 1 1], rfl, Nat.le_refl _, ?_, Nat.le_refl _, by unfold maxLen; omega, rfl, rfl⟩⟩, ⟨_, _, rfl⟩, ?_, by omega, by simp, ?_, hb5⟩
  · rw [← hz]; exact heap_alloc_new W4 _
  · intro f hf
    simp only [List.mem_cons, List.not_mem_nil, or_false] at hf
    subst hf
    refine ⟨⟨Nat.le_refl _, by unfold maxLen; simp only; omega, .inr ⟨w.heap.size + 2, 0, rfl, by omega, ?_⟩⟩, ⟨Nat.le_refl _, by unfold maxLen; simp only; omega, .inr ⟨w.heap.size + 3, 0, rfl, by omega, ?_⟩⟩, rfl⟩
    · rw [MT.InL]
      exact ⟨hc2.below (by omega) hb5, ha', by rw [MT.InL]; trivial⟩
    · rw [MT.InL]
      exact ⟨hc3.below (by omega) hb5, hb', by rw [MT.InL]; trivial⟩
  · have h1 : total [Fr.mk (some ⟨w.heap.size + 2, 0, none⟩) 1 [a] (some ⟨w.heap.size + 3, 0, none⟩) 1 [b]] = a.size := by simp [total, MT.sizeL]
    have h2 : okAll [Fr.mk (some ⟨w.heap.size + 2, 0, none⟩) 1 [a] (some ⟨w.heap.size + 3, 0, none⟩) 1 [b]] = MT.alike a b := by simp [okAll, MT.alikeL]
    rw [h1, h2, MT.same, Bool.and_comm, Nat.zero_add]

end Go.Proofs.YthbnegggohegkaaGreatDoor
