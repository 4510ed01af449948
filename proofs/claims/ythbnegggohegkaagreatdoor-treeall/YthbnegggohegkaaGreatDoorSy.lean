/-
  Same asks both ways round the same.
-/
import Derived.Test.YthbnegggohegkaaGreatDoorSa
namespace Go.Proofs.YthbnegggohegkaaGreatDoor

mutual
theorem MT.alike_comm : ∀ a b : MT, MT.alike a b = MT.alike b a
  | .node k s n p q c ks, .node k' s' n' p' q' c' ks' => by
    simp only [MT.alike, MT.kind_node, MT.text_node, MT.num_node, MT.kids_node]
    rw [MT.alikeL_comm ks ks', Bool.beq_comm (a := k), Bool.beq_comm (a := n), Bool.beq_comm (a := s.data.toList), Bool.beq_comm (a := ks.length)]
theorem MT.alikeL_comm : ∀ a b : List MT, MT.alikeL a b = MT.alikeL b a
  | [], [] => rfl
  | [], _ :: _ => by simp [MT.alikeL]
  | _ :: _, [] => by simp [MT.alikeL]
  | x :: xs, y :: ys => by simp only [MT.alikeL]; rw [MT.alike_comm x y, MT.alikeL_comm xs ys]
end

theorem MT.same_comm (a b : MT) : MT.same b a = MT.same a b := by
  unfold MT.same
  rw [MT.alike_comm b a]
  cases h : MT.alike a b
  · simp
  · rw [MT.alike_size a b h]
end Go.Proofs.YthbnegggohegkaaGreatDoor
