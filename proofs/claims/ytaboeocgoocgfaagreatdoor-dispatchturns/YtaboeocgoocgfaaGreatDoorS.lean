/-
  The levels of a type that embeds nothing, as an iterator.
-/
import Derived.Test.YtaboeocgoocgfaaGreatDoorQ
import Derived.Test.YtaboeocgoocgfaaGreatDoorR
namespace Go.Proofs.YtaboeocgoocgfaaGreatDoor
open Go.RowKit Go.Shelf

attribute [local go_sem] Oper.semAt_some
theorem info161 : (Tryz.prog.info? 161).map (fun i => (i.zero, i.size, i.bytes)) = some (some (.agg #[.string ⟨#[]⟩, .slice none 0 0, .bool false, .bool false]), 4, 48) := by kernel_rfl
set_option maxRecDepth 100000 in
set_option maxHeartbeats 4000000 in
theorem levels1_once (n : Nat) (hn : 5 ≤ n) (tb M g cap pb pe : Nat) (es : Array MapEntry) (clk : Nat) (nb cb : Nat) (w : World) (ht : TabAt w tb M g cap pb pe es clk) (hnb : w.heap[nb]? = some (.cells #[.string ⟨#[65]⟩] 9)) (hcb : w.heap[cb]? = some (.cells #[.pointer (some ⟨tb, 0, none⟩)] 23)) :
    SeqOnce Fence.wide n Tryz.prog 73 #[.pointer (some ⟨nb, 0, none⟩), .pointer (some ⟨cb, 0, none⟩)] (.slice (some ⟨w.heap.size + 2, 0, none⟩) 1 1) (w.heap.size + 2) (.cells #[.string ⟨#[65]⟩, .slice none 0 0, .bool false, .bool false] 161) w := by
  intro l W R R1 hW hz hR hY
  have hnl := heap_lt hnb
  have hcl := heap_lt hcb
  have nc := (cells_of ((hW.block _ hnl).trans hnb)).1
  have cc := (cells_of ((hW.block _ hcl).trans hcb)).1
  have hnl2 : nb < W.heap.size := by omega
  have hcl2 : cb < W.heap.size := by omega
  refine callsIn_of_wp_marks Tryz.func73 rfl trivial ?_ rfl
  simp only [Tryz.ntmps73, List.size_toArray, List.length_cons, List.length_nil, Nat.reduceAdd, Nat.reduceSub, Array.replicate_succ, Array.replicate_zero, List.push_toArray, List.append_toArray, List.nil_append, List.cons_append]
  gi_wp2_with fail
  refine wpIn_loop_rounds 2 ?_
  rw [roundsIn_succ]
  obtain ⟨W1, hW1⟩ : ∃ V, V = W.alloc (.cells #[.string ⟨#[65]⟩, .slice none 0 0, .bool false, .bool false] 161) := ⟨_, rfl⟩
  rw [← hW1]
  have b1 : Below W.heap.size W W1 := by rw [hW1]; exact below1 _ _
  have v1 : W1.heap[w.heap.size + 2]? = some (.cells #[.string ⟨#[65]⟩, .slice none 0 0, .bool false, .bool false] 161) := by rw [hW1]; exact heap_new _ _ _ (by omega)
  clear hW1
  obtain ⟨fn, tmps, assign, body, hy, hRR⟩ := hY W1 b1 v1
  clear hY
  gi_wp2
  refine ⟨fun _ => by omega, hRR.mono ?_⟩
  rintro e W2 (⟨rfl, hr⟩ | ⟨rfl, hr⟩)
  · obtain ⟨b2, v2, z2⟩ := hR W2 hr
    clear hy hRR hR
    have t2 := ht.below b2
    have nc2 := (cells_of ((b2.block _ hnl).trans hnb)).1
    have cc2 := (cells_of ((b2.block _ hcl).trans hcb)).1
    gi_wp2_with fail
    refine ⟨trivial, fun _ => by omega, ?_⟩
    refine (callsIn_wide.2 (below_none tb M g cap pb pe es clk _ _ t2 v2)).mono ?_
    rintro e W3 ⟨rfl, b3⟩
    obtain ⟨i0, hi, hz0, hz1, hz2⟩ := info_parts info161
    have v3 : W3.heap[w.heap.size + 2]? = some (.cells #[.string ⟨#[65]⟩, .slice none 0 0, .bool false, .bool false] 161) := (b3.block _ z2).trans v2
    have hap : ∀ ty, (Builtin.append_ #[159, 159] ty #[.slice (some ⟨w.heap.size + 2, 0, none⟩) 1 1, .slice none 0 0]).run Tryz.prog W3 = .ok (.slice (some ⟨w.heap.size + 2, 0, none⟩) 1 1) W3 := fun ty =>
      run_append_owned_none (P := Tryz.prog) (w := W3) 0 159 ty 161 i0 4 Tryz.underlying159 hi _ 1 (#[.string ⟨#[65]⟩, .slice none 0 0, .bool false, .bool false] : Array Value).toList ⟨rfl, .inr ⟨_, 1, #[.string ⟨#[65]⟩, .slice none 0 0, .bool false, .bool false], rfl, Nat.zero_le _, v3, Nat.le_refl _, by decide, rfl, rfl⟩⟩
    gi_wp2_with fail
    rw [roundsIn_succ]
    gi_wp2_with fail
    refine ⟨fun f h => (by cases h), ?_⟩
    gi_wp2_with fail
    exact ⟨_, results_none rfl _ _ _, ⟨_, rfl⟩, .inl ⟨W2, hr, b3⟩⟩
  · gi_wp2_with fail
    exact ⟨_, results_none rfl _ _ _, ⟨_, rfl⟩, .inr hr⟩
end Go.Proofs.YtaboeocgoocgfaaGreatDoor
