/-
  The walks of Binary at ints.
-/
import Derived.Test.YtoplmbboaobahaaDoorC
namespace Go.Proofs.YtoplmbboaobahaaDoor
open Go.RowKit

attribute [local go_sem] refold2 cell3_0 cell3_1 b28_0 b28_01 b28_012 b28_013 b28_014 b35_01 b35_0 b35 mkI69

set_option maxRecDepth 100000 in
set_option maxHeartbeats 4000000 in
theorem binary_int (o : IOp) (t : ByteArray) (a b f f' : Int) (s s' : ByteArray) (r0 r1 r2 r3 : Int) (p i : Value) (q0 q1 q2 q3 : Int) (p' i' : Value) (w : World) (ht : t.size ≤ 140737488351232) (hok : o.ok b) :
    Calls Tryd.prog 15 #[.string o.txt, D 2 t a f s r0 r1 r2 r3 p i, D 2 t b f' s' q0 q1 q2 q3 p' i'] w fun r w' => r = .returned (.tuple #[dat 2 t (o.val a b) 0 ⟨#[]⟩, .nilIface]) ∧ Below w.heap.size w w' := by
  have HO : Hid (∀ W, Calls Tryd.prog 44 #[.string o.txt, D 2 t a f s r0 r1 r2 r3 p i, D 2 t b f' s' q0 q1 q2 q3 p' i'] W fun r w' => r = .returned (.tuple #[dat 2 t (o.val a b) 0 ⟨#[]⟩, .nilIface]) ∧ Below W.heap.size W w') := fun W => ofInts_any o t a b f f' s s' r0 r1 r2 r3 p i q0 q1 q2 q3 p' i' W ht hok
  obtain ⟨c, hc⟩ : ∃ c, c = o.val a b := ⟨_, rfl⟩
  rw [← hc] at HO ⊢
  clear hc hok ht
  simp only [dat, D] at HO ⊢
  cases o <;> simp only [IOp.txt] at HO ⊢
  all_goals
    go_enter Tryd.func15, Tryd.ntmps15
    go_wp2_with (go_at_call 44; refine (HO.out _).mono ?_; rintro e w2 ⟨rfl, hb⟩; obtain ⟨⟨c0, c1, c2, c3, c4, c5, c6, c7, c8, c9, c10⟩, hf2⟩ := box_kept ((hb.block (w.heap.size + 1 + 1) (by simp)).trans (heap3_2 _ _ _ _)))
    refine bodyPost_ret (v := .tuple #[.agg #[.int .i64 2, .string t, .int .i64 c, .int .u64 0, .string ⟨#[]⟩, .int .i64 0, .int .i64 0, .int .i64 0, .int .i64 0, .slice none 0 0, .slice none 0 0], .nilIface]) (by simp [results, Tryd.results15, go_sem, c0, c1, c2, c3, c4, c5, c6, c7, c8, c9, c10]) rfl ⟨rfl, ?_⟩
    exact bset ((below3 w _ _ _).trans (hb.mono (by simp; omega))) (by omega) _ _ _ _ _ _ _ _ _ _ _
end Go.Proofs.YtoplmbboaobahaaDoor
