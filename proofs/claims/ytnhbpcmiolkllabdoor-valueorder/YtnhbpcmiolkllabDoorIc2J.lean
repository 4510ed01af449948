/-
  Right at any datum; the law ValueRight.
  Equal, at any two data.
  Of, at any datum.
-/
import Derived.Test.YtnhbpcmiolkllabDoorEe
import Derived.Test.YtnhbpcmiolkllabDoorRtJ
import Derived.Test.YtnhbpcmiolkllabDoorXJ
import Derived.Test.YtnhbpcmiolkllabDoorEb2
namespace Go.Proofs.YtnhbpcmiolkllabDoor
open Go.RowKit
attribute [local go_sem] refold2 cell3_0 cell3_1 b28_0 b28_01

set_option maxRecDepth 100000 in
set_option maxHeartbeats 1000000 in
theorem Right_any (n : Nat) (d : MD) (w : World) (hN : NamesAt w) (hin : MD.In w.heap.size w n d) : Calls Tryd.prog 8 #[d.val] w fun r w' => r = .returned (.bool (MD.right n d)) ∧ Below w.heap.size w w' := by
  have HR : Hid (Calls Tryd.prog 22 #[d.val, .pointer (some ⟨w.heap.size + 1, 0, none⟩)] ((w.alloc (.cells d.cells 32)).alloc (.cells #[.int .i64 100] 3)) fun r w' => r = .returned (.bool (MD.right n d)) ∧ Below w.heap.size w w') := by
    have hb2 := below2 w (.cells d.cells 32) (.cells #[.int .i64 100] 3)
    refine (right_any n d (w.heap.size + 1) 100 _ (hN.kept hb2) (by omega) ⟨row_at (heap2_1 _ _ _) 0, fz _ _ _ _ 0 (heap2_1 _ _ _), by simp⟩ (by omega) (by omega) (MD.In.mono (by omega) n d (MD.In.below hb2 n d hin))).mono ?_
    rintro r w' ⟨x, q, rfl, h1, _, h3, _⟩
    refine ⟨?_, hb2.trans (h1.mono (by omega))⟩
    rw [h3, MD.right]
    congr 3
    apply decide_eq_decide.2; omega
  clear hin hN
  generalize MD.right n d = fv at HR ⊢
  obtain ⟨⟨k, t, a, f, s, r0, r1, r2, r3, pp, path, pc⟩, ip, ic, items⟩ := d
  simp only [MD.val, D, MD.cells] at *
  go_enter Tryd.func8, Tryd.ntmps8
  go_wp2_with (go_at_call 22; refine HR.out.mono ?_; rintro r w' ⟨rfl, hb⟩)
  go_ret
  exact ⟨rfl, hb⟩

end Go.Proofs.YtnhbpcmiolkllabDoor
namespace Go.Proofs.YtnhbpcmiolkllabDoor
open Go.RowKit
attribute [local go_sem] refold2 cell3_0 cell3_1 b28_0 b28_01
theorem right_full {n : Nat} {d : MD} (h : MD.right n d = true) : MD.full n d = true := by
  unfold MD.right at h
  rw [Bool.and_eq_true] at h
  first | exact h.1 | exact h.2
set_option maxRecDepth 100000 in
set_option maxHeartbeats 2000000 in
theorem Equal_good (n : Nat) (x y : MD) (w : World) (hN : NamesAt w) (hx : MD.In w.heap.size w n x) (hy : MD.In w.heap.size w n y) (h : MD.right n x = true) (h' : MD.right n y = true) (hc : (MD.eqv n x y).2 = ⟨#[]⟩) : Calls Tryd.prog 10 #[x.val, y.val] w fun r w' => r = .returned (.tuple #[.bool (MD.eqv n x y).1, .nilIface]) ∧ Below w.heap.size w w' := by
  have HX : Hid (∀ W, Below w.heap.size w W → Calls Tryd.prog 8 #[x.val] W fun r w' => r = .returned (.bool (MD.right n x)) ∧ Below W.heap.size W w') := fun W hW => Right_any n x W (hN.kept hW) (hx.later (Nat.le_refl _) hW)
  have HY : Hid (∀ W, Below w.heap.size w W → Calls Tryd.prog 8 #[y.val] W fun r w' => r = .returned (.bool (MD.right n y)) ∧ Below W.heap.size W w') := fun W hW => Right_any n y W (hN.kept hW) (hy.later (Nat.le_refl _) hW)
  have HE : Hid (∀ W, Below w.heap.size w W → Calls Tryd.prog 24 #[x.val, y.val] W fun r w' => r = .returned (.tuple #[.bool (MD.eqv n x y).1, .string (MD.eqv n x y).2]) ∧ Below W.heap.size W w') := fun W hW => eqv_any n x y W (hx.later (Nat.le_refl _) hW) (hy.later (Nat.le_refl _) hW) (right_full h) (right_full h')
  rw [h] at HX
  rw [h'] at HY
  clear hx hy h h'
  rw [hc] at HE
  clear hc
  generalize (MD.eqv n x y).1 = q at HE ⊢
  obtain ⟨⟨k, t, a, f, s, r0, r1, r2, r3, pp, path, pc⟩, ip, ic, items⟩ := x
  obtain ⟨⟨k', t', a', f', s', r0', r1', r2', r3', pp', path', pc'⟩, ip', ic', items'⟩ := y
  simp only [MD.val, D] at *
  go_enter Tryd.func10, Tryd.ntmps10
  go_wp2_with fail
  refine (HX.out _ (below2 _ _ _)).mono ?_
  rintro r w1 ⟨rfl, b1⟩
  obtain ⟨e1, d1⟩ := two_kept _ _ _ _ b1
  have q1 : Below w.heap.size w w1 := (below2 _ _ _).trans (b1.mono (by simp; omega))
  go_wp2_with fail
  refine (HY.out _ q1).mono ?_
  rintro r w2 ⟨rfl, b2⟩
  have c2 := b1.trans (b2.mono b1.size)
  obtain ⟨e2, d2⟩ := two_kept _ _ _ _ c2
  have q2 := q1.trans (b2.mono q1.size)
  clear e1 d1
  go_wp2_with fail
  refine (HE.out _ q2).mono ?_
  rintro r w3 ⟨rfl, b3⟩
  have q3 := q2.trans (b3.mono q2.size)
  clear e2 d2
  go_wp2
  refine bodyPost_ret (v := .tuple #[.bool q, .nilIface]) (by simp [results, Tryd.results10, go_sem]) rfl ⟨rfl, q3⟩
end Go.Proofs.YtnhbpcmiolkllabDoor
namespace Go.Proofs.YtnhbpcmiolkllabDoor
open Go.RowKit
attribute [local go_sem] refold2 cell3_0 cell3_1 b28_0 b28_01

/-- What Of answers: a value of the type T over an own datum. -/
def OfP (n : Nat) (x : MD) (T : TypeId) (w : World) (r : Ending) (w' : World) : Prop := ∃ (b : Nat) (d' : MD), r = .returned (.tuple #[.iface T (.agg #[.pointer (some ⟨b, 0, none⟩)]), .nilIface]) ∧ w.heap.size ≤ b ∧ w'.heap[b]? = some (.cells d'.cells 32 (0, 0)) ∧ MD.In w'.heap.size w' n d' ∧ MD.Above w.heap.size n d' ∧ MD.same n x d' = true ∧ Below w.heap.size w w'
theorem same_kind {n : Nat} {x d : MD} (h : MD.same n x d = true) (hn : n ≠ 0) : d.h.k = x.h.k := by
  cases n with
  | zero => exact absurd rfl hn
  | succ n =>
    have h1 : (sameH x.h d.h x.items.length d.items.length && _ && _) = true := h
    rw [Bool.and_eq_true, Bool.and_eq_true] at h1
    have h2 := of_decide_eq_true h1.1.1
    exact h2.1.symm


theorem taN0 (w : World) : (Instr.typeAssert .nilIface 49 92 true).run Tryd.prog w = .ok (.tuple #[.agg #[.pointer none], .bool false]) w := by kernel_rfl
theorem taR8 (v : Value) (w : World) : (Instr.typeAssert (.iface 92 v) 49 92 true).run Tryd.prog w = .ok (.tuple #[v, .bool true]) w := by simp [Instr.typeAssert, go_sem]
attribute [local go_sem] taN0 taR8
set_option maxRecDepth 100000 in
set_option maxHeartbeats 4000000 in
theorem Of_kind (n : Nat) (x : MD) (w : World) (hN : NamesAt w) (hx : MD.In w.heap.size w n x) (h : MD.right n x = true) (T : TypeId)
    (hbeh : ∀ (b : Nat) (W : World), W.cell? ⟨b, 0, none⟩ = some (.int .i64 x.h.k) → b < W.heap.size → Calls Tryd.prog 33 #[.pointer (some ⟨b, 0, none⟩)] W fun r w' => r = .returned (.iface T (.agg #[.pointer (some ⟨b, 0, none⟩)])) ∧ Below W.heap.size W w')
    (hta : ∀ (v : Value) (W : World), (Instr.typeAssert (.iface T v) 49 92 true).run Tryd.prog W = .ok (.tuple #[.agg #[.pointer none], .bool false]) W) :
    Calls Tryd.prog 17 #[x.val] w (OfP n x T w) := by
  have HR : Hid (∀ W, Below w.heap.size w W → Calls Tryd.prog 8 #[x.val] W fun r w' => r = .returned (.bool (MD.right n x)) ∧ Below W.heap.size W w') := fun W hW => Right_any n x W (hN.kept hW) (hx.later (Nat.le_refl _) hW)
  rw [h] at HR
  have HC : Hid (∀ W, Below w.heap.size w W → Calls Tryd.prog 32 #[x.val] W (CopyP n x W)) := fun W hW => copiedV_any n x W (hx.later (Nat.le_refl _) hW) (right_full h)
  have HBe : Hid _ := hbeh
  have hn0 : n ≠ 0 := fun e => by subst e; exact hx.elim
  clear hx h hbeh
  obtain ⟨⟨k, t, a, f, s, r0, r1, r2, r3, pp, path, pc⟩, ip, ic, items⟩ := x
  simp only [MD.val, D] at HR HC HBe ⊢
  go_enter Tryd.func17, Tryd.ntmps17
  go_wp2_with fail
  refine (HR.out _ (below1 _ _)).mono ?_
  rintro r w1 ⟨rfl, b1⟩
  have e1 := one_kept _ _ _ b1
  have q1 : Below w.heap.size w w1 := (below1 _ _).trans (b1.mono (by simp))
  go_wp2_with fail
  refine (HC.out _ q1).mono ?_
  rintro r w2 ⟨d', rfl, hd1, hd2, hd3, hd4⟩
  have q2 : Below w.heap.size w w2 := q1.trans (hd4.mono q1.size)
  have hd2' := MD.Above.mono q1.size n _ hd2
  obtain ⟨⟨l0, l1, l2, l3, l4, l5, l6, l7, l8, lp, lpath, lpc⟩, lip, lic, lit⟩ := d'
  simp only [MD.val, D]
  have z2 := hd4.size
  have zq := q2.size
  have HD : Hid (MD.In w2.heap.size w2 n ⟨⟨l0, l1, l2, l3, l4, l5, l6, l7, l8, lp, lpath, lpc⟩, lip, lic, lit⟩ ∧ MD.Above w.heap.size n ⟨⟨l0, l1, l2, l3, l4, l5, l6, l7, l8, lp, lpath, lpc⟩, lip, lic, lit⟩ ∧ MD.same n ⟨⟨k, t, a, f, s, r0, r1, r2, r3, pp, path, pc⟩, ip, ic, items⟩ ⟨⟨l0, l1, l2, l3, l4, l5, l6, l7, l8, lp, lpath, lpc⟩, lip, lic, lit⟩ = true) := ⟨hd1, hd2', hd3⟩
  have hk : l0 = k := same_kind hd3 hn0
  subst hk
  clear e1 hd1 hd2 hd3 hd4 hd2'
  go_wp2_with fail
  refine (HBe.out w2.heap.size _ (by rw [World.cell?_alloc_new]; rfl) (by simp)).mono ?_
  rintro r w3 ⟨rfl, b3⟩
  have q3 : Below w.heap.size w w3 := (q2.alloc q2.size _).trans (b3.mono (by simp; omega))
  have hr3 : Hid (w3.heap[w2.heap.size]? = some (.cells #[.int .i64 l0, .string l1, .int .i64 l2, .int .u64 l3, .string l4, .int .i64 l5, .int .i64 l6, .int .i64 l7, .int .i64 l8, .slice lp lpath.length lpc, .slice lip lit.length lic] 32 (0, 0))) := (b3.block w2.heap.size (by simp)).trans (heap_alloc_new _ _)
  have HB3 : Hid (Below w2.heap.size w2 w3) := (below1 _ _).trans (b3.mono (by simp))
  clear b3
  go_wp2_with fail
  refine bodyPost_ret (v := .tuple #[.iface T (.agg #[.pointer (some ⟨w2.heap.size, 0, none⟩)]), .nilIface]) (by simp [results, Tryd.results17, go_sem]) rfl ?_
  refine ⟨w2.heap.size, ⟨⟨l0, l1, l2, l3, l4, l5, l6, l7, l8, lp, lpath, lpc⟩, lip, lic, lit⟩, rfl, q2.size, (Below.heap_alloc _ _ _ (row_ltT hr3.out)).trans hr3.out, ?_, HD.out.2.1, HD.out.2.2, q3.alloc q3.size _⟩
  exact HD.out.1.later (Nat.le_refl _) (HB3.out.alloc HB3.out.size _)
end Go.Proofs.YtnhbpcmiolkllabDoor
