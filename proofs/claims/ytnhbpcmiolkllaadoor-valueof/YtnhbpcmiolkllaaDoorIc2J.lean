/-
  Right at any datum; the law ValueRight.
  Equal, at any two data; what the law's wrong and told say of its errors.
  Equal, at any two data.
  Key, at any datum.
  Of, at any datum.
-/
import Derived.Test.YtnhbpcmiolkllaaDoorEe
import Derived.Test.YtnhbpcmiolkllaaDoorRt
import Derived.Test.YtnhbpcmiolkllaaDoorXJ
import Derived.Test.YtnhbpcmiolkllaaDoorEb2
import Derived.Test.YtnhbpcmiolkllaaDoorRbJ
namespace Go.Proofs.YtnhbpcmiolkllaaDoor
open Go.RowKit
attribute [local go_sem] refold2 cell3_0 cell3_1 b28_0 b28_01

set_option maxRecDepth 100000 in
set_option maxHeartbeats 1000000 in
theorem Right_any (n : Nat) (d : MD) (w : World) (hN : NamesAt w) (hin : MD.In w.heap.size w n d) : Calls Tryd.prog 10 #[d.val] w fun r w' => r = .returned (.bool (MD.right n d)) ∧ Below w.heap.size w w' := by
  have HR : Hid (Calls Tryd.prog 31 #[d.val, .pointer (some ⟨w.heap.size + 1, 0, none⟩)] ((w.alloc (.cells d.cells 28)).alloc (.cells #[.int .i64 100] 3)) fun r w' => r = .returned (.bool (MD.right n d)) ∧ Below w.heap.size w w') := by
    have hb2 := below2 w (.cells d.cells 28) (.cells #[.int .i64 100] 3)
    refine (right_any n d (w.heap.size + 1) 100 _ (hN.kept hb2) (by omega) ⟨row_at (heap2_1 _ _ _) 0, fz _ _ _ _ 0 (heap2_1 _ _ _), by simp⟩ (by omega) (by omega) (MD.In.mono (by omega) n d (MD.In.below hb2 n d hin))).mono ?_
    rintro r w' ⟨x, q, rfl, h1, _, h3, _⟩
    refine ⟨?_, hb2.trans (h1.mono (by omega))⟩
    rw [h3, MD.right]
    congr 3
    apply decide_eq_decide.2; omega
  clear hin hN
  generalize MD.right n d = fv at HR ⊢
  obtain ⟨⟨k, t, a, f, s, r0, r1, r2, r3, pp, path, pc⟩, ip, ic, items⟩ := d
  simp only [MD.val, D, MD.cells] at *
  go_enter Tryd.func10, Tryd.ntmps10
  go_wp2_with (go_at_call 31; refine HR.out.mono ?_; rintro r w' ⟨rfl, hb⟩)
  go_ret
  exact ⟨rfl, hb⟩

end Go.Proofs.YtnhbpcmiolkllaaDoor
namespace Go.Proofs.YtnhbpcmiolkllaaDoor
open Go.RowKit
attribute [local go_sem] refold2 cell3_0 cell3_1 b28_0 b28_01

theorem b83_0 (k : Int) (w : World) : (Instr.build 83 #[(0, .int .i64 k)]).run Tryd.prog w = .ok (.agg #[.int .i64 k, .int .i64 0, .string ⟨#[]⟩]) w := run_build w 83 _ _ (by kernel_rfl)
theorem wrong_any (w : World) :
    Calls Tryd.prog 34 #[] w fun r w' => r = .returned (.iface 79 (.pointer (some ⟨w.heap.size, 0, none⟩))) ∧ w' = w.alloc (.cells #[.int .i64 1, .int .i64 0, .string ⟨#[]⟩] 83) := by
  have hb := b83_0
  go_enter Tryd.func34, Tryd.ntmps34
  go_wp2
  go_ret
  exact ⟨rfl, rfl⟩
theorem ta79 (v : Value) (w : World) : (Instr.typeAssert (.iface 79 v) 36 79 true).run Tryd.prog w = .ok (.tuple #[v, .bool true]) w := by
  simp [Instr.typeAssert, go_sem]
set_option maxRecDepth 100000 in
set_option maxHeartbeats 2000000 in
theorem wrong_hit (n : Nat) (w : World) (hn : w.heap[n]? = some (.cells #[.int .i64 1, .int .i64 0, .string ⟨#[]⟩] 83 (0, 0))) :
    Calls Tryd.prog 16 #[.iface 79 (.pointer (some ⟨n, 0, none⟩))] w fun r w' => r = .returned (.bool true) ∧ Below w.heap.size w w' := by
  have hc0 : w.cell? ⟨n, 0, none⟩ = some (.int .i64 1) := by simp [World.cell?, hn]
  have hc1 : w.cell? ⟨n, 1, none⟩ = some (.int .i64 0) := by simp [World.cell?, hn]
  have hc2 : w.cell? ⟨n, 2, none⟩ = some (.string ⟨#[]⟩) := by simp [World.cell?, hn]
  have hta := ta79
  have hb := b83_0
  clear hn
  go_enter Tryd.func16, Tryd.ntmps16
  go_wp2
  go_ret
  exact ⟨rfl, Below.refl _ _⟩
end Go.Proofs.YtnhbpcmiolkllaaDoor
namespace Go.Proofs.YtnhbpcmiolkllaaDoor
open Go.RowKit
attribute [local go_sem] refold2 cell3_0 cell3_1 b28_0 b28_01
theorem right_full {n : Nat} {d : MD} (h : MD.right n d = true) : MD.full n d = true := by
  unfold MD.right at h
  rw [Bool.and_eq_true] at h
  first | exact h.1 | exact h.2
end Go.Proofs.YtnhbpcmiolkllaaDoor
namespace Go.Proofs.YtnhbpcmiolkllaaDoor
open Go.RowKit
attribute [local go_sem] refold2 cell3_0 cell3_1 b28_0 b28_01

set_option maxRecDepth 100000 in
set_option maxHeartbeats 2000000 in
theorem incomparable_any (n : Nat) (x : MD) (w : World) (hx : MD.In w.heap.size w n x) (hf : MD.full n x = true) :
    Calls Tryd.prog 37 #[x.val] w fun r w' => r = .returned (.string (MD.eqv n x x).2) ∧ Below w.heap.size w w' := by
  have HE : Hid (∀ W, Below w.heap.size w W → Calls Tryd.prog 48 #[x.val, x.val] W fun r w' => r = .returned (.tuple #[.bool (MD.eqv n x x).1, .string (MD.eqv n x x).2]) ∧ Below W.heap.size W w') := fun W hW => eqv_any n x x W (hx.later (Nat.le_refl _) hW) (hx.later (Nat.le_refl _) hW) hf hf
  clear hx hf
  generalize (MD.eqv n x x).1 = q at HE
  generalize (MD.eqv n x x).2 = c at HE ⊢
  obtain ⟨⟨k, t, a, f, s, r0, r1, r2, r3, pp, path, pc⟩, ip, ic, items⟩ := x
  simp only [MD.val, D] at *
  go_enter Tryd.func37, Tryd.ntmps37
  go_wp2_with (go_at_call 48; refine (HE.out _ (below1 _ _)).mono ?_; rintro r w' ⟨rfl, hb⟩)
  go_ret
  exact ⟨rfl, (below1 _ _).trans (hb.mono (by simp))⟩
set_option maxRecDepth 100000 in
set_option maxHeartbeats 2000000 in
theorem Key_good (n : Nat) (x : MD) (w : World) (hN : NamesAt w) (hx : MD.In w.heap.size w n x) (h : MD.right n x = true) (hc : (MD.eqv n x x).2 = ⟨#[]⟩) : Calls Tryd.prog 25 #[x.val] w fun r w' => r = .returned .nilIface ∧ Below w.heap.size w w' := by
  have HR : Hid (∀ W, Below w.heap.size w W → Calls Tryd.prog 10 #[x.val] W fun r w' => r = .returned (.bool (MD.right n x)) ∧ Below W.heap.size W w') := fun W hW => Right_any n x W (hN.kept hW) (hx.later (Nat.le_refl _) hW)
  rw [h] at HR
  have HI : Hid (∀ W, Below w.heap.size w W → Calls Tryd.prog 37 #[x.val] W fun r w' => r = .returned (.string (MD.eqv n x x).2) ∧ Below W.heap.size W w') := fun W hW => incomparable_any n x W (hx.later (Nat.le_refl _) hW) (right_full h)
  rw [hc] at HI
  clear hx h hc
  obtain ⟨⟨k, t, a, f, s, r0, r1, r2, r3, pp, path, pc⟩, ip, ic, items⟩ := x
  simp only [MD.val, D] at *
  go_enter Tryd.func25, Tryd.ntmps25
  go_wp2_with fail
  refine (HR.out _ (below1 _ _)).mono ?_
  rintro r w1 ⟨rfl, b1⟩
  have e1 := one_kept _ _ _ b1
  have q1 : Below w.heap.size w w1 := (below1 _ _).trans (b1.mono (by simp))
  go_wp2_with fail
  refine (HI.out _ q1).mono ?_
  rintro r w2 ⟨rfl, b2⟩
  have q2 := q1.trans (b2.mono q1.size)
  clear e1
  go_wp2
  go_ret
  exact ⟨rfl, q2⟩
end Go.Proofs.YtnhbpcmiolkllaaDoor
namespace Go.Proofs.YtnhbpcmiolkllaaDoor
open Go.RowKit
attribute [local go_sem] refold2 cell3_0 cell3_1 b28_0 b28_01

/-- What Of answers: a value of the type T over an own datum. -/
def OfP (n : Nat) (x : MD) (T : TypeId) (w : World) (r : Ending) (w' : World) : Prop := ∃ (b : Nat) (d' : MD), r = .returned (.tuple #[.iface T (.agg #[.pointer (some ⟨b, 0, none⟩)]), .nilIface]) ∧ w.heap.size ≤ b ∧ w'.heap[b]? = some (.cells d'.cells 28 (0, 0)) ∧ MD.In w'.heap.size w' n d' ∧ MD.Above w.heap.size n d' ∧ MD.same n x d' = true ∧ Below w.heap.size w w'
theorem same_kind {n : Nat} {x d : MD} (h : MD.same n x d = true) (hn : n ≠ 0) : d.h.k = x.h.k := by
  cases n with
  | zero => exact absurd rfl hn
  | succ n =>
    have h1 : (sameH x.h d.h x.items.length d.items.length && _ && _) = true := h
    rw [Bool.and_eq_true, Bool.and_eq_true] at h1
    have h2 := of_decide_eq_true h1.1.1
    exact h2.1.symm


theorem sameH_all {h h' : Hd} {i i' : Nat} (e : sameH h h' i i' = true) : h'.k = h.k ∧ h'.t = h.t ∧ h'.n = h.n ∧ h'.f = h.f ∧ h'.s = h.s ∧ h'.r0 = h.r0 ∧ h'.r1 = h.r1 ∧ h'.r2 = h.r2 ∧ h'.r3 = h.r3 ∧ i' = i := by
  have := of_decide_eq_true e
  simp only [this, and_self]
theorem all2_full (n : Nat) (hI : ∀ x d : MD, MD.same n x d = true → MD.full n x = MD.full n d) : ∀ (xs ds : List MD), all2 (MD.same n) xs ds = true → xs.length = ds.length → xs.all (MD.full n) = ds.all (MD.full n)
  | [], [], _, _ => rfl
  | [], _ :: _, _, h => by simp at h
  | _ :: _, [], _, h => by simp at h
  | x :: xs, d :: ds, h, hl => by
    have h1 : (MD.same n x d && all2 (MD.same n) xs ds) = true := h
    rw [Bool.and_eq_true] at h1
    rw [List.all_cons, List.all_cons, hI x d h1.1, all2_full n hI xs ds h1.2 (by simpa using hl)]
theorem same_parts {n : Nat} {x d : MD} (h : MD.same (n + 1) x d = true) : d.h.k = x.h.k ∧ d.h.t = x.h.t ∧ d.h.n = x.h.n ∧ d.h.f = x.h.f ∧ d.h.s = x.h.s ∧ d.h.r0 = x.h.r0 ∧ d.h.r1 = x.h.r1 ∧ d.h.r2 = x.h.r2 ∧ d.h.r3 = x.h.r3 ∧ d.items.length = x.items.length ∧ d.h.path = x.h.path ∧ all2 (MD.same n) x.items d.items = true := by
  have h1 : (sameH x.h d.h x.items.length d.items.length && decide (x.h.path = d.h.path) && all2 (MD.same n) x.items d.items) = true := h
  rw [Bool.and_eq_true, Bool.and_eq_true] at h1
  have ep := of_decide_eq_true h1.1.2
  obtain ⟨e0, e1, e2, e3, e4, e5, e6, e7, e8, e9⟩ := sameH_all h1.1.1
  exact ⟨e0, e1, e2, e3, e4, e5, e6, e7, e8, e9, ep.symm, h1.2⟩
/-- What is the same is right alike. -/
theorem same_full : ∀ (n : Nat) (x d : MD), MD.same n x d = true → MD.full n x = MD.full n d
  | 0, _, _, _ => rfl
  | n + 1, x, d, h => by
    obtain ⟨e0, e1, e2, e3, e4, e5, e6, e7, e8, e9, ep, ea⟩ := same_parts h
    show (headOK x.h x.items.length && (x.h.k != 8 || (decide (x.items.length ≤ 30) && x.items.all (MD.full n)))) = (headOK d.h d.items.length && (d.h.k != 8 || (decide (d.items.length ≤ 30) && d.items.all (MD.full n))))
    rw [all2_full n (same_full n) _ _ ea e9.symm, e0, e9]
    have : headOK x.h x.items.length = headOK d.h x.items.length := by
      unfold headOK kindB
      rw [e0, e1, e2, e3, e4, e5, e6, e7, e8, ep]
    rw [this]
theorem all2_eqv (n : Nat) (hI : ∀ x d y e : MD, MD.same n x d = true → MD.same n y e = true → MD.eqv n x y = MD.eqv n d e) : ∀ (xs ds ys es : List MD), all2 (MD.same n) xs ds = true → xs.length = ds.length → all2 (MD.same n) ys es = true → ys.length = es.length → allEq (MD.eqv n) xs ys = allEq (MD.eqv n) ds es
  | [], [], _, _, _, _, _, _ => by simp [allEq]
  | [], _ :: _, _, _, _, h, _, _ => by simp at h
  | _ :: _, [], _, _, _, h, _, _ => by simp at h
  | _ :: _, _ :: _, [], [], _, _, _, _ => by simp [allEq]
  | _ :: _, _ :: _, [], _ :: _, _, _, _, h => by simp at h
  | _ :: _, _ :: _, _ :: _, [], _, _, _, h => by simp at h
  | x :: xs, d :: ds, y :: ys, e :: es, h, hl, h', hl' => by
    have h1 : (MD.same n x d && all2 (MD.same n) xs ds) = true := h
    have h2 : (MD.same n y e && all2 (MD.same n) ys es) = true := h'
    rw [Bool.and_eq_true] at h1 h2
    unfold allEq
    rw [hI x d y e h1.1 h2.1, all2_eqv n hI xs ds ys es h1.2 (by simpa using hl) h2.2 (by simpa using hl')]
theorem same_eqv : ∀ (n : Nat) (x d y e : MD), MD.same n x d = true → MD.same n y e = true → MD.eqv n x y = MD.eqv n d e
  | 0, _, _, _, _, _, _ => rfl
  | n + 1, x, d, y, e, h, h' => by
    obtain ⟨e0, e1, e2, e3, e4, e5, e6, e7, e8, e9, ep, ea⟩ := same_parts h
    obtain ⟨f0, f1, f2, f3, f4, f5, f6, f7, f8, f9, fp, fa⟩ := same_parts h'
    unfold MD.eqv
    rw [all2_eqv n (same_eqv n) _ _ _ _ ea e9.symm fa f9.symm, e0, e1, e2, e3, e4, e5, e9, ep, f0, f1, f2, f3, f4, f5, f9, fp]

theorem taN0 (w : World) : (Instr.typeAssert .nilIface 34 73 true).run Tryd.prog w = .ok (.tuple #[.agg #[.pointer none], .bool false]) w := by kernel_rfl
theorem taR8 (v : Value) (w : World) : (Instr.typeAssert (.iface 73 v) 34 73 true).run Tryd.prog w = .ok (.tuple #[v, .bool true]) w := by simp [Instr.typeAssert, go_sem]
attribute [local go_sem] taN0 taR8
set_option maxRecDepth 100000 in
set_option maxHeartbeats 4000000 in
theorem Of_wrong (n : Nat) (x : MD) (w : World) (hN : NamesAt w) (hx : MD.In w.heap.size w n x) (h : MD.right n x = false) : Calls Tryd.prog 14 #[x.val] w fun r w' => (∃ m, r = .returned (.tuple #[.nilIface, .iface 79 (.pointer (some ⟨m, 0, none⟩))]) ∧ w'.heap[m]? = some (.cells #[.int .i64 1, .int .i64 0, .string ⟨#[]⟩] 83 (0, 0))) ∧ Below w.heap.size w w' := by
  have HR : Hid (∀ W, Below w.heap.size w W → Calls Tryd.prog 10 #[x.val] W fun r w' => r = .returned (.bool (MD.right n x)) ∧ Below W.heap.size W w') := fun W hW => Right_any n x W (hN.kept hW) (hx.later (Nat.le_refl _) hW)
  rw [h] at HR
  clear hx h
  obtain ⟨⟨k, t, a, f, s, r0, r1, r2, r3, pp, path, pc⟩, ip, ic, items⟩ := x
  simp only [MD.val, D] at HR ⊢
  go_enter Tryd.func14, Tryd.ntmps14
  go_wp2_with fail
  refine (HR.out _ (below1 _ _)).mono ?_
  rintro r w1 ⟨rfl, b1⟩
  have e1 := one_kept _ _ _ b1
  have q1 : Below w.heap.size w w1 := (below1 _ _).trans (b1.mono (by simp))
  clear e1
  go_wp2_with (go_at_call 34; refine (wrong_any _).mono ?_; rintro r w4 ⟨rfl, rfl⟩)
  refine bodyPost_ret (v := .tuple #[.nilIface, .iface 79 (.pointer (some ⟨w1.heap.size, 0, none⟩))]) (by simp [results, Tryd.results14, go_sem]) rfl ⟨⟨_, rfl, heap_alloc_new _ _⟩, q1.alloc q1.size _⟩
set_option maxRecDepth 100000 in
set_option maxHeartbeats 4000000 in
theorem Of_kind (n : Nat) (x : MD) (w : World) (hN : NamesAt w) (hx : MD.In w.heap.size w n x) (h : MD.right n x = true) (T : TypeId)
    (hbeh : ∀ (b : Nat) (W : World), W.cell? ⟨b, 0, none⟩ = some (.int .i64 x.h.k) → b < W.heap.size → Calls Tryd.prog 36 #[.pointer (some ⟨b, 0, none⟩)] W fun r w' => r = .returned (.iface T (.agg #[.pointer (some ⟨b, 0, none⟩)])) ∧ Below W.heap.size W w')
    (hta : ∀ (v : Value) (W : World), (Instr.typeAssert (.iface T v) 34 73 true).run Tryd.prog W = .ok (.tuple #[.agg #[.pointer none], .bool false]) W) :
    Calls Tryd.prog 14 #[x.val] w (OfP n x T w) := by
  have HR : Hid (∀ W, Below w.heap.size w W → Calls Tryd.prog 10 #[x.val] W fun r w' => r = .returned (.bool (MD.right n x)) ∧ Below W.heap.size W w') := fun W hW => Right_any n x W (hN.kept hW) (hx.later (Nat.le_refl _) hW)
  rw [h] at HR
  have HC : Hid (∀ W, Below w.heap.size w W → Calls Tryd.prog 35 #[x.val] W (CopyP n x W)) := fun W hW => copiedV_any n x W (hx.later (Nat.le_refl _) hW) (right_full h)
  have HBe : Hid _ := hbeh
  have hn0 : n ≠ 0 := fun e => by subst e; exact hx.elim
  clear hx h hbeh
  obtain ⟨⟨k, t, a, f, s, r0, r1, r2, r3, pp, path, pc⟩, ip, ic, items⟩ := x
  simp only [MD.val, D] at HR HC HBe ⊢
  go_enter Tryd.func14, Tryd.ntmps14
  go_wp2_with fail
  refine (HR.out _ (below1 _ _)).mono ?_
  rintro r w1 ⟨rfl, b1⟩
  have e1 := one_kept _ _ _ b1
  have q1 : Below w.heap.size w w1 := (below1 _ _).trans (b1.mono (by simp))
  go_wp2_with fail
  refine (HC.out _ q1).mono ?_
  rintro r w2 ⟨d', rfl, hd1, hd2, hd3, hd4⟩
  have q2 : Below w.heap.size w w2 := q1.trans (hd4.mono q1.size)
  have hd2' := MD.Above.mono q1.size n _ hd2
  obtain ⟨⟨l0, l1, l2, l3, l4, l5, l6, l7, l8, lp, lpath, lpc⟩, lip, lic, lit⟩ := d'
  simp only [MD.val, D]
  have z2 := hd4.size
  have zq := q2.size
  have HD : Hid (MD.In w2.heap.size w2 n ⟨⟨l0, l1, l2, l3, l4, l5, l6, l7, l8, lp, lpath, lpc⟩, lip, lic, lit⟩ ∧ MD.Above w.heap.size n ⟨⟨l0, l1, l2, l3, l4, l5, l6, l7, l8, lp, lpath, lpc⟩, lip, lic, lit⟩ ∧ MD.same n ⟨⟨k, t, a, f, s, r0, r1, r2, r3, pp, path, pc⟩, ip, ic, items⟩ ⟨⟨l0, l1, l2, l3, l4, l5, l6, l7, l8, lp, lpath, lpc⟩, lip, lic, lit⟩ = true) := ⟨hd1, hd2', hd3⟩
  have hk : l0 = k := same_kind hd3 hn0
  subst hk
  clear e1 hd1 hd2 hd3 hd4 hd2'
  go_wp2_with fail
  refine (HBe.out w2.heap.size _ (by rw [World.cell?_alloc_new]; rfl) (by simp)).mono ?_
  rintro r w3 ⟨rfl, b3⟩
  have q3 : Below w.heap.size w w3 := (q2.alloc q2.size _).trans (b3.mono (by simp; omega))
  have hr3 : Hid (w3.heap[w2.heap.size]? = some (.cells #[.int .i64 l0, .string l1, .int .i64 l2, .int .u64 l3, .string l4, .int .i64 l5, .int .i64 l6, .int .i64 l7, .int .i64 l8, .slice lp lpath.length lpc, .slice lip lit.length lic] 28 (0, 0))) := (b3.block w2.heap.size (by simp)).trans (heap_alloc_new _ _)
  have HB3 : Hid (Below w2.heap.size w2 w3) := (below1 _ _).trans (b3.mono (by simp))
  clear b3
  go_wp2_with fail
  refine bodyPost_ret (v := .tuple #[.iface T (.agg #[.pointer (some ⟨w2.heap.size, 0, none⟩)]), .nilIface]) (by simp [results, Tryd.results14, go_sem]) rfl ?_
  refine ⟨w2.heap.size, ⟨⟨l0, l1, l2, l3, l4, l5, l6, l7, l8, lp, lpath, lpc⟩, lip, lic, lit⟩, rfl, q2.size, (Below.heap_alloc _ _ _ (row_ltT hr3.out)).trans hr3.out, ?_, HD.out.2.1, HD.out.2.2, q3.alloc q3.size _⟩
  exact HD.out.1.later (Nat.le_refl _) (HB3.out.alloc HB3.out.size _)
set_option maxRecDepth 100000 in
set_option maxHeartbeats 4000000 in
theorem Of_zero (n : Nat) (x : MD) (w : World) (hN : NamesAt w) (hx : MD.In w.heap.size w n x) (h : MD.right n x = true) (hk0 : x.h.k = 0) : Calls Tryd.prog 14 #[x.val] w fun r w' => r = .returned (.tuple #[.nilIface, .nilIface]) ∧ Below w.heap.size w w' := by
  have HR : Hid (∀ W, Below w.heap.size w W → Calls Tryd.prog 10 #[x.val] W fun r w' => r = .returned (.bool (MD.right n x)) ∧ Below W.heap.size W w') := fun W hW => Right_any n x W (hN.kept hW) (hx.later (Nat.le_refl _) hW)
  rw [h] at HR
  have HC : Hid (∀ W, Below w.heap.size w W → Calls Tryd.prog 35 #[x.val] W (CopyP n x W)) := fun W hW => copiedV_any n x W (hx.later (Nat.le_refl _) hW) (right_full h)
  have hn0 : n ≠ 0 := fun e => by subst e; exact hx.elim
  clear hx h
  obtain ⟨⟨k, t, a, f, s, r0, r1, r2, r3, pp, path, pc⟩, ip, ic, items⟩ := x
  simp only at hk0
  subst hk0
  simp only [MD.val, D] at HR HC ⊢
  go_enter Tryd.func14, Tryd.ntmps14
  go_wp2_with fail
  refine (HR.out _ (below1 _ _)).mono ?_
  rintro r w1 ⟨rfl, b1⟩
  have e1 := one_kept _ _ _ b1
  have q1 : Below w.heap.size w w1 := (below1 _ _).trans (b1.mono (by simp))
  go_wp2_with fail
  refine (HC.out _ q1).mono ?_
  rintro r w2 ⟨d', rfl, hd1, hd2, hd3, hd4⟩
  have q2 : Below w.heap.size w w2 := q1.trans (hd4.mono q1.size)
  have hd2' := MD.Above.mono q1.size n _ hd2
  obtain ⟨⟨l0, l1, l2, l3, l4, l5, l6, l7, l8, lp, lpath, lpc⟩, lip, lic, lit⟩ := d'
  simp only [MD.val, D]
  have z2 := hd4.size
  have zq := q2.size
  have HD : Hid (MD.In w2.heap.size w2 n ⟨⟨l0, l1, l2, l3, l4, l5, l6, l7, l8, lp, lpath, lpc⟩, lip, lic, lit⟩ ∧ MD.Above w.heap.size n ⟨⟨l0, l1, l2, l3, l4, l5, l6, l7, l8, lp, lpath, lpc⟩, lip, lic, lit⟩ ∧ MD.same n ⟨⟨0, t, a, f, s, r0, r1, r2, r3, pp, path, pc⟩, ip, ic, items⟩ ⟨⟨l0, l1, l2, l3, l4, l5, l6, l7, l8, lp, lpath, lpc⟩, lip, lic, lit⟩ = true) := ⟨hd1, hd2', hd3⟩
  have hk : l0 = 0 := same_kind hd3 hn0
  subst hk
  clear e1 hd1 hd2 hd3 hd4 hd2' HD
  go_wp2_with fail
  refine (behind_0 w2.heap.size _ (by rw [World.cell?_alloc_new]; rfl) (by simp)).mono ?_
  rintro r w3 ⟨rfl, b3⟩
  have q3 : Below w.heap.size w w3 := (q2.alloc q2.size _).trans (b3.mono (by simp; omega))
  clear b3
  go_wp2_with fail
  refine bodyPost_ret (v := .tuple #[.nilIface, .nilIface]) (by simp [results, Tryd.results14, go_sem]) rfl ⟨rfl, q3.alloc q3.size _⟩
set_option maxRecDepth 100000 in
set_option maxHeartbeats 4000000 in
theorem Of_struct (n : Nat) (x : MD) (w : World) (hN : NamesAt w) (hx : MD.In w.heap.size w n x) (h : MD.right n x = true) (hk8 : x.h.k = 8) : Calls Tryd.prog 14 #[x.val] w fun r w' => ∃ T, OfP n x T w r w' ∧ ((T = 78 ∧ (MD.eqv n x x).2 = ⟨#[]⟩) ∨ (T = 73 ∧ (MD.eqv n x x).2.size ≠ 0)) := by
  have HR : Hid (∀ W, Below w.heap.size w W → Calls Tryd.prog 10 #[x.val] W fun r w' => r = .returned (.bool (MD.right n x)) ∧ Below W.heap.size W w') := fun W hW => Right_any n x W (hN.kept hW) (hx.later (Nat.le_refl _) hW)
  rw [h] at HR
  have HC : Hid (∀ W, Below w.heap.size w W → Calls Tryd.prog 35 #[x.val] W (CopyP n x W)) := fun W hW => copiedV_any n x W (hx.later (Nat.le_refl _) hW) (right_full h)
  have HF : Hid (MD.full n x = true) := right_full h
  have hn0 : n ≠ 0 := fun e => by subst e; exact hx.elim
  clear hx h
  obtain ⟨⟨k, t, a, f, s, r0, r1, r2, r3, pp, path, pc⟩, ip, ic, items⟩ := x
  simp only at hk8
  subst hk8
  simp only [MD.val, D] at HR HC ⊢
  go_enter Tryd.func14, Tryd.ntmps14
  go_wp2_with fail
  refine (HR.out _ (below1 _ _)).mono ?_
  rintro r w1 ⟨rfl, b1⟩
  have e1 := one_kept _ _ _ b1
  have q1 : Below w.heap.size w w1 := (below1 _ _).trans (b1.mono (by simp))
  go_wp2_with fail
  refine (HC.out _ q1).mono ?_
  rintro r w2 ⟨d', rfl, hd1, hd2, hd3, hd4⟩
  have q2 : Below w.heap.size w w2 := q1.trans (hd4.mono q1.size)
  have hd2' := MD.Above.mono q1.size n _ hd2
  obtain ⟨⟨l0, l1, l2, l3, l4, l5, l6, l7, l8, lp, lpath, lpc⟩, lip, lic, lit⟩ := d'
  simp only [MD.val, D]
  have z2 := hd4.size
  have zq := q2.size
  have HD : Hid (MD.In w2.heap.size w2 n ⟨⟨l0, l1, l2, l3, l4, l5, l6, l7, l8, lp, lpath, lpc⟩, lip, lic, lit⟩ ∧ MD.Above w.heap.size n ⟨⟨l0, l1, l2, l3, l4, l5, l6, l7, l8, lp, lpath, lpc⟩, lip, lic, lit⟩ ∧ MD.same n ⟨⟨8, t, a, f, s, r0, r1, r2, r3, pp, path, pc⟩, ip, ic, items⟩ ⟨⟨l0, l1, l2, l3, l4, l5, l6, l7, l8, lp, lpath, lpc⟩, lip, lic, lit⟩ = true) := ⟨hd1, hd2', hd3⟩
  have hk : l0 = 8 := same_kind hd3 hn0
  subst hk
  have HI : Hid (∀ W, Below w2.heap.size w2 W → Calls Tryd.prog 37 #[.agg #[.int .i64 8, .string l1, .int .i64 l2, .int .u64 l3, .string l4, .int .i64 l5, .int .i64 l6, .int .i64 l7, .int .i64 l8, .slice lp lpath.length lpc, .slice lip lit.length lic]] W fun r w' => r = .returned (.string (MD.eqv n ⟨⟨8, l1, l2, l3, l4, l5, l6, l7, l8, lp, lpath, lpc⟩, lip, lic, lit⟩ ⟨⟨8, l1, l2, l3, l4, l5, l6, l7, l8, lp, lpath, lpc⟩, lip, lic, lit⟩).2) ∧ Below W.heap.size W w') := fun W hW => incomparable_any n ⟨⟨8, l1, l2, l3, l4, l5, l6, l7, l8, lp, lpath, lpc⟩, lip, lic, lit⟩ W (hd1.later (Nat.le_refl _) hW) ((same_full n _ _ hd3).symm.trans HF.out)
  have HEQ : Hid ((MD.eqv n ⟨⟨8, t, a, f, s, r0, r1, r2, r3, pp, path, pc⟩, ip, ic, items⟩ ⟨⟨8, t, a, f, s, r0, r1, r2, r3, pp, path, pc⟩, ip, ic, items⟩).2 = (MD.eqv n ⟨⟨8, l1, l2, l3, l4, l5, l6, l7, l8, lp, lpath, lpc⟩, lip, lic, lit⟩ ⟨⟨8, l1, l2, l3, l4, l5, l6, l7, l8, lp, lpath, lpc⟩, lip, lic, lit⟩).2) := congrArg Prod.snd (same_eqv n _ _ _ _ hd3 hd3)
  generalize (MD.eqv n ⟨⟨8, l1, l2, l3, l4, l5, l6, l7, l8, lp, lpath, lpc⟩, lip, lic, lit⟩ ⟨⟨8, l1, l2, l3, l4, l5, l6, l7, l8, lp, lpath, lpc⟩, lip, lic, lit⟩).2 = c at HI HEQ
  clear e1 hd1 hd2 hd3 hd4 hd2'
  go_wp2_with fail
  refine (behind_8 w2.heap.size _ (by rw [World.cell?_alloc_new]; rfl) (by simp)).mono ?_
  rintro r w3 ⟨rfl, b3⟩
  have q3 : Below w.heap.size w w3 := (q2.alloc q2.size _).trans (b3.mono (by simp; omega))
  have hr3 : Hid (w3.heap[w2.heap.size]? = some (.cells #[.int .i64 8, .string l1, .int .i64 l2, .int .u64 l3, .string l4, .int .i64 l5, .int .i64 l6, .int .i64 l7, .int .i64 l8, .slice lp lpath.length lpc, .slice lip lit.length lic] 28 (0, 0))) := (b3.block w2.heap.size (by simp)).trans (heap_alloc_new _ _)
  have HB3 : Hid (Below w2.heap.size w2 w3) := (below1 _ _).trans (b3.mono (by simp))
  have hz3 := row_ltT hr3.out
  have hc3 : ∀ j, w3.cell? ⟨w2.heap.size, j, none⟩ = (#[.int .i64 8, .string l1, .int .i64 l2, .int .u64 l3, .string l4, .int .i64 l5, .int .i64 l6, .int .i64 l7, .int .i64 l8, .slice lp lpath.length lpc, .slice lip lit.length lic] : Array Value)[j]? := row_at hr3.out
  clear b3
  by_cases hc : c.size = 0
  · obtain rfl : c = ⟨#[]⟩ := by apply ByteArray.ext; apply Array.eq_empty_of_size_eq_zero; exact hc
    clear hc
    go_wp2_with (go_at_call 37; refine (HI.out _ (HB3.out.alloc HB3.out.size _)).mono ?_; rintro r w4 ⟨rfl, b4⟩; have HB4 : Hid _ := b4; have hc4 := row_at ((b4.block w3.heap.size (by simp)).trans (heap_alloc_new _ _)); clear b4)
    refine bodyPost_ret (v := .tuple #[.iface 78 (.agg #[.pointer (some ⟨w2.heap.size, 0, none⟩)]), .nilIface]) (by simp [results, Tryd.results14, go_sem]) rfl ?_
    have hB4 : Below w2.heap.size w2 w4 := (HB3.out.alloc HB3.out.size _).trans (HB4.out.mono (by simp; omega))
    refine ⟨78, ⟨w2.heap.size, ⟨⟨8, l1, l2, l3, l4, l5, l6, l7, l8, lp, lpath, lpc⟩, lip, lic, lit⟩, rfl, q2.size, ?_, HD.out.1.later (Nat.le_refl _) hB4, HD.out.2.1, HD.out.2.2, q2.trans (hB4.mono q2.size)⟩, .inl ⟨rfl, HEQ.out⟩⟩
    exact (HB4.out.block _ (by simp; omega)).trans ((Below.heap_alloc _ _ _ hz3).trans hr3.out)
  · have hne := ne_empty hc
    go_wp2_with (go_at_call 37; refine (HI.out _ (HB3.out.alloc HB3.out.size _)).mono ?_; rintro r w4 ⟨rfl, b4⟩; have HB4 : Hid _ := b4; clear b4)
    refine bodyPost_ret (v := .tuple #[.iface 73 (.agg #[.pointer (some ⟨w2.heap.size, 0, none⟩)]), .nilIface]) (by simp [results, Tryd.results14, go_sem]) rfl ?_
    have hB4 : Below w2.heap.size w2 w4 := (HB3.out.alloc HB3.out.size _).trans (HB4.out.mono (by simp; omega))
    refine ⟨73, ⟨w2.heap.size, ⟨⟨8, l1, l2, l3, l4, l5, l6, l7, l8, lp, lpath, lpc⟩, lip, lic, lit⟩, rfl, q2.size, ?_, HD.out.1.later (Nat.le_refl _) hB4, HD.out.2.1, HD.out.2.2, q2.trans (hB4.mono q2.size)⟩, .inr ⟨rfl, by rw [HEQ.out]; exact hc⟩⟩
    exact (HB4.out.block _ (by simp; omega)).trans ((Below.heap_alloc _ _ _ hz3).trans hr3.out)

end Go.Proofs.YtnhbpcmiolkllaaDoor
