/-
  Of, at any datum.
  What may stand beside a value, at any two data.
  Ranks of ints, floats and texts, at any two data.
  The order of two floats is that of their ranks (plain facts).
  The answer's ranks, at any two data.
  The law ValueRanks, at any two data.
-/
import Derived.Test.YtnhbpcmiolkllaaDoorHa2J
import Derived.Test.YtnhbpcmiolkllaaDoorJ
import Derived.Laws.Cover1
import Derived.Test.YtnhbpcmiolkllaaDoorGf2
namespace Go.Proofs.YtnhbpcmiolkllaaDoor
open Go.RowKit
attribute [local go_sem] refold2 cell3_0 cell3_1 b28_0 b28_01

/-- What Of answers: a value of the type T over an own datum. -/
def OfP (n : Nat) (x : MD) (T : TypeId) (w : World) (r : Ending) (w' : World) : Prop := ∃ (b : Nat) (d' : MD), r = .returned (.tuple #[.iface T (.agg #[.pointer (some ⟨b, 0, none⟩)]), .nilIface]) ∧ w.heap.size ≤ b ∧ w'.heap[b]? = some (.cells d'.cells 28 (0, 0)) ∧ MD.In w'.heap.size w' n d' ∧ MD.Above w.heap.size n d' ∧ MD.same n x d' = true ∧ Below w.heap.size w w'
theorem same_kind {n : Nat} {x d : MD} (h : MD.same n x d = true) (hn : n ≠ 0) : d.h.k = x.h.k := by
  cases n with
  | zero => exact absurd rfl hn
  | succ n =>
    have h1 : (sameH x.h d.h x.items.length d.items.length && _ && _) = true := h
    rw [Bool.and_eq_true, Bool.and_eq_true] at h1
    have h2 := of_decide_eq_true h1.1.1
    exact h2.1.symm


theorem sameH_all {h h' : Hd} {i i' : Nat} (e : sameH h h' i i' = true) : h'.k = h.k ∧ h'.t = h.t ∧ h'.n = h.n ∧ h'.f = h.f ∧ h'.s = h.s ∧ h'.r0 = h.r0 ∧ h'.r1 = h.r1 ∧ h'.r2 = h.r2 ∧ h'.r3 = h.r3 ∧ i' = i := by
  have := of_decide_eq_true e
  simp only [this, and_self]
theorem all2_full (n : Nat) (hI : ∀ x d : MD, MD.same n x d = true → MD.full n x = MD.full n d) : ∀ (xs ds : List MD), all2 (MD.same n) xs ds = true → xs.length = ds.length → xs.all (MD.full n) = ds.all (MD.full n)
  | [], [], _, _ => rfl
  | [], _ :: _, _, h => by simp at h
  | _ :: _, [], _, h => by simp at h
  | x :: xs, d :: ds, h, hl => by
    have h1 : (MD.same n x d && all2 (MD.same n) xs ds) = true := h
    rw [Bool.and_eq_true] at h1
    rw [List.all_cons, List.all_cons, hI x d h1.1, all2_full n hI xs ds h1.2 (by simpa using hl)]
theorem same_parts {n : Nat} {x d : MD} (h : MD.same (n + 1) x d = true) : d.h.k = x.h.k ∧ d.h.t = x.h.t ∧ d.h.n = x.h.n ∧ d.h.f = x.h.f ∧ d.h.s = x.h.s ∧ d.h.r0 = x.h.r0 ∧ d.h.r1 = x.h.r1 ∧ d.h.r2 = x.h.r2 ∧ d.h.r3 = x.h.r3 ∧ d.items.length = x.items.length ∧ d.h.path = x.h.path ∧ all2 (MD.same n) x.items d.items = true := by
  have h1 : (sameH x.h d.h x.items.length d.items.length && decide (x.h.path = d.h.path) && all2 (MD.same n) x.items d.items) = true := h
  rw [Bool.and_eq_true, Bool.and_eq_true] at h1
  have ep := of_decide_eq_true h1.1.2
  obtain ⟨e0, e1, e2, e3, e4, e5, e6, e7, e8, e9⟩ := sameH_all h1.1.1
  exact ⟨e0, e1, e2, e3, e4, e5, e6, e7, e8, e9, ep.symm, h1.2⟩
/-- What is the same is right alike. -/
theorem same_full : ∀ (n : Nat) (x d : MD), MD.same n x d = true → MD.full n x = MD.full n d
  | 0, _, _, _ => rfl
  | n + 1, x, d, h => by
    obtain ⟨e0, e1, e2, e3, e4, e5, e6, e7, e8, e9, ep, ea⟩ := same_parts h
    show (headOK x.h x.items.length && (x.h.k != 8 || (decide (x.items.length ≤ 30) && x.items.all (MD.full n)))) = (headOK d.h d.items.length && (d.h.k != 8 || (decide (d.items.length ≤ 30) && d.items.all (MD.full n))))
    rw [all2_full n (same_full n) _ _ ea e9.symm, e0, e9]
    have : headOK x.h x.items.length = headOK d.h x.items.length := by
      unfold headOK kindB
      rw [e0, e1, e2, e3, e4, e5, e6, e7, e8, ep]
    rw [this]
theorem all2_eqv (n : Nat) (hI : ∀ x d y e : MD, MD.same n x d = true → MD.same n y e = true → MD.eqv n x y = MD.eqv n d e) : ∀ (xs ds ys es : List MD), all2 (MD.same n) xs ds = true → xs.length = ds.length → all2 (MD.same n) ys es = true → ys.length = es.length → allEq (MD.eqv n) xs ys = allEq (MD.eqv n) ds es
  | [], [], _, _, _, _, _, _ => by simp [allEq]
  | [], _ :: _, _, _, _, h, _, _ => by simp at h
  | _ :: _, [], _, _, _, h, _, _ => by simp at h
  | _ :: _, _ :: _, [], [], _, _, _, _ => by simp [allEq]
  | _ :: _, _ :: _, [], _ :: _, _, _, _, h => by simp at h
  | _ :: _, _ :: _, _ :: _, [], _, _, _, h => by simp at h
  | x :: xs, d :: ds, y :: ys, e :: es, h, hl, h', hl' => by
    have h1 : (MD.same n x d && all2 (MD.same n) xs ds) = true := h
    have h2 : (MD.same n y e && all2 (MD.same n) ys es) = true := h'
    rw [Bool.and_eq_true] at h1 h2
    unfold allEq
    rw [hI x d y e h1.1 h2.1, all2_eqv n hI xs ds ys es h1.2 (by simpa using hl) h2.2 (by simpa using hl')]
theorem same_eqv : ∀ (n : Nat) (x d y e : MD), MD.same n x d = true → MD.same n y e = true → MD.eqv n x y = MD.eqv n d e
  | 0, _, _, _, _, _, _ => rfl
  | n + 1, x, d, y, e, h, h' => by
    obtain ⟨e0, e1, e2, e3, e4, e5, e6, e7, e8, e9, ep, ea⟩ := same_parts h
    obtain ⟨f0, f1, f2, f3, f4, f5, f6, f7, f8, f9, fp, fa⟩ := same_parts h'
    unfold MD.eqv
    rw [all2_eqv n (same_eqv n) _ _ _ _ ea e9.symm fa f9.symm, e0, e1, e2, e3, e4, e5, e9, ep, f0, f1, f2, f3, f4, f5, f9, fp]

theorem taN0 (w : World) : (Instr.typeAssert .nilIface 34 73 true).run Tryd.prog w = .ok (.tuple #[.agg #[.pointer none], .bool false]) w := by kernel_rfl
theorem taR8 (v : Value) (w : World) : (Instr.typeAssert (.iface 73 v) 34 73 true).run Tryd.prog w = .ok (.tuple #[v, .bool true]) w := by simp [Instr.typeAssert, go_sem]
attribute [local go_sem] taN0 taR8
set_option maxRecDepth 100000 in
set_option maxHeartbeats 4000000 in
theorem Of_wrong (n : Nat) (x : MD) (w : World) (hN : NamesAt w) (hx : MD.In w.heap.size w n x) (h : MD.right n x = false) : Calls Tryd.prog 14 #[x.val] w fun r w' => (∃ m, r = .returned (.tuple #[.nilIface, .iface 79 (.pointer (some ⟨m, 0, none⟩))]) ∧ w'.heap[m]? = some (.cells #[.int .i64 1, .int .i64 0, .string ⟨#[]⟩] 83 (0, 0))) ∧ Below w.heap.size w w' := by
  have HR : Hid (∀ W, Below w.heap.size w W → Calls Tryd.prog 10 #[x.val] W fun r w' => r = .returned (.bool (MD.right n x)) ∧ Below W.heap.size W w') := fun W hW => Right_any n x W (hN.kept hW) (hx.later (Nat.le_refl _) hW)
  rw [h] at HR
  clear hx h
  obtain ⟨⟨k, t, a, f, s, r0, r1, r2, r3, pp, path, pc⟩, ip, ic, items⟩ := x
  simp only [MD.val, D] at HR ⊢
  go_enter Tryd.func14, Tryd.ntmps14
  go_wp2_with fail
  refine (HR.out _ (below1 _ _)).mono ?_
  rintro r w1 ⟨rfl, b1⟩
  have e1 := one_kept _ _ _ b1
  have q1 : Below w.heap.size w w1 := (below1 _ _).trans (b1.mono (by simp))
  clear e1
  go_wp2_with (go_at_call 34; refine (wrong_any _).mono ?_; rintro r w4 ⟨rfl, rfl⟩)
  refine bodyPost_ret (v := .tuple #[.nilIface, .iface 79 (.pointer (some ⟨w1.heap.size, 0, none⟩))]) (by simp [results, Tryd.results14, go_sem]) rfl ⟨⟨_, rfl, heap_alloc_new _ _⟩, q1.alloc q1.size _⟩
set_option maxRecDepth 100000 in
set_option maxHeartbeats 4000000 in
theorem Of_kind (n : Nat) (x : MD) (w : World) (hN : NamesAt w) (hx : MD.In w.heap.size w n x) (h : MD.right n x = true) (T : TypeId)
    (hbeh : ∀ (b : Nat) (W : World), W.cell? ⟨b, 0, none⟩ = some (.int .i64 x.h.k) → b < W.heap.size → Calls Tryd.prog 36 #[.pointer (some ⟨b, 0, none⟩)] W fun r w' => r = .returned (.iface T (.agg #[.pointer (some ⟨b, 0, none⟩)])) ∧ Below W.heap.size W w')
    (hta : ∀ (v : Value) (W : World), (Instr.typeAssert (.iface T v) 34 73 true).run Tryd.prog W = .ok (.tuple #[.agg #[.pointer none], .bool false]) W) :
    Calls Tryd.prog 14 #[x.val] w (OfP n x T w) := by
  have HR : Hid (∀ W, Below w.heap.size w W → Calls Tryd.prog 10 #[x.val] W fun r w' => r = .returned (.bool (MD.right n x)) ∧ Below W.heap.size W w') := fun W hW => Right_any n x W (hN.kept hW) (hx.later (Nat.le_refl _) hW)
  rw [h] at HR
  have HC : Hid (∀ W, Below w.heap.size w W → Calls Tryd.prog 35 #[x.val] W (CopyP n x W)) := fun W hW => copiedV_any n x W (hx.later (Nat.le_refl _) hW) (right_full h)
  have HBe : Hid _ := hbeh
  have hn0 : n ≠ 0 := fun e => by subst e; exact hx.elim
  clear hx h hbeh
  obtain ⟨⟨k, t, a, f, s, r0, r1, r2, r3, pp, path, pc⟩, ip, ic, items⟩ := x
  simp only [MD.val, D] at HR HC HBe ⊢
  go_enter Tryd.func14, Tryd.ntmps14
  go_wp2_with fail
  refine (HR.out _ (below1 _ _)).mono ?_
  rintro r w1 ⟨rfl, b1⟩
  have e1 := one_kept _ _ _ b1
  have q1 : Below w.heap.size w w1 := (below1 _ _).trans (b1.mono (by simp))
  go_wp2_with fail
  refine (HC.out _ q1).mono ?_
  rintro r w2 ⟨d', rfl, hd1, hd2, hd3, hd4⟩
  have q2 : Below w.heap.size w w2 := q1.trans (hd4.mono q1.size)
  have hd2' := MD.Above.mono q1.size n _ hd2
  obtain ⟨⟨l0, l1, l2, l3, l4, l5, l6, l7, l8, lp, lpath, lpc⟩, lip, lic, lit⟩ := d'
  simp only [MD.val, D]
  have z2 := hd4.size
  have zq := q2.size
  have HD : Hid (MD.In w2.heap.size w2 n ⟨⟨l0, l1, l2, l3, l4, l5, l6, l7, l8, lp, lpath, lpc⟩, lip, lic, lit⟩ ∧ MD.Above w.heap.size n ⟨⟨l0, l1, l2, l3, l4, l5, l6, l7, l8, lp, lpath, lpc⟩, lip, lic, lit⟩ ∧ MD.same n ⟨⟨k, t, a, f, s, r0, r1, r2, r3, pp, path, pc⟩, ip, ic, items⟩ ⟨⟨l0, l1, l2, l3, l4, l5, l6, l7, l8, lp, lpath, lpc⟩, lip, lic, lit⟩ = true) := ⟨hd1, hd2', hd3⟩
  have hk : l0 = k := same_kind hd3 hn0
  subst hk
  clear e1 hd1 hd2 hd3 hd4 hd2'
  go_wp2_with fail
  refine (HBe.out w2.heap.size _ (by rw [World.cell?_alloc_new]; rfl) (by simp)).mono ?_
  rintro r w3 ⟨rfl, b3⟩
  have q3 : Below w.heap.size w w3 := (q2.alloc q2.size _).trans (b3.mono (by simp; omega))
  have hr3 : Hid (w3.heap[w2.heap.size]? = some (.cells #[.int .i64 l0, .string l1, .int .i64 l2, .int .u64 l3, .string l4, .int .i64 l5, .int .i64 l6, .int .i64 l7, .int .i64 l8, .slice lp lpath.length lpc, .slice lip lit.length lic] 28 (0, 0))) := (b3.block w2.heap.size (by simp)).trans (heap_alloc_new _ _)
  have HB3 : Hid (Below w2.heap.size w2 w3) := (below1 _ _).trans (b3.mono (by simp))
  clear b3
  go_wp2_with fail
  refine bodyPost_ret (v := .tuple #[.iface T (.agg #[.pointer (some ⟨w2.heap.size, 0, none⟩)]), .nilIface]) (by simp [results, Tryd.results14, go_sem]) rfl ?_
  refine ⟨w2.heap.size, ⟨⟨l0, l1, l2, l3, l4, l5, l6, l7, l8, lp, lpath, lpc⟩, lip, lic, lit⟩, rfl, q2.size, (Below.heap_alloc _ _ _ (row_ltT hr3.out)).trans hr3.out, ?_, HD.out.2.1, HD.out.2.2, q3.alloc q3.size _⟩
  exact HD.out.1.later (Nat.le_refl _) (HB3.out.alloc HB3.out.size _)
set_option maxRecDepth 100000 in
set_option maxHeartbeats 4000000 in
theorem Of_zero (n : Nat) (x : MD) (w : World) (hN : NamesAt w) (hx : MD.In w.heap.size w n x) (h : MD.right n x = true) (hk0 : x.h.k = 0) : Calls Tryd.prog 14 #[x.val] w fun r w' => r = .returned (.tuple #[.nilIface, .nilIface]) ∧ Below w.heap.size w w' := by
  have HR : Hid (∀ W, Below w.heap.size w W → Calls Tryd.prog 10 #[x.val] W fun r w' => r = .returned (.bool (MD.right n x)) ∧ Below W.heap.size W w') := fun W hW => Right_any n x W (hN.kept hW) (hx.later (Nat.le_refl _) hW)
  rw [h] at HR
  have HC : Hid (∀ W, Below w.heap.size w W → Calls Tryd.prog 35 #[x.val] W (CopyP n x W)) := fun W hW => copiedV_any n x W (hx.later (Nat.le_refl _) hW) (right_full h)
  have hn0 : n ≠ 0 := fun e => by subst e; exact hx.elim
  clear hx h
  obtain ⟨⟨k, t, a, f, s, r0, r1, r2, r3, pp, path, pc⟩, ip, ic, items⟩ := x
  simp only at hk0
  subst hk0
  simp only [MD.val, D] at HR HC ⊢
  go_enter Tryd.func14, Tryd.ntmps14
  go_wp2_with fail
  refine (HR.out _ (below1 _ _)).mono ?_
  rintro r w1 ⟨rfl, b1⟩
  have e1 := one_kept _ _ _ b1
  have q1 : Below w.heap.size w w1 := (below1 _ _).trans (b1.mono (by simp))
  go_wp2_with fail
  refine (HC.out _ q1).mono ?_
  rintro r w2 ⟨d', rfl, hd1, hd2, hd3, hd4⟩
  have q2 : Below w.heap.size w w2 := q1.trans (hd4.mono q1.size)
  have hd2' := MD.Above.mono q1.size n _ hd2
  obtain ⟨⟨l0, l1, l2, l3, l4, l5, l6, l7, l8, lp, lpath, lpc⟩, lip, lic, lit⟩ := d'
  simp only [MD.val, D]
  have z2 := hd4.size
  have zq := q2.size
  have HD : Hid (MD.In w2.heap.size w2 n ⟨⟨l0, l1, l2, l3, l4, l5, l6, l7, l8, lp, lpath, lpc⟩, lip, lic, lit⟩ ∧ MD.Above w.heap.size n ⟨⟨l0, l1, l2, l3, l4, l5, l6, l7, l8, lp, lpath, lpc⟩, lip, lic, lit⟩ ∧ MD.same n ⟨⟨0, t, a, f, s, r0, r1, r2, r3, pp, path, pc⟩, ip, ic, items⟩ ⟨⟨l0, l1, l2, l3, l4, l5, l6, l7, l8, lp, lpath, lpc⟩, lip, lic, lit⟩ = true) := ⟨hd1, hd2', hd3⟩
  have hk : l0 = 0 := same_kind hd3 hn0
  subst hk
  clear e1 hd1 hd2 hd3 hd4 hd2' HD
  go_wp2_with fail
  refine (behind_0 w2.heap.size _ (by rw [World.cell?_alloc_new]; rfl) (by simp)).mono ?_
  rintro r w3 ⟨rfl, b3⟩
  have q3 : Below w.heap.size w w3 := (q2.alloc q2.size _).trans (b3.mono (by simp; omega))
  clear b3
  go_wp2_with fail
  refine bodyPost_ret (v := .tuple #[.nilIface, .nilIface]) (by simp [results, Tryd.results14, go_sem]) rfl ⟨rfl, q3.alloc q3.size _⟩
set_option maxRecDepth 100000 in
set_option maxHeartbeats 4000000 in
theorem Of_struct (n : Nat) (x : MD) (w : World) (hN : NamesAt w) (hx : MD.In w.heap.size w n x) (h : MD.right n x = true) (hk8 : x.h.k = 8) : Calls Tryd.prog 14 #[x.val] w fun r w' => ∃ T, OfP n x T w r w' ∧ ((T = 78 ∧ (MD.eqv n x x).2 = ⟨#[]⟩) ∨ (T = 73 ∧ (MD.eqv n x x).2.size ≠ 0)) := by
  have HR : Hid (∀ W, Below w.heap.size w W → Calls Tryd.prog 10 #[x.val] W fun r w' => r = .returned (.bool (MD.right n x)) ∧ Below W.heap.size W w') := fun W hW => Right_any n x W (hN.kept hW) (hx.later (Nat.le_refl _) hW)
  rw [h] at HR
  have HC : Hid (∀ W, Below w.heap.size w W → Calls Tryd.prog 35 #[x.val] W (CopyP n x W)) := fun W hW => copiedV_any n x W (hx.later (Nat.le_refl _) hW) (right_full h)
  have HF : Hid (MD.full n x = true) := right_full h
  have hn0 : n ≠ 0 := fun e => by subst e; exact hx.elim
  clear hx h
  obtain ⟨⟨k, t, a, f, s, r0, r1, r2, r3, pp, path, pc⟩, ip, ic, items⟩ := x
  simp only at hk8
  subst hk8
  simp only [MD.val, D] at HR HC ⊢
  go_enter Tryd.func14, Tryd.ntmps14
  go_wp2_with fail
  refine (HR.out _ (below1 _ _)).mono ?_
  rintro r w1 ⟨rfl, b1⟩
  have e1 := one_kept _ _ _ b1
  have q1 : Below w.heap.size w w1 := (below1 _ _).trans (b1.mono (by simp))
  go_wp2_with fail
  refine (HC.out _ q1).mono ?_
  rintro r w2 ⟨d', rfl, hd1, hd2, hd3, hd4⟩
  have q2 : Below w.heap.size w w2 := q1.trans (hd4.mono q1.size)
  have hd2' := MD.Above.mono q1.size n _ hd2
  obtain ⟨⟨l0, l1, l2, l3, l4, l5, l6, l7, l8, lp, lpath, lpc⟩, lip, lic, lit⟩ := d'
  simp only [MD.val, D]
  have z2 := hd4.size
  have zq := q2.size
  have HD : Hid (MD.In w2.heap.size w2 n ⟨⟨l0, l1, l2, l3, l4, l5, l6, l7, l8, lp, lpath, lpc⟩, lip, lic, lit⟩ ∧ MD.Above w.heap.size n ⟨⟨l0, l1, l2, l3, l4, l5, l6, l7, l8, lp, lpath, lpc⟩, lip, lic, lit⟩ ∧ MD.same n ⟨⟨8, t, a, f, s, r0, r1, r2, r3, pp, path, pc⟩, ip, ic, items⟩ ⟨⟨l0, l1, l2, l3, l4, l5, l6, l7, l8, lp, lpath, lpc⟩, lip, lic, lit⟩ = true) := ⟨hd1, hd2', hd3⟩
  have hk : l0 = 8 := same_kind hd3 hn0
  subst hk
  have HI : Hid (∀ W, Below w2.heap.size w2 W → Calls Tryd.prog 37 #[.agg #[.int .i64 8, .string l1, .int .i64 l2, .int .u64 l3, .string l4, .int .i64 l5, .int .i64 l6, .int .i64 l7, .int .i64 l8, .slice lp lpath.length lpc, .slice lip lit.length lic]] W fun r w' => r = .returned (.string (MD.eqv n ⟨⟨8, l1, l2, l3, l4, l5, l6, l7, l8, lp, lpath, lpc⟩, lip, lic, lit⟩ ⟨⟨8, l1, l2, l3, l4, l5, l6, l7, l8, lp, lpath, lpc⟩, lip, lic, lit⟩).2) ∧ Below W.heap.size W w') := fun W hW => incomparable_any n ⟨⟨8, l1, l2, l3, l4, l5, l6, l7, l8, lp, lpath, lpc⟩, lip, lic, lit⟩ W (hd1.later (Nat.le_refl _) hW) ((same_full n _ _ hd3).symm.trans HF.out)
  have HEQ : Hid ((MD.eqv n ⟨⟨8, t, a, f, s, r0, r1, r2, r3, pp, path, pc⟩, ip, ic, items⟩ ⟨⟨8, t, a, f, s, r0, r1, r2, r3, pp, path, pc⟩, ip, ic, items⟩).2 = (MD.eqv n ⟨⟨8, l1, l2, l3, l4, l5, l6, l7, l8, lp, lpath, lpc⟩, lip, lic, lit⟩ ⟨⟨8, l1, l2, l3, l4, l5, l6, l7, l8, lp, lpath, lpc⟩, lip, lic, lit⟩).2) := congrArg Prod.snd (same_eqv n _ _ _ _ hd3 hd3)
  generalize (MD.eqv n ⟨⟨8, l1, l2, l3, l4, l5, l6, l7, l8, lp, lpath, lpc⟩, lip, lic, lit⟩ ⟨⟨8, l1, l2, l3, l4, l5, l6, l7, l8, lp, lpath, lpc⟩, lip, lic, lit⟩).2 = c at HI HEQ
  clear e1 hd1 hd2 hd3 hd4 hd2'
  go_wp2_with fail
  refine (behind_8 w2.heap.size _ (by rw [World.cell?_alloc_new]; rfl) (by simp)).mono ?_
  rintro r w3 ⟨rfl, b3⟩
  have q3 : Below w.heap.size w w3 := (q2.alloc q2.size _).trans (b3.mono (by simp; omega))
  have hr3 : Hid (w3.heap[w2.heap.size]? = some (.cells #[.int .i64 8, .string l1, .int .i64 l2, .int .u64 l3, .string l4, .int .i64 l5, .int .i64 l6, .int .i64 l7, .int .i64 l8, .slice lp lpath.length lpc, .slice lip lit.length lic] 28 (0, 0))) := (b3.block w2.heap.size (by simp)).trans (heap_alloc_new _ _)
  have HB3 : Hid (Below w2.heap.size w2 w3) := (below1 _ _).trans (b3.mono (by simp))
  have hz3 := row_ltT hr3.out
  have hc3 : ∀ j, w3.cell? ⟨w2.heap.size, j, none⟩ = (#[.int .i64 8, .string l1, .int .i64 l2, .int .u64 l3, .string l4, .int .i64 l5, .int .i64 l6, .int .i64 l7, .int .i64 l8, .slice lp lpath.length lpc, .slice lip lit.length lic] : Array Value)[j]? := row_at hr3.out
  clear b3
  by_cases hc : c.size = 0
  · obtain rfl : c = ⟨#[]⟩ := by apply ByteArray.ext; apply Array.eq_empty_of_size_eq_zero; exact hc
    clear hc
    go_wp2_with (go_at_call 37; refine (HI.out _ (HB3.out.alloc HB3.out.size _)).mono ?_; rintro r w4 ⟨rfl, b4⟩; have HB4 : Hid _ := b4; have hc4 := row_at ((b4.block w3.heap.size (by simp)).trans (heap_alloc_new _ _)); clear b4)
    refine bodyPost_ret (v := .tuple #[.iface 78 (.agg #[.pointer (some ⟨w2.heap.size, 0, none⟩)]), .nilIface]) (by simp [results, Tryd.results14, go_sem]) rfl ?_
    have hB4 : Below w2.heap.size w2 w4 := (HB3.out.alloc HB3.out.size _).trans (HB4.out.mono (by simp; omega))
    refine ⟨78, ⟨w2.heap.size, ⟨⟨8, l1, l2, l3, l4, l5, l6, l7, l8, lp, lpath, lpc⟩, lip, lic, lit⟩, rfl, q2.size, ?_, HD.out.1.later (Nat.le_refl _) hB4, HD.out.2.1, HD.out.2.2, q2.trans (hB4.mono q2.size)⟩, .inl ⟨rfl, HEQ.out⟩⟩
    exact (HB4.out.block _ (by simp; omega)).trans ((Below.heap_alloc _ _ _ hz3).trans hr3.out)
  · have hne := ne_empty hc
    go_wp2_with (go_at_call 37; refine (HI.out _ (HB3.out.alloc HB3.out.size _)).mono ?_; rintro r w4 ⟨rfl, b4⟩; have HB4 : Hid _ := b4; clear b4)
    refine bodyPost_ret (v := .tuple #[.iface 73 (.agg #[.pointer (some ⟨w2.heap.size, 0, none⟩)]), .nilIface]) (by simp [results, Tryd.results14, go_sem]) rfl ?_
    have hB4 : Below w2.heap.size w2 w4 := (HB3.out.alloc HB3.out.size _).trans (HB4.out.mono (by simp; omega))
    refine ⟨73, ⟨w2.heap.size, ⟨⟨8, l1, l2, l3, l4, l5, l6, l7, l8, lp, lpath, lpc⟩, lip, lic, lit⟩, rfl, q2.size, ?_, HD.out.1.later (Nat.le_refl _) hB4, HD.out.2.1, HD.out.2.2, q2.trans (hB4.mono q2.size)⟩, .inr ⟨rfl, by rw [HEQ.out]; exact hc⟩⟩
    exact (HB4.out.block _ (by simp; omega)).trans ((Below.heap_alloc _ _ _ hz3).trans hr3.out)

end Go.Proofs.YtnhbpcmiolkllaaDoor
namespace Go.Proofs.YtnhbpcmiolkllaaDoor
open Go.RowKit
attribute [local go_sem] refold2 cell3_0 cell3_1 b28_0 b28_01

theorem typed_eql (k : Int) (t : ByteArray) (k' : Int) (t' : ByteArray) (w : World) : (binOp .eql 107 (.agg #[.int .i64 k, .string t]) (.agg #[.int .i64 k', .string t'])).run Tryd.prog w = .ok (.bool (k == k' && t.toList == t'.toList)) w := by
  by_cases h0 : k = k'
  · by_cases h1 : t.toList = t'.toList
    · simp [go_sem, h0, h1]
    · simp [go_sem, h0, h1]
  · simp [go_sem, h0]
set_option maxRecDepth 100000 in
set_option maxHeartbeats 4000000 in
theorem beside_like (n b : Nat) (k : Int) (t : ByteArray) (a f : Int) (s : ByteArray) (r0 r1 r2 r3 : Int) (pp : Option Addr) (path : List Int) (pc : Nat) (ip : Option Addr) (ic : Nat) (items : List MD) (k' : Int) (t' : ByteArray) (a' f' : Int) (s' : ByteArray) (r0' r1' r2' r3' : Int) (pp' : Option Addr) (path' : List Int) (pc' : Nat) (ip' : Option Addr) (ic' : Nat) (items' : List MD) (w : World) (hN : NamesAt w)
    (hr : w.heap[b]? = some (.cells #[.int .i64 k, .string t, .int .i64 a, .int .u64 f, .string s, .int .i64 r0, .int .i64 r1, .int .i64 r2, .int .i64 r3, .slice pp path.length pc, .slice ip items.length ic] 28 (0, 0))) (hy : MD.In w.heap.size w n ⟨⟨k', t', a', f', s', r0', r1', r2', r3', pp', path', pc'⟩, ip', ic', items'⟩) (he : k = k' ∧ t = t') :
    Calls Tryd.prog 104 #[.agg #[.pointer (some ⟨b, 0, none⟩)], .agg #[.int .i64 k', .string t', .int .i64 a', .int .u64 f', .string s', .int .i64 r0', .int .i64 r1', .int .i64 r2', .int .i64 r3', .slice pp' path'.length pc', .slice ip' items'.length ic']] w fun r w' => r = .returned (.bool (MD.right n ⟨⟨k', t', a', f', s', r0', r1', r2', r3', pp', path', pc'⟩, ip', ic', items'⟩)) ∧ Below w.heap.size w w' := by
  have hb : b < w.heap.size := (Array.getElem?_eq_some_iff.1 hr).1
  obtain ⟨W2, hW2⟩ : ∃ W2, W2 = (w.alloc (.cells #[.pointer (some ⟨b, 0, none⟩)] 71)).alloc (.cells #[.int .i64 k', .string t', .int .i64 a', .int .u64 f', .string s', .int .i64 r0', .int .i64 r1', .int .i64 r2', .int .i64 r3', .slice pp' path'.length pc', .slice ip' items'.length ic'] 28) := ⟨_, rfl⟩
  have hB2 : Below w.heap.size w W2 := by rw [hW2]; exact below2 _ _ _
  have hz2 : W2.heap.size = w.heap.size + 2 := by rw [hW2]; simp
  have R0 : Hid (W2.heap[w.heap.size]? = some (.cells #[.pointer (some ⟨b, 0, none⟩)] 71 (0, 0))) := by rw [hW2, Below.heap_alloc _ _ _ (by simp)]; exact heap_alloc_new _ _
  have R1 : Hid (W2.heap[w.heap.size + 1]? = some (.cells #[.int .i64 k', .string t', .int .i64 a', .int .u64 f', .string s', .int .i64 r0', .int .i64 r1', .int .i64 r2', .int .i64 r3', .slice pp' path'.length pc', .slice ip' items'.length ic'] 28 (0, 0))) := by rw [hW2]; exact heap2_1 _ _ _
  have HK : Hid (∀ W, Below W2.heap.size W2 W → (W.cell? ⟨w.heap.size, 0, none⟩ = some (.pointer (some ⟨b, 0, none⟩)) ∧ (∀ j, W.cell? ⟨b, j, none⟩ = (#[.int .i64 k, .string t, .int .i64 a, .int .u64 f, .string s, .int .i64 r0, .int .i64 r1, .int .i64 r2, .int .i64 r3, .slice pp path.length pc, .slice ip items.length ic] : Array Value)[j]?) ∧ (∀ j, W.cell? ⟨w.heap.size + 1, j, none⟩ = (#[.int .i64 k', .string t', .int .i64 a', .int .u64 f', .string s', .int .i64 r0', .int .i64 r1', .int .i64 r2', .int .i64 r3', .slice pp' path'.length pc', .slice ip' items'.length ic'] : Array Value)[j]?))) := fun W hW => ⟨row_at ((hW.block w.heap.size (by omega)).trans R0.out) 0, fun j => row_at ((hW.block b (by omega)).trans ((hB2.block b hb).trans hr)) j, fun j => row_at ((hW.block (w.heap.size + 1) (by omega)).trans R1.out) j⟩
  have HTA : Hid (∀ W, Calls Tryd.prog 67 #[.agg #[.int .i64 k, .string t, .int .i64 a, .int .u64 f, .string s, .int .i64 r0, .int .i64 r1, .int .i64 r2, .int .i64 r3, .slice pp path.length pc, .slice ip items.length ic]] W fun r w' => r = .returned (.agg #[.int .i64 k, .string t]) ∧ Below W.heap.size W w') := fun W => typeOf_any k t a f s r0 r1 r2 r3 _ _ W
  have HTB : Hid (∀ W, Calls Tryd.prog 67 #[.agg #[.int .i64 k', .string t', .int .i64 a', .int .u64 f', .string s', .int .i64 r0', .int .i64 r1', .int .i64 r2', .int .i64 r3', .slice pp' path'.length pc', .slice ip' items'.length ic']] W fun r w' => r = .returned (.agg #[.int .i64 k', .string t']) ∧ Below W.heap.size W w') := fun W => typeOf_any k' t' a' f' s' r0' r1' r2' r3' _ _ W
  have HR : Hid (∀ W, Below W2.heap.size W2 W → Calls Tryd.prog 10 #[.agg #[.int .i64 k', .string t', .int .i64 a', .int .u64 f', .string s', .int .i64 r0', .int .i64 r1', .int .i64 r2', .int .i64 r3', .slice pp' path'.length pc', .slice ip' items'.length ic']] W fun r w' => r = .returned (.bool (MD.right n ⟨⟨k', t', a', f', s', r0', r1', r2', r3', pp', path', pc'⟩, ip', ic', items'⟩)) ∧ Below W.heap.size W w') := fun W hW => Right_any n ⟨⟨k', t', a', f', s', r0', r1', r2', r3', pp', path', pc'⟩, ip', ic', items'⟩ W (hN.kept (hB2.trans (hW.mono hB2.size))) (hy.later (Nat.le_refl _) (hB2.trans (hW.mono hB2.size)))
  obtain ⟨rfl, rfl⟩ := he
  generalize MD.right n ⟨⟨k, t, a', f', s', r0', r1', r2', r3', pp', path', pc'⟩, ip', ic', items'⟩ = q at HR ⊢
  have HQ : ∀ W, (binOp .eql 107 (.agg #[.int .i64 k, .string t]) (.agg #[.int .i64 k, .string t])).run Tryd.prog W = .ok (.bool true) W := fun W => by rw [typed_eql]; simp
  clear hN hr hy
  go_enter Tryd.func104, Tryd.ntmps104
  go_wp2_with fail
  rw [← hW2]
  clear hW2
  refine wp_region_noPanic ?_
  refine wp_region_held (S := fun W => W.cell? ⟨w.heap.size, 0, none⟩ = some (.pointer (some ⟨b, 0, none⟩)) ∧ (∀ j, W.cell? ⟨b, j, none⟩ = (#[.int .i64 k, .string t, .int .i64 a, .int .u64 f, .string s, .int .i64 r0, .int .i64 r1, .int .i64 r2, .int .i64 r3, .slice pp path.length pc, .slice ip items.length ic] : Array Value)[j]?) ∧ (∀ j, W.cell? ⟨w.heap.size + 1, j, none⟩ = (#[.int .i64 k, .string t, .int .i64 a', .int .u64 f', .string s', .int .i64 r0', .int .i64 r1', .int .i64 r2', .int .i64 r3', .slice pp' path'.length pc', .slice ip' items'.length ic'] : Array Value)[j]?)) (by kernel_rfl) ?_
  obtain ⟨W4, hW4⟩ : ∃ W4, W4 = W2.drew := ⟨_, rfl⟩
  have e4 : ({ W2 with drawn := W2.drawn + 1 } : World) = W4 := hW4.symm
  rw [e4]
  have hW4' : Below W2.heap.size W2 W4 := by rw [hW4]; exact (Below.refl _ _).drew
  have hS := HK.out W4 hW4'
  clear e4 hW4
  have hW4 := hW4'
  clear hW4'
  refine wpAnyH_take (i := 0) (v := .pointer (some ⟨w.heap.size, 0, none⟩)) rfl (by kernel_rfl) (by kernel_rfl) (by kernel_rfl) (fun _ _ _ h => h) (Or.inl ⟨by rfl, ?r⟩) hS ?_
  case r => intro W hW; simp [go_sem, execOp, Act.eval]
  simp only [List.getElem_toArray, List.getElem_cons_zero, Act.put, List.setIfInBounds_toArray, List.set_cons_succ, List.set_cons_zero]
  refine wpAnyH_take (i := 1) (v := .pointer (some ⟨b, 0, none⟩)) rfl (by kernel_rfl) (by kernel_rfl) (by kernel_rfl) (fun _ _ _ h => h) (Or.inl ⟨by rfl, ?r⟩) hS ?_
  case r => intro W hW; simp [go_sem, execOp, Act.eval, hW.1]
  simp only [List.getElem_toArray, List.getElem_cons_zero, List.getElem_cons_succ, Act.put, List.setIfInBounds_toArray, List.set_cons_succ, List.set_cons_zero]
  refine wpAnyH_take (i := 2) (v := .pointer (some ⟨b, 0, none⟩)) rfl (by kernel_rfl) (by kernel_rfl) (by kernel_rfl) (fun _ _ _ h => h) (Or.inl ⟨by rfl, ?r⟩) hS ?_
  case r => intro W hW; simp [go_sem, execOp, Act.eval]
  simp only [List.getElem_toArray, List.getElem_cons_zero, List.getElem_cons_succ, Act.put, List.setIfInBounds_toArray, List.set_cons_succ, List.set_cons_zero]
  refine wpAnyH_take (i := 3) (v := .agg #[.int .i64 k, .string t, .int .i64 a, .int .u64 f, .string s, .int .i64 r0, .int .i64 r1, .int .i64 r2, .int .i64 r3, .slice pp path.length pc, .slice ip items.length ic]) rfl (by kernel_rfl) (by kernel_rfl) (by kernel_rfl) (fun _ _ _ h => h) (Or.inl ⟨by rfl, ?r⟩) hS ?_
  case r => intro W hW; simp [go_sem, execOp, Act.eval, hW.2.1]
  simp only [List.getElem_toArray, List.getElem_cons_zero, List.getElem_cons_succ, Act.put, List.setIfInBounds_toArray, List.set_cons_succ, List.set_cons_zero]
  refine wpAnyH_take (i := 5) (v := .agg #[.int .i64 k, .string t, .int .i64 a', .int .u64 f', .string s', .int .i64 r0', .int .i64 r1', .int .i64 r2', .int .i64 r3', .slice pp' path'.length pc', .slice ip' items'.length ic']) rfl (by kernel_rfl) (by kernel_rfl) (by kernel_rfl) (fun _ _ _ h => h) (Or.inl ⟨by rfl, ?r⟩) hS ?_
  case r => intro W hW; simp [go_sem, execOp, Act.eval, hW.2.2]
  simp only [List.getElem_toArray, List.getElem_cons_zero, List.getElem_cons_succ, Act.put, List.setIfInBounds_toArray, List.set_cons_succ, List.set_cons_zero]
  refine wpAnyH_all (rs := [4]) (by kernel_rfl) (by simp) (fun i2 hi2 => ?_)
  obtain rfl : i2 = 4 := by simpa using hi2
  clear hi2
  refine wpOp_step rfl (fun K hK => ite_yes rfl ?_)
  simp only [List.getElem_toArray, List.getElem_cons_zero, List.getElem_cons_succ]
  go_simp
  refine (HTA.out _).mono ?_
  rintro e w5 ⟨rfl, bw5⟩
  have hw5 : Below W2.heap.size W2 w5 := hW4.trans (bw5.mono hW4.size)
  go_simp
  refine hK _ _ ⟨HK.out _ hw5, ?_⟩
  clear hK K hS
  have hS := HK.out _ hw5
  refine wpAnyH_all (rs := [6]) (by kernel_rfl) (by simp) (fun i2 hi2 => ?_)
  obtain rfl : i2 = 6 := by simpa using hi2
  clear hi2
  refine wpOp_step rfl (fun K hK => ite_yes rfl ?_)
  simp only [List.getElem_toArray, List.getElem_cons_zero, List.getElem_cons_succ]
  go_simp
  refine (HTB.out _).mono ?_
  rintro e w6 ⟨rfl, bw6⟩
  have hw6 : Below W2.heap.size W2 w6 := hw5.trans (bw6.mono hw5.size)
  go_simp
  refine hK _ _ ⟨HK.out _ hw6, ?_⟩
  clear hK K hS
  have hS := HK.out _ hw6
  refine wpAnyH_take (i := 7) (v := .bool true) rfl (by kernel_rfl) (by kernel_rfl) (by kernel_rfl) (fun _ _ _ h => h) (Or.inl ⟨by rfl, ?r⟩) hS ?_
  case r => intro W hW; simp [go_sem, execOp, Act.eval, HQ]
  simp only [List.getElem_toArray, List.getElem_cons_zero, List.getElem_cons_succ, Act.put, List.setIfInBounds_toArray, List.set_cons_succ, List.set_cons_zero]
  refine wpAnyH_take (i := 8) (v := .bool true) rfl (by kernel_rfl) (by kernel_rfl) (by kernel_rfl) (fun _ _ _ h => h) (Or.inl ⟨by rfl, ?r⟩) hS ?_
  case r => intro W hW; simp [go_sem, execOp, Act.eval]
  simp only [List.getElem_toArray, List.getElem_cons_zero, List.getElem_cons_succ, Act.put, List.setIfInBounds_toArray, List.set_cons_succ, List.set_cons_zero]
  refine wpAnyH_take (i := 9) (v := .agg #[.int .i64 k, .string t, .int .i64 a', .int .u64 f', .string s', .int .i64 r0', .int .i64 r1', .int .i64 r2', .int .i64 r3', .slice pp' path'.length pc', .slice ip' items'.length ic']) rfl (by kernel_rfl) (by kernel_rfl) (by kernel_rfl) (fun _ _ _ h => h) (Or.inl ⟨by rfl, ?r⟩) hS ?_
  case r => intro W hW; simp [go_sem, execOp, Act.eval, hW.2.2]
  simp only [List.getElem_toArray, List.getElem_cons_zero, List.getElem_cons_succ, Act.put, List.setIfInBounds_toArray, List.set_cons_succ, List.set_cons_zero]
  refine wpAnyH_all (rs := [10]) (by kernel_rfl) (by simp) (fun i2 hi2 => ?_)
  obtain rfl : i2 = 10 := by simpa using hi2
  clear hi2
  refine wpOp_step rfl (fun K hK => ite_yes rfl ?_)
  simp only [List.getElem_toArray, List.getElem_cons_zero, List.getElem_cons_succ]
  go_simp
  refine (HR.out _ hw6).mono ?_
  rintro e w7 ⟨rfl, bw7⟩
  have hw7 : Below W2.heap.size W2 w7 := hw6.trans (bw7.mono hw6.size)
  go_simp
  refine hK _ _ ⟨HK.out _ hw7, ?_⟩
  clear hK K hS
  have hS := HK.out _ hw7
  refine wpAnyH_take (i := 11) (v := .bool q) rfl (by kernel_rfl) (by kernel_rfl) (by kernel_rfl) (fun _ _ _ h => h) (Or.inl ⟨by rfl, ?r⟩) hS ?_
  case r => intro W hW; simp [go_sem, execOp, Act.eval]
  simp only [List.getElem_toArray, List.getElem_cons_zero, List.getElem_cons_succ, Act.put, List.setIfInBounds_toArray, List.set_cons_succ, List.set_cons_zero]
  refine wpAnyH_take (i := 12) (v := .bool q) rfl (by kernel_rfl) (by kernel_rfl) (by kernel_rfl) (fun _ _ _ h => h) (Or.inl ⟨by rfl, ?r⟩) hS ?_
  case r => intro W hW; simp [go_sem, execOp, Act.eval]
  simp only [List.getElem_toArray, List.getElem_cons_zero, List.getElem_cons_succ, Act.put, List.setIfInBounds_toArray, List.set_cons_succ, List.set_cons_zero]
  refine wpAnyH_done (by kernel_rfl) ?_ _
  refine NoPanic.normal ?_
  try simp only [Act.put]
  go_wp2_with fail
  go_ret
  exact ⟨rfl, hB2.trans (hw7.mono (by omega))⟩
set_option maxRecDepth 100000 in
set_option maxHeartbeats 4000000 in
theorem beside_unlike (n b : Nat) (k : Int) (t : ByteArray) (a f : Int) (s : ByteArray) (r0 r1 r2 r3 : Int) (pp : Option Addr) (path : List Int) (pc : Nat) (ip : Option Addr) (ic : Nat) (items : List MD) (k' : Int) (t' : ByteArray) (a' f' : Int) (s' : ByteArray) (r0' r1' r2' r3' : Int) (pp' : Option Addr) (path' : List Int) (pc' : Nat) (ip' : Option Addr) (ic' : Nat) (items' : List MD) (w : World) (hN : NamesAt w)
    (hr : w.heap[b]? = some (.cells #[.int .i64 k, .string t, .int .i64 a, .int .u64 f, .string s, .int .i64 r0, .int .i64 r1, .int .i64 r2, .int .i64 r3, .slice pp path.length pc, .slice ip items.length ic] 28 (0, 0))) (hy : MD.In w.heap.size w n ⟨⟨k', t', a', f', s', r0', r1', r2', r3', pp', path', pc'⟩, ip', ic', items'⟩) (he : ¬ (k = k' ∧ t = t')) :
    Calls Tryd.prog 104 #[.agg #[.pointer (some ⟨b, 0, none⟩)], .agg #[.int .i64 k', .string t', .int .i64 a', .int .u64 f', .string s', .int .i64 r0', .int .i64 r1', .int .i64 r2', .int .i64 r3', .slice pp' path'.length pc', .slice ip' items'.length ic']] w fun r w' => r = .returned (.bool (false)) ∧ Below w.heap.size w w' := by
  have hb : b < w.heap.size := (Array.getElem?_eq_some_iff.1 hr).1
  obtain ⟨W2, hW2⟩ : ∃ W2, W2 = (w.alloc (.cells #[.pointer (some ⟨b, 0, none⟩)] 71)).alloc (.cells #[.int .i64 k', .string t', .int .i64 a', .int .u64 f', .string s', .int .i64 r0', .int .i64 r1', .int .i64 r2', .int .i64 r3', .slice pp' path'.length pc', .slice ip' items'.length ic'] 28) := ⟨_, rfl⟩
  have hB2 : Below w.heap.size w W2 := by rw [hW2]; exact below2 _ _ _
  have hz2 : W2.heap.size = w.heap.size + 2 := by rw [hW2]; simp
  have R0 : Hid (W2.heap[w.heap.size]? = some (.cells #[.pointer (some ⟨b, 0, none⟩)] 71 (0, 0))) := by rw [hW2, Below.heap_alloc _ _ _ (by simp)]; exact heap_alloc_new _ _
  have R1 : Hid (W2.heap[w.heap.size + 1]? = some (.cells #[.int .i64 k', .string t', .int .i64 a', .int .u64 f', .string s', .int .i64 r0', .int .i64 r1', .int .i64 r2', .int .i64 r3', .slice pp' path'.length pc', .slice ip' items'.length ic'] 28 (0, 0))) := by rw [hW2]; exact heap2_1 _ _ _
  have HK : Hid (∀ W, Below W2.heap.size W2 W → (W.cell? ⟨w.heap.size, 0, none⟩ = some (.pointer (some ⟨b, 0, none⟩)) ∧ (∀ j, W.cell? ⟨b, j, none⟩ = (#[.int .i64 k, .string t, .int .i64 a, .int .u64 f, .string s, .int .i64 r0, .int .i64 r1, .int .i64 r2, .int .i64 r3, .slice pp path.length pc, .slice ip items.length ic] : Array Value)[j]?) ∧ (∀ j, W.cell? ⟨w.heap.size + 1, j, none⟩ = (#[.int .i64 k', .string t', .int .i64 a', .int .u64 f', .string s', .int .i64 r0', .int .i64 r1', .int .i64 r2', .int .i64 r3', .slice pp' path'.length pc', .slice ip' items'.length ic'] : Array Value)[j]?))) := fun W hW => ⟨row_at ((hW.block w.heap.size (by omega)).trans R0.out) 0, fun j => row_at ((hW.block b (by omega)).trans ((hB2.block b hb).trans hr)) j, fun j => row_at ((hW.block (w.heap.size + 1) (by omega)).trans R1.out) j⟩
  have HTA : Hid (∀ W, Calls Tryd.prog 67 #[.agg #[.int .i64 k, .string t, .int .i64 a, .int .u64 f, .string s, .int .i64 r0, .int .i64 r1, .int .i64 r2, .int .i64 r3, .slice pp path.length pc, .slice ip items.length ic]] W fun r w' => r = .returned (.agg #[.int .i64 k, .string t]) ∧ Below W.heap.size W w') := fun W => typeOf_any k t a f s r0 r1 r2 r3 _ _ W
  have HTB : Hid (∀ W, Calls Tryd.prog 67 #[.agg #[.int .i64 k', .string t', .int .i64 a', .int .u64 f', .string s', .int .i64 r0', .int .i64 r1', .int .i64 r2', .int .i64 r3', .slice pp' path'.length pc', .slice ip' items'.length ic']] W fun r w' => r = .returned (.agg #[.int .i64 k', .string t']) ∧ Below W.heap.size W w') := fun W => typeOf_any k' t' a' f' s' r0' r1' r2' r3' _ _ W
  have HR : Hid (∀ W, Below W2.heap.size W2 W → Calls Tryd.prog 10 #[.agg #[.int .i64 k', .string t', .int .i64 a', .int .u64 f', .string s', .int .i64 r0', .int .i64 r1', .int .i64 r2', .int .i64 r3', .slice pp' path'.length pc', .slice ip' items'.length ic']] W fun r w' => r = .returned (.bool (MD.right n ⟨⟨k', t', a', f', s', r0', r1', r2', r3', pp', path', pc'⟩, ip', ic', items'⟩)) ∧ Below W.heap.size W w') := fun W hW => Right_any n ⟨⟨k', t', a', f', s', r0', r1', r2', r3', pp', path', pc'⟩, ip', ic', items'⟩ W (hN.kept (hB2.trans (hW.mono hB2.size))) (hy.later (Nat.le_refl _) (hB2.trans (hW.mono hB2.size)))
  have HQ : ∀ W, (binOp .eql 107 (.agg #[.int .i64 k, .string t]) (.agg #[.int .i64 k', .string t'])).run Tryd.prog W = .ok (.bool false) W := fun W => by
    rw [typed_eql]
    have e : (k == k' && t.toList == t'.toList) = false := by
      cases hh : (k == k' && t.toList == t'.toList) with
      | false => rfl
      | true =>
        rw [Bool.and_eq_true, beq_iff_eq, beq_iff_eq] at hh
        exact absurd ⟨hh.1, byteArray_ext hh.2⟩ he
    rw [e]
  clear he
  clear hN hr hy
  go_enter Tryd.func104, Tryd.ntmps104
  go_wp2_with fail
  rw [← hW2]
  clear hW2
  refine wp_region_noPanic ?_
  refine wp_region_held (S := fun W => W.cell? ⟨w.heap.size, 0, none⟩ = some (.pointer (some ⟨b, 0, none⟩)) ∧ (∀ j, W.cell? ⟨b, j, none⟩ = (#[.int .i64 k, .string t, .int .i64 a, .int .u64 f, .string s, .int .i64 r0, .int .i64 r1, .int .i64 r2, .int .i64 r3, .slice pp path.length pc, .slice ip items.length ic] : Array Value)[j]?) ∧ (∀ j, W.cell? ⟨w.heap.size + 1, j, none⟩ = (#[.int .i64 k', .string t', .int .i64 a', .int .u64 f', .string s', .int .i64 r0', .int .i64 r1', .int .i64 r2', .int .i64 r3', .slice pp' path'.length pc', .slice ip' items'.length ic'] : Array Value)[j]?)) (by kernel_rfl) ?_
  obtain ⟨W4, hW4⟩ : ∃ W4, W4 = W2.drew := ⟨_, rfl⟩
  have e4 : ({ W2 with drawn := W2.drawn + 1 } : World) = W4 := hW4.symm
  rw [e4]
  have hW4' : Below W2.heap.size W2 W4 := by rw [hW4]; exact (Below.refl _ _).drew
  have hS := HK.out W4 hW4'
  clear e4 hW4
  have hW4 := hW4'
  clear hW4'
  refine wpAnyH_take (i := 0) (v := .pointer (some ⟨w.heap.size, 0, none⟩)) rfl (by kernel_rfl) (by kernel_rfl) (by kernel_rfl) (fun _ _ _ h => h) (Or.inl ⟨by rfl, ?r⟩) hS ?_
  case r => intro W hW; simp [go_sem, execOp, Act.eval]
  simp only [List.getElem_toArray, List.getElem_cons_zero, Act.put, List.setIfInBounds_toArray, List.set_cons_succ, List.set_cons_zero]
  refine wpAnyH_take (i := 1) (v := .pointer (some ⟨b, 0, none⟩)) rfl (by kernel_rfl) (by kernel_rfl) (by kernel_rfl) (fun _ _ _ h => h) (Or.inl ⟨by rfl, ?r⟩) hS ?_
  case r => intro W hW; simp [go_sem, execOp, Act.eval, hW.1]
  simp only [List.getElem_toArray, List.getElem_cons_zero, List.getElem_cons_succ, Act.put, List.setIfInBounds_toArray, List.set_cons_succ, List.set_cons_zero]
  refine wpAnyH_take (i := 2) (v := .pointer (some ⟨b, 0, none⟩)) rfl (by kernel_rfl) (by kernel_rfl) (by kernel_rfl) (fun _ _ _ h => h) (Or.inl ⟨by rfl, ?r⟩) hS ?_
  case r => intro W hW; simp [go_sem, execOp, Act.eval]
  simp only [List.getElem_toArray, List.getElem_cons_zero, List.getElem_cons_succ, Act.put, List.setIfInBounds_toArray, List.set_cons_succ, List.set_cons_zero]
  refine wpAnyH_take (i := 3) (v := .agg #[.int .i64 k, .string t, .int .i64 a, .int .u64 f, .string s, .int .i64 r0, .int .i64 r1, .int .i64 r2, .int .i64 r3, .slice pp path.length pc, .slice ip items.length ic]) rfl (by kernel_rfl) (by kernel_rfl) (by kernel_rfl) (fun _ _ _ h => h) (Or.inl ⟨by rfl, ?r⟩) hS ?_
  case r => intro W hW; simp [go_sem, execOp, Act.eval, hW.2.1]
  simp only [List.getElem_toArray, List.getElem_cons_zero, List.getElem_cons_succ, Act.put, List.setIfInBounds_toArray, List.set_cons_succ, List.set_cons_zero]
  refine wpAnyH_take (i := 5) (v := .agg #[.int .i64 k', .string t', .int .i64 a', .int .u64 f', .string s', .int .i64 r0', .int .i64 r1', .int .i64 r2', .int .i64 r3', .slice pp' path'.length pc', .slice ip' items'.length ic']) rfl (by kernel_rfl) (by kernel_rfl) (by kernel_rfl) (fun _ _ _ h => h) (Or.inl ⟨by rfl, ?r⟩) hS ?_
  case r => intro W hW; simp [go_sem, execOp, Act.eval, hW.2.2]
  simp only [List.getElem_toArray, List.getElem_cons_zero, List.getElem_cons_succ, Act.put, List.setIfInBounds_toArray, List.set_cons_succ, List.set_cons_zero]
  refine wpAnyH_all (rs := [4]) (by kernel_rfl) (by simp) (fun i2 hi2 => ?_)
  obtain rfl : i2 = 4 := by simpa using hi2
  clear hi2
  refine wpOp_step rfl (fun K hK => ite_yes rfl ?_)
  simp only [List.getElem_toArray, List.getElem_cons_zero, List.getElem_cons_succ]
  go_simp
  refine (HTA.out _).mono ?_
  rintro e w5 ⟨rfl, bw5⟩
  have hw5 : Below W2.heap.size W2 w5 := hW4.trans (bw5.mono hW4.size)
  go_simp
  refine hK _ _ ⟨HK.out _ hw5, ?_⟩
  clear hK K hS
  have hS := HK.out _ hw5
  refine wpAnyH_all (rs := [6]) (by kernel_rfl) (by simp) (fun i2 hi2 => ?_)
  obtain rfl : i2 = 6 := by simpa using hi2
  clear hi2
  refine wpOp_step rfl (fun K hK => ite_yes rfl ?_)
  simp only [List.getElem_toArray, List.getElem_cons_zero, List.getElem_cons_succ]
  go_simp
  refine (HTB.out _).mono ?_
  rintro e w6 ⟨rfl, bw6⟩
  have hw6 : Below W2.heap.size W2 w6 := hw5.trans (bw6.mono hw5.size)
  go_simp
  refine hK _ _ ⟨HK.out _ hw6, ?_⟩
  clear hK K hS
  have hS := HK.out _ hw6
  refine wpAnyH_take (i := 7) (v := .bool false) rfl (by kernel_rfl) (by kernel_rfl) (by kernel_rfl) (fun _ _ _ h => h) (Or.inl ⟨by rfl, ?r⟩) hS ?_
  case r => intro W hW; simp [go_sem, execOp, Act.eval, HQ]
  simp only [List.getElem_toArray, List.getElem_cons_zero, List.getElem_cons_succ, Act.put, List.setIfInBounds_toArray, List.set_cons_succ, List.set_cons_zero]
  refine wpAnyH_take (i := 8) (v := .bool false) rfl (by kernel_rfl) (by kernel_rfl) (by kernel_rfl) (fun _ _ _ h => h) (Or.inl ⟨by rfl, ?r⟩) hS ?_
  case r => intro W hW; simp [go_sem, execOp, Act.eval]
  simp only [List.getElem_toArray, List.getElem_cons_zero, List.getElem_cons_succ, Act.put, List.setIfInBounds_toArray, List.set_cons_succ, List.set_cons_zero]
  refine wpAnyH_take (i := 9) (v := undef) rfl (by kernel_rfl) (by kernel_rfl) (by kernel_rfl) (fun _ _ _ h => h) (Or.inr ⟨by rfl, rfl⟩) hS ?_
  simp only [List.getElem_toArray, List.getElem_cons_zero, List.getElem_cons_succ, Act.put, List.setIfInBounds_toArray, List.set_cons_succ, List.set_cons_zero]
  refine wpAnyH_take (i := 10) (v := undef) rfl (by kernel_rfl) (by kernel_rfl) (by kernel_rfl) (fun _ _ _ h => h) (Or.inr ⟨by rfl, rfl⟩) hS ?_
  simp only [List.getElem_toArray, List.getElem_cons_zero, List.getElem_cons_succ, Act.put, List.setIfInBounds_toArray, List.set_cons_succ, List.set_cons_zero]
  refine wpAnyH_take (i := 11) (v := .bool false) rfl (by kernel_rfl) (by kernel_rfl) (by kernel_rfl) (fun _ _ _ h => h) (Or.inl ⟨by rfl, ?r⟩) hS ?_
  case r => intro W hW; simp [go_sem, execOp, Act.eval]
  simp only [List.getElem_toArray, List.getElem_cons_zero, List.getElem_cons_succ, Act.put, List.setIfInBounds_toArray, List.set_cons_succ, List.set_cons_zero]
  refine wpAnyH_take (i := 12) (v := .bool false) rfl (by kernel_rfl) (by kernel_rfl) (by kernel_rfl) (fun _ _ _ h => h) (Or.inl ⟨by rfl, ?r⟩) hS ?_
  case r => intro W hW; simp [go_sem, execOp, Act.eval]
  simp only [List.getElem_toArray, List.getElem_cons_zero, List.getElem_cons_succ, Act.put, List.setIfInBounds_toArray, List.set_cons_succ, List.set_cons_zero]
  refine wpAnyH_done (by kernel_rfl) ?_ _
  refine NoPanic.normal ?_
  try simp only [Act.put]
  go_wp2_with fail
  go_ret
  exact ⟨rfl, hB2.trans (hw6.mono (by omega))⟩
end Go.Proofs.YtnhbpcmiolkllaaDoor
namespace Go.Proofs.YtnhbpcmiolkllaaDoor
open Go.RowKit
attribute [local go_sem] refold2 cell3_0 cell3_1 b28_0 b28_01 x56

/-- How texts are ranked. -/
def rankS (x y : ByteArray) : Int × Bool := if Op.bytesLess x.toList y.toList = true then (-1, true) else if (x.toList == y.toList) = true then (0, true) else (1, true)
def rankP (a c : Int) : Int × Bool := (rankI a c, true)
/-- How floats are ranked. -/
def rankF (f g : Int) : Int × Bool := match FloatKind.f64.format.order f.toNat g.toNat with
  | some .lt => (-1, true) | some .gt => (1, true) | some .eq => (0, true) | none => (0, false)
theorem rank_int' (a c : Int) (w : World) : Calls Tryd.prog 105 #[.int .i64 a, .int .i64 c] w fun r w' => r = .returned (.tuple #[.int .i64 (rankP a c).1, .bool (rankP a c).2]) ∧ w' = w := rank_int a c w

set_option maxRecDepth 100000 in
set_option maxHeartbeats 4000000 in
theorem rank_txt (x y : ByteArray) (w : World) : Calls Tryd.prog 110 #[.string x, .string y] w fun r w' => r = .returned (.tuple #[.int .i64 (rankS x y).1, .bool (rankS x y).2]) ∧ w' = w := by
  unfold rankS
  by_cases h1 : Op.bytesLess x.toList y.toList = true
  · rw [if_pos h1]
    go_enter Tryd.func110, Tryd.ntmps110
    go_wp2
    refine bodyPost_ret (v := .tuple #[.int .i64 (-1), .bool true]) (by simp [results, Tryd.results110, go_sem]) rfl ⟨rfl, rfl⟩
  · rw [if_neg h1]
    have h1' : Op.bytesLess x.toList y.toList = false := by simpa using h1
    clear h1
    by_cases h2 : (x.toList == y.toList) = true
    · rw [if_pos h2]
      go_enter Tryd.func110, Tryd.ntmps110
      go_wp2
      refine bodyPost_ret (v := .tuple #[.int .i64 0, .bool true]) (by simp [results, Tryd.results110, go_sem]) rfl ⟨rfl, rfl⟩
    · rw [if_neg h2]
      have h2' : (x.toList == y.toList) = false := by simpa using h2
      clear h2
      go_enter Tryd.func110, Tryd.ntmps110
      go_wp2
      refine bodyPost_ret (v := .tuple #[.int .i64 1, .bool true]) (by simp [results, Tryd.results110, go_sem]) rfl ⟨rfl, rfl⟩
set_option maxRecDepth 100000 in
set_option maxHeartbeats 4000000 in
theorem rank_flt (f g : Int) (w : World) : Calls Tryd.prog 107 #[.float .f64 f.toNat, .float .f64 g.toNat] w fun r w' => r = .returned (.tuple #[.int .i64 (rankF f g).1, .bool (rankF f g).2]) ∧ w' = w := by
  unfold rankF
  generalize f.toNat = x
  generalize g.toNat = y
  rcases hq : FloatKind.f64.format.order x y with _ | (_ | _ | _)
  · go_enter Tryd.func107, Tryd.ntmps107
    go_wp2
    refine bodyPost_ret (v := .tuple #[.int .i64 0, .bool false]) (by simp [results, Tryd.results107, go_sem]) rfl ⟨rfl, rfl⟩
  · go_enter Tryd.func107, Tryd.ntmps107
    go_wp2
    refine bodyPost_ret (v := .tuple #[.int .i64 (-1), .bool true]) (by simp [results, Tryd.results107, go_sem]) rfl ⟨rfl, rfl⟩
  · go_enter Tryd.func107, Tryd.ntmps107
    go_wp2
    refine bodyPost_ret (v := .tuple #[.int .i64 0, .bool true]) (by simp [results, Tryd.results107, go_sem]) rfl ⟨rfl, rfl⟩
  · go_enter Tryd.func107, Tryd.ntmps107
    go_wp2
    refine bodyPost_ret (v := .tuple #[.int .i64 1, .bool true]) (by simp [results, Tryd.results107, go_sem]) rfl ⟨rfl, rfl⟩
set_option maxRecDepth 100000 in
set_option maxHeartbeats 4000000 in
theorem RankM_2 (b : Nat) (k : Int) (t : ByteArray) (a f : Int) (s : ByteArray) (r0 r1 r2 r3 : Int) (pp : Option Addr) (path : List Int) (pc : Nat) (ip : Option Addr) (ic : Nat) (items : List MD) (k' : Int) (t' : ByteArray) (a' f' : Int) (s' : ByteArray) (r0' r1' r2' r3' : Int) (pp' : Option Addr) (path' : List Int) (pc' : Nat) (ip' : Option Addr) (ic' : Nat) (items' : List MD) (w : World) (q : Bool)
    (hr : w.heap[b]? = some (.cells #[.int .i64 k, .string t, .int .i64 a, .int .u64 f, .string s, .int .i64 r0, .int .i64 r1, .int .i64 r2, .int .i64 r3, .slice pp path.length pc, .slice ip items.length ic] 28 (0, 0))) (hs : ∀ W, Below w.heap.size w W → Calls Tryd.prog 104 #[.agg #[.pointer (some ⟨b, 0, none⟩)], .agg #[.int .i64 k', .string t', .int .i64 a', .int .u64 f', .string s', .int .i64 r0', .int .i64 r1', .int .i64 r2', .int .i64 r3', .slice pp' path'.length pc', .slice ip' items'.length ic']] W fun r w' => r = .returned (.bool q) ∧ Below W.heap.size W w') :
    Calls Tryd.prog 103 #[.agg #[.pointer (some ⟨b, 0, none⟩)], .agg #[.int .i64 k', .string t', .int .i64 a', .int .u64 f', .string s', .int .i64 r0', .int .i64 r1', .int .i64 r2', .int .i64 r3', .slice pp' path'.length pc', .slice ip' items'.length ic']] w fun r w' => r = .returned (.tuple #[.int .i64 (if q then (rankP a a').1 else 0), .bool (if q then (rankP a a').2 else false)]) ∧ Below w.heap.size w w' := by
  have HS : Hid _ := hs
  have HR : Hid _ := hr
  have hb : b < w.heap.size := (Array.getElem?_eq_some_iff.1 hr).1
  clear hs hr
  go_enter Tryd.func103, Tryd.ntmps103
  go_wp2_with fail
  refine (HS.out _ (below2 _ _ _)).mono ?_
  rintro r w1 ⟨rfl, b1⟩
  have c0 : w1.cell? ⟨w.heap.size, 0, none⟩ = some (.pointer (some ⟨b, 0, none⟩)) := row_at ((b1.block w.heap.size (by simp; omega)).trans ((Below.heap_alloc _ _ _ (by simp)).trans (heap_alloc_new w (.cells #[.pointer (some ⟨b, 0, none⟩)] 124)))) 0
  have c1 : w1.cell? ⟨b, 2, none⟩ = some (.int .i64 a) := row_at ((b1.block b (by simp; omega)).trans (((below2 w _ _).block b hb).trans HR.out)) 2
  have c2 : w1.cell? ⟨w.heap.size + 1, 2, none⟩ = some (.int .i64 a') := row_at ((b1.block (w.heap.size + 1) (by simp)).trans (heap2_1 w (.cells #[.pointer (some ⟨b, 0, none⟩)] 124) (.cells #[.int .i64 k', .string t', .int .i64 a', .int .u64 f', .string s', .int .i64 r0', .int .i64 r1', .int .i64 r2', .int .i64 r3', .slice pp' path'.length pc', .slice ip' items'.length ic'] 28))) 2
  have q1 : Below w.heap.size w w1 := (below2 _ _ _).trans (b1.mono (by simp; omega))
  clear b1 HS HR
  cases q
  · go_wp2_with fail
    refine bodyPost_ret (v := .tuple #[.int .i64 0, .bool false]) (by simp [results, Tryd.results103, go_sem]) rfl ⟨rfl, q1⟩
  · go_wp2_with (go_at_call 105; refine (rank_int' _ _ _).mono ?_; rintro r w' ⟨rfl, rfl⟩)
    go_quiet (exact Calls.quiet_of_same (rank_int' _ _ _))
    go_wp2
    refine bodyPost_ret (v := .tuple #[.int .i64 (rankP a a').1, .bool (rankP a a').2]) (by simp [results, Tryd.results103, go_sem]) rfl ⟨rfl, ?_⟩
    exact q1.trans ⟨rfl, rfl, rfl, Nat.le_refl _, fun _ _ => rfl⟩
set_option maxRecDepth 100000 in
set_option maxHeartbeats 4000000 in
theorem RankM_4 (b : Nat) (k : Int) (t : ByteArray) (a f : Int) (s : ByteArray) (r0 r1 r2 r3 : Int) (pp : Option Addr) (path : List Int) (pc : Nat) (ip : Option Addr) (ic : Nat) (items : List MD) (k' : Int) (t' : ByteArray) (a' f' : Int) (s' : ByteArray) (r0' r1' r2' r3' : Int) (pp' : Option Addr) (path' : List Int) (pc' : Nat) (ip' : Option Addr) (ic' : Nat) (items' : List MD) (w : World) (q : Bool)
    (hr : w.heap[b]? = some (.cells #[.int .i64 k, .string t, .int .i64 a, .int .u64 f, .string s, .int .i64 r0, .int .i64 r1, .int .i64 r2, .int .i64 r3, .slice pp path.length pc, .slice ip items.length ic] 28 (0, 0))) (hs : ∀ W, Below w.heap.size w W → Calls Tryd.prog 104 #[.agg #[.pointer (some ⟨b, 0, none⟩)], .agg #[.int .i64 k', .string t', .int .i64 a', .int .u64 f', .string s', .int .i64 r0', .int .i64 r1', .int .i64 r2', .int .i64 r3', .slice pp' path'.length pc', .slice ip' items'.length ic']] W fun r w' => r = .returned (.bool q) ∧ Below W.heap.size W w') :
    Calls Tryd.prog 109 #[.agg #[.pointer (some ⟨b, 0, none⟩)], .agg #[.int .i64 k', .string t', .int .i64 a', .int .u64 f', .string s', .int .i64 r0', .int .i64 r1', .int .i64 r2', .int .i64 r3', .slice pp' path'.length pc', .slice ip' items'.length ic']] w fun r w' => r = .returned (.tuple #[.int .i64 (if q then (rankS s s').1 else 0), .bool (if q then (rankS s s').2 else false)]) ∧ Below w.heap.size w w' := by
  have HS : Hid _ := hs
  have HR : Hid _ := hr
  have hb : b < w.heap.size := (Array.getElem?_eq_some_iff.1 hr).1
  clear hs hr
  go_enter Tryd.func109, Tryd.ntmps109
  go_wp2_with fail
  refine (HS.out _ (below2 _ _ _)).mono ?_
  rintro r w1 ⟨rfl, b1⟩
  have c0 : w1.cell? ⟨w.heap.size, 0, none⟩ = some (.pointer (some ⟨b, 0, none⟩)) := row_at ((b1.block w.heap.size (by simp; omega)).trans ((Below.heap_alloc _ _ _ (by simp)).trans (heap_alloc_new w (.cells #[.pointer (some ⟨b, 0, none⟩)] 126)))) 0
  have c1 : w1.cell? ⟨b, 4, none⟩ = some (.string s) := row_at ((b1.block b (by simp; omega)).trans (((below2 w _ _).block b hb).trans HR.out)) 4
  have c2 : w1.cell? ⟨w.heap.size + 1, 4, none⟩ = some (.string s') := row_at ((b1.block (w.heap.size + 1) (by simp)).trans (heap2_1 w (.cells #[.pointer (some ⟨b, 0, none⟩)] 126) (.cells #[.int .i64 k', .string t', .int .i64 a', .int .u64 f', .string s', .int .i64 r0', .int .i64 r1', .int .i64 r2', .int .i64 r3', .slice pp' path'.length pc', .slice ip' items'.length ic'] 28))) 4
  have q1 : Below w.heap.size w w1 := (below2 _ _ _).trans (b1.mono (by simp; omega))
  clear b1 HS HR
  cases q
  · go_wp2_with fail
    refine bodyPost_ret (v := .tuple #[.int .i64 0, .bool false]) (by simp [results, Tryd.results109, go_sem]) rfl ⟨rfl, q1⟩
  · go_wp2_with (go_at_call 110; refine (rank_txt _ _ _).mono ?_; rintro r w' ⟨rfl, rfl⟩)
    go_quiet (exact Calls.quiet_of_same (rank_txt _ _ _))
    go_wp2
    refine bodyPost_ret (v := .tuple #[.int .i64 (rankS s s').1, .bool (rankS s s').2]) (by simp [results, Tryd.results109, go_sem]) rfl ⟨rfl, ?_⟩
    exact q1.trans ⟨rfl, rfl, rfl, Nat.le_refl _, fun _ _ => rfl⟩
set_option maxRecDepth 100000 in
set_option maxHeartbeats 4000000 in
theorem RankM_3 (b : Nat) (k : Int) (t : ByteArray) (a f : Int) (s : ByteArray) (r0 r1 r2 r3 : Int) (pp : Option Addr) (path : List Int) (pc : Nat) (ip : Option Addr) (ic : Nat) (items : List MD) (k' : Int) (t' : ByteArray) (a' f' : Int) (s' : ByteArray) (r0' r1' r2' r3' : Int) (pp' : Option Addr) (path' : List Int) (pc' : Nat) (ip' : Option Addr) (ic' : Nat) (items' : List MD) (w : World) (q : Bool)
    (hr : w.heap[b]? = some (.cells #[.int .i64 k, .string t, .int .i64 a, .int .u64 f, .string s, .int .i64 r0, .int .i64 r1, .int .i64 r2, .int .i64 r3, .slice pp path.length pc, .slice ip items.length ic] 28 (0, 0))) (hs : ∀ W, Below w.heap.size w W → Calls Tryd.prog 104 #[.agg #[.pointer (some ⟨b, 0, none⟩)], .agg #[.int .i64 k', .string t', .int .i64 a', .int .u64 f', .string s', .int .i64 r0', .int .i64 r1', .int .i64 r2', .int .i64 r3', .slice pp' path'.length pc', .slice ip' items'.length ic']] W fun r w' => r = .returned (.bool q) ∧ Below W.heap.size W w') :
    Calls Tryd.prog 106 #[.agg #[.pointer (some ⟨b, 0, none⟩)], .agg #[.int .i64 k', .string t', .int .i64 a', .int .u64 f', .string s', .int .i64 r0', .int .i64 r1', .int .i64 r2', .int .i64 r3', .slice pp' path'.length pc', .slice ip' items'.length ic']] w fun r w' => r = .returned (.tuple #[.int .i64 (if q then (rankF f f').1 else 0), .bool (if q then (rankF f f').2 else false)]) ∧ Below w.heap.size w w' := by
  have HS : Hid _ := hs
  have HR : Hid _ := hr
  have hb : b < w.heap.size := (Array.getElem?_eq_some_iff.1 hr).1
  clear hs hr
  go_enter Tryd.func106, Tryd.ntmps106
  go_wp2_with fail
  refine (HS.out _ (below2 _ _ _)).mono ?_
  rintro r w1 ⟨rfl, b1⟩
  have c0 : w1.cell? ⟨w.heap.size, 0, none⟩ = some (.pointer (some ⟨b, 0, none⟩)) := row_at ((b1.block w.heap.size (by simp; omega)).trans ((Below.heap_alloc _ _ _ (by simp)).trans (heap_alloc_new w (.cells #[.pointer (some ⟨b, 0, none⟩)] 125)))) 0
  have c1 : w1.cell? ⟨b, 3, none⟩ = some (.int .u64 f) := row_at ((b1.block b (by simp; omega)).trans (((below2 w _ _).block b hb).trans HR.out)) 3
  have c2 : w1.cell? ⟨w.heap.size + 1, 3, none⟩ = some (.int .u64 f') := row_at ((b1.block (w.heap.size + 1) (by simp)).trans (heap2_1 w (.cells #[.pointer (some ⟨b, 0, none⟩)] 125) (.cells #[.int .i64 k', .string t', .int .i64 a', .int .u64 f', .string s', .int .i64 r0', .int .i64 r1', .int .i64 r2', .int .i64 r3', .slice pp' path'.length pc', .slice ip' items'.length ic'] 28))) 3
  have q1 : Below w.heap.size w w1 := (below2 _ _ _).trans (b1.mono (by simp; omega))
  clear b1 HS HR
  cases q
  · go_wp2_with fail
    refine bodyPost_ret (v := .tuple #[.int .i64 0, .bool false]) (by simp [results, Tryd.results106, go_sem]) rfl ⟨rfl, q1⟩
  · go_wp2_with (go_at_call 107; refine (rank_flt _ _ _).mono ?_; rintro r w' ⟨rfl, rfl⟩)
    go_quiet (exact Calls.quiet_of_same (rank_flt _ _ _))
    go_wp2
    refine bodyPost_ret (v := .tuple #[.int .i64 (rankF f f').1, .bool (rankF f f').2]) (by simp [results, Tryd.results106, go_sem]) rfl ⟨rfl, ?_⟩
    exact q1.trans ⟨rfl, rfl, rfl, Nat.le_refl _, fun _ _ => rfl⟩
end Go.Proofs.YtnhbpcmiolkllaaDoor
namespace Go.Proofs.YtnhbpcmiolkllaaDoor
section
open Ieee

theorem eB_mono {b c : Nat} (h : eB b < eB c) : b < c := by
  unfold eB at h
  by_cases hb : b < 4503599627370496 <;> by_cases hc : c < 4503599627370496 <;> simp only [hb, hc, if_true, if_false] at h <;> omega
theorem mB_lt_iff (b c : Nat) (h2 : eB b = eB c) : mB b < mB c ↔ b < c := by
  unfold mB; unfold eB at h2
  by_cases hb : b < 4503599627370496 <;> by_cases hc : c < 4503599627370496 <;> simp only [hb, hc, if_true, if_false] at h2 ⊢ <;> omega
theorem me_lt1 (b c d : Nat) (he : eB c = eB b + d) : mB b < mB c * 2 ^ d ↔ b < c := by
  cases d with
  | zero => rw [Nat.pow_zero, Nat.mul_one]; exact mB_lt_iff b c (by omega)
  | succ d =>
    have h1 := mB_ge c (by omega)
    have h2 := mB_lt b
    have h3 : 1 ≤ 2 ^ d := Nat.one_le_two_pow
    have h4 : mB c * 2 ^ (d + 1) = mB c * 2 ^ d * 2 := by rw [Nat.pow_succ, Nat.mul_assoc]
    have h5 : mB c * 1 ≤ mB c * 2 ^ d := Nat.mul_le_mul_left _ h3
    have h6 := eB_mono (b := b) (c := c) (by omega)
    exact ⟨fun _ => h6, fun _ => by omega⟩
theorem me_lt (b c : Nat) : mB b * 2 ^ ((-1074 + (eB b : Int)) - min (-1074 + (eB b : Int)) (-1074 + (eB c : Int))).toNat < mB c * 2 ^ ((-1074 + (eB c : Int)) - min (-1074 + (eB b : Int)) (-1074 + (eB c : Int))).toNat ↔ b < c := by
  have he := me_eq b c
  rcases Nat.le_total (eB b) (eB c) with hl | hl
  · rw [show ((-1074 + (eB b : Int)) - min (-1074 + (eB b : Int)) (-1074 + (eB c : Int))).toNat = 0 by omega, show ((-1074 + (eB c : Int)) - min (-1074 + (eB b : Int)) (-1074 + (eB c : Int))).toNat = eB c - eB b by omega, Nat.pow_zero, Nat.mul_one]
    exact me_lt1 b c _ (by omega)
  · rw [show ((-1074 + (eB c : Int)) - min (-1074 + (eB b : Int)) (-1074 + (eB c : Int))).toNat = 0 by omega, show ((-1074 + (eB b : Int)) - min (-1074 + (eB b : Int)) (-1074 + (eB c : Int))).toNat = eB b - eB c by omega, Nat.pow_zero, Nat.mul_one] at he ⊢
    have h := me_lt1 c b (eB b - eB c) (by omega)
    generalize mB b * 2 ^ (eB b - eB c) = A at he h ⊢
    generalize mB c = B at he h ⊢
    omega
theorem mB_zero (b : Nat) : mB b = 0 ↔ b = 0 := by unfold mB; split <;> omega
theorem signed_form (s : Bool) (A i : Nat) : signed s A i = (if s then -((A * 2 ^ i : Nat) : Int) else ((A * 2 ^ i : Nat) : Int)) := by unfold signed; rw [Nat.shiftLeft_eq]
theorem cmp_int_lt (a b : Int) : compare a b = .lt ↔ a < b := by
  simp only [compare, compareOfLessAndEq]
  by_cases h1 : a < b
  · simp [h1]
  · by_cases h2 : a = b
    · simp [h2]
    · simp [h1, h2]
theorem rk_form (x : Nat) (hx : x < 18446744073709551616) : rk x = (if (x / 9223372036854775808 % 2 == 1) = true then -((x % 9223372036854775808 : Nat) : Int) else ((x % 9223372036854775808 : Nat) : Int)) := by
  have e : (x / 9223372036854775808 % 2 == 1) = decide (9223372036854775808 ≤ x) := by rw [Bool.eq_iff_iff]; simp; omega
  rw [e]
  unfold rk
  by_cases h : x < 9223372036854775808
  · rw [if_pos h, if_neg (by simp; omega)]; omega
  · rw [if_neg h, if_pos (by simp; omega)]; omega
theorem signs_lt (s t : Bool) (A B b c : Nat) (h1 : A < B ↔ b < c) (h2 : A = B ↔ b = c) (hA : A = 0 ↔ b = 0) (hB : B = 0 ↔ c = 0) :
    ((if s = true then -(A : Int) else (A : Int)) < (if t = true then -(B : Int) else (B : Int))) ↔ ((if s = true then -(b : Int) else (b : Int)) < (if t = true then -(c : Int) else (c : Int))) := by
  cases s <;> cases t <;> simp only [if_true, if_false, Bool.false_eq_true] <;> omega
theorem pow_zero_iff (m i : Nat) : m * 2 ^ i = 0 ↔ m = 0 := by
  constructor
  · intro h
    rcases Nat.mul_eq_zero.1 h with z | z
    · exact z
    · exact absurd z (Nat.ne_of_gt (Nat.two_pow_pos _))
  · intro h; rw [h, Nat.zero_mul]
theorem order_lt (x y : Nat) (hx : x < 18446744073709551616) (hy : y < 18446744073709551616) (nx : isNan x = false) (ny : isNan y = false) : double.order x y = some .lt ↔ rk x < rk y := by
  rw [rk_form x hx, rk_form y hy]
  unfold isNan at nx ny
  have nx' := of_decide_eq_false nx
  have ny' := of_decide_eq_false ny
  unfold Format.order
  by_cases h1 : x % 9223372036854775808 < 9218868437227405312
  · rw [read_fin x h1]
    by_cases h2 : y % 9223372036854775808 < 9218868437227405312
    · rw [read_fin y h2]
      simp only [Datum.order, Option.some.injEq]
      rw [cmp_int_lt, signed_form, signed_form]
      exact signs_lt _ _ _ _ _ _ (me_lt _ _) (me_eq _ _) ((pow_zero_iff _ _).trans (mB_zero _)) ((pow_zero_iff _ _).trans (mB_zero _))
    · rw [read_double y, if_neg (by omega), if_neg h2, if_pos (by omega)]
      simp only [Datum.order, Option.some.injEq]
      generalize (x / 9223372036854775808 % 2 == 1) = s
      generalize (y / 9223372036854775808 % 2 == 1) = t
      cases s <;> cases t <;> simp <;> omega
  · rw [read_double x, if_neg (by omega), if_neg h1, if_pos (by omega)]
    by_cases h2 : y % 9223372036854775808 < 9218868437227405312
    · rw [read_fin y h2]
      simp only [Datum.order, Option.some.injEq]
      generalize (x / 9223372036854775808 % 2 == 1) = s
      generalize (y / 9223372036854775808 % 2 == 1) = t
      cases s <;> cases t <;> simp <;> omega
    · rw [read_double y, if_neg (by omega), if_neg h2, if_pos (by omega)]
      have e1 : x % 9223372036854775808 = 9218868437227405312 := by omega
      have e2 : y % 9223372036854775808 = 9218868437227405312 := by omega
      rw [e1, e2]
      generalize (x / 9223372036854775808 % 2 == 1) = s
      generalize (y / 9223372036854775808 % 2 == 1) = t
      simp only [Datum.order, Option.some.injEq]
      cases s <;> cases t <;> decide
theorem order_some (x y : Nat) (nx : isNan x = false) (ny : isNan y = false) : double.order x y ≠ none := fun h => by
  rcases (order_none x y).1 h with e | e
  · rw [nx] at e; cases e
  · rw [ny] at e; cases e
end
/-- Floats are ranked as their ranks are. -/
theorem rankF_rnk (f g : Int) (f0 : 0 ≤ f) (f1 : f ≤ 18446744073709551615) (g0 : 0 ≤ g) (g1 : g ≤ 18446744073709551615) : rankF f g = if isNan f.toNat = true ∨ isNan g.toNat = true then (0, false) else rankP (rnk f) (rnk g) := by
  have e : ∀ z : Int, 0 ≤ z → rnk z = rk z.toNat := fun z hz => by unfold rnk rk; split <;> split <;> omega
  rw [e f f0, e g g0]
  unfold rankF
  show (match Ieee.double.order f.toNat g.toNat with | some .lt => _ | some .gt => _ | some .eq => _ | none => _) = _
  by_cases hn : isNan f.toNat = true ∨ isNan g.toNat = true
  · rw [if_pos hn, (order_none _ _).2 hn]
  · rw [if_neg hn]
    have nx : isNan f.toNat = false := by cases h : isNan f.toNat with | false => rfl | true => exact absurd (.inl h) hn
    have ny : isNan g.toNat = false := by cases h : isNan g.toNat with | false => rfl | true => exact absurd (.inr h) hn
    have h1 := order_lt f.toNat g.toNat (by omega) (by omega) nx ny
    have h2 := order_eq f.toNat g.toNat (by omega) (by omega) nx ny
    have h3 := order_some f.toNat g.toNat nx ny
    unfold rankP rankI
    rcases hq : Ieee.double.order f.toNat g.toNat with _ | (_ | _ | _)
    · exact absurd hq h3
    · rw [if_pos (h1.1 hq)]
    · have a2 := h2.1 hq
      rw [if_neg (by omega), if_neg (by omega)]
    · have a1 : ¬ rk f.toNat < rk g.toNat := fun h => by rw [h1.2 h] at hq; cases hq
      have a2 : ¬ rk f.toNat = rk g.toNat := fun h => by rw [h2.2 h] at hq; cases hq
      rw [if_neg a1, if_pos (by omega)]
end Go.Proofs.YtnhbpcmiolkllaaDoor
namespace Go.Proofs.YtnhbpcmiolkllaaDoor
open Go.RowKit
attribute [local go_sem] refold2 cell3_0 cell3_1 b28_0 b28_01

set_option maxRecDepth 100000 in
set_option maxHeartbeats 4000000 in
theorem order_any (a c : Int) (w : World) : Calls Tryd.prog 45 #[.int .i64 a, .int .i64 c] w fun r w' => r = .returned (.int .i64 (rankI a c)) ∧ w' = w := by
  unfold rankI
  by_cases h1 : a < c
  · rw [if_pos h1]
    go_enter Tryd.func45, Tryd.ntmps45
    go_wp2
    go_ret
    exact ⟨rfl, rfl⟩
  · rw [if_neg h1]
    by_cases h2 : c < a
    · rw [if_pos h2]
      go_enter Tryd.func45, Tryd.ntmps45
      go_wp2
      go_ret
      exact ⟨rfl, rfl⟩
    · rw [if_neg h2]
      obtain rfl : a = c := by omega
      go_enter Tryd.func45, Tryd.ntmps45
      go_wp2
      go_ret
      exact ⟨rfl, rfl⟩
set_option maxRecDepth 100000 in
set_option maxHeartbeats 4000000 in
theorem ordered_any (x : MD) (w : World) : Calls Tryd.prog 20 #[x.val] w fun r w' => r = .returned (.bool (x.h.k == 2 || x.h.k == 3 || x.h.k == 4)) ∧ Below w.heap.size w w' := by
  obtain ⟨⟨k, t, a, f, s, r0, r1, r2, r3, pp, path, pc⟩, ip, ic, items⟩ := x
  simp only [MD.val, D]
  by_cases h2 : k = 2
  · subst h2
    go_enter Tryd.func20, Tryd.ntmps20
    go_wp2
    go_ret
    exact ⟨rfl, below1 _ _⟩
  · by_cases h3 : k = 3
    · subst h3
      go_enter Tryd.func20, Tryd.ntmps20
      go_wp2
      go_ret
      exact ⟨rfl, below1 _ _⟩
    · have e2 : (k == 2) = false := by simpa using h2
      have e3 : (k == 3) = false := by simpa using h3
      rw [e2, e3]
      go_enter Tryd.func20, Tryd.ntmps20
      go_wp2
      go_ret
      exact ⟨by simp, below1 _ _⟩
set_option maxRecDepth 100000 in
set_option maxHeartbeats 4000000 in
theorem refRank_2 (n : Nat) (t : ByteArray) (a f : Int) (s : ByteArray) (r0 r1 r2 r3 : Int) (pp : Option Addr) (path : List Int) (pc : Nat) (ip : Option Addr) (ic : Nat) (items : List MD) (k' : Int) (t' : ByteArray) (a' f' : Int) (s' : ByteArray) (r0' r1' r2' r3' : Int) (pp' : Option Addr) (path' : List Int) (pc' : Nat) (ip' : Option Addr) (ic' : Nat) (items' : List MD) (w : World) (hy : MD.In w.heap.size w n ⟨⟨k', t', a', f', s', r0', r1', r2', r3', pp', path', pc'⟩, ip', ic', items'⟩) :
    Calls Tryd.prog 21 #[.agg #[.int .i64 2, .string t, .int .i64 a, .int .u64 f, .string s, .int .i64 r0, .int .i64 r1, .int .i64 r2, .int .i64 r3, .slice pp path.length pc, .slice ip items.length ic], .agg #[.int .i64 k', .string t', .int .i64 a', .int .u64 f', .string s', .int .i64 r0', .int .i64 r1', .int .i64 r2', .int .i64 r3', .slice pp' path'.length pc', .slice ip' items'.length ic']] w fun r w' => r = .returned (.tuple #[.int .i64 (if (decide (2 = k' ∧ t = t') && MD.right n ⟨⟨k', t', a', f', s', r0', r1', r2', r3', pp', path', pc'⟩, ip', ic', items'⟩) = true then (rankP a a').1 else 0), .bool (if (decide (2 = k' ∧ t = t') && MD.right n ⟨⟨k', t', a', f', s', r0', r1', r2', r3', pp', path', pc'⟩, ip', ic', items'⟩) = true then (rankP a a').2 else false)]) ∧ Below w.heap.size w w' := by
  have HRY : Hid (∀ W, Below w.heap.size w W → Calls Tryd.prog 11 #[.agg #[.int .i64 k', .string t', .int .i64 a', .int .u64 f', .string s', .int .i64 r0', .int .i64 r1', .int .i64 r2', .int .i64 r3', .slice pp' path'.length pc', .slice ip' items'.length ic']] W fun r w' => r = .returned (.bool (MD.right n ⟨⟨k', t', a', f', s', r0', r1', r2', r3', pp', path', pc'⟩, ip', ic', items'⟩)) ∧ Below W.heap.size W w') := fun W hW => refRightAny n ⟨⟨k', t', a', f', s', r0', r1', r2', r3', pp', path', pc'⟩, ip', ic', items'⟩ W (hy.later (Nat.le_refl _) hW)
  have HO : Hid (∀ W, Calls Tryd.prog 44 #[.agg #[.int .i64 2, .string t, .int .i64 a, .int .u64 f, .string s, .int .i64 r0, .int .i64 r1, .int .i64 r2, .int .i64 r3, .slice pp path.length pc, .slice ip items.length ic], .agg #[.int .i64 k', .string t', .int .i64 a', .int .u64 f', .string s', .int .i64 r0', .int .i64 r1', .int .i64 r2', .int .i64 r3', .slice pp' path'.length pc', .slice ip' items'.length ic']] W fun r w' => r = .returned (.bool (decide (2 = k' ∧ t = t'))) ∧ Below W.heap.size W w') := fun W => one_any 2 k' t t' a a' f f' r0 r0' r1 r1' r2 r2' r3 r3' s s' pp pp' ip ip' path.length path'.length pc pc' items.length items'.length ic ic' W
  clear hy
  generalize MD.right n ⟨⟨k', t', a', f', s', r0', r1', r2', r3', pp', path', pc'⟩, ip', ic', items'⟩ = p at HRY ⊢
  generalize decide (2 = k' ∧ t = t') = l at HO ⊢
  obtain ⟨V, hV⟩ : ∃ V, V = Value.tuple #[.int .i64 (if (l && p) = true then (rankP a a').1 else 0), .bool (if (l && p) = true then (rankP a a').2 else false)] := ⟨_, rfl⟩
  rw [← hV]
  have HV : Hid _ := hV
  clear hV
  obtain ⟨W2, hW2⟩ : ∃ W2, W2 = (w.alloc (.cells #[.int .i64 2, .string t, .int .i64 a, .int .u64 f, .string s, .int .i64 r0, .int .i64 r1, .int .i64 r2, .int .i64 r3, .slice pp path.length pc, .slice ip items.length ic] 28)).alloc (.cells #[.int .i64 k', .string t', .int .i64 a', .int .u64 f', .string s', .int .i64 r0', .int .i64 r1', .int .i64 r2', .int .i64 r3', .slice pp' path'.length pc', .slice ip' items'.length ic'] 28) := ⟨_, rfl⟩
  have HK : Hid (∀ W, Below W2.heap.size W2 W → Below w.heap.size w W ∧ (∀ i, W.cell? ⟨w.heap.size, i, none⟩ = (#[.int .i64 2, .string t, .int .i64 a, .int .u64 f, .string s, .int .i64 r0, .int .i64 r1, .int .i64 r2, .int .i64 r3, .slice pp path.length pc, .slice ip items.length ic] : Array Value)[i]?) ∧ ∀ i, W.cell? ⟨w.heap.size + 1, i, none⟩ = (#[.int .i64 k', .string t', .int .i64 a', .int .u64 f', .string s', .int .i64 r0', .int .i64 r1', .int .i64 r2', .int .i64 r3', .slice pp' path'.length pc', .slice ip' items'.length ic'] : Array Value)[i]?) := fun W hW => by rw [hW2] at hW; exact kept2 hW
  have hz2 : W2.heap.size = w.heap.size + 2 := by rw [hW2]; simp
  have hB2 : Below w.heap.size w W2 := by rw [hW2]; exact below2 _ _ _
  go_enter Tryd.func21, Tryd.ntmps21
  go_wp2_with fail
  rw [← hW2]
  clear hW2
  refine (HRY.out _ hB2).mono ?_
  rintro r w3 ⟨rfl, b3⟩
  have HB3 : Hid (Below W2.heap.size W2 w3) := b3
  have hc3 := (HK.out _ HB3.out).2.1
  have hd3 := (HK.out _ HB3.out).2.2
  clear b3
  go_wp2_with fail
  refine (HO.out _).mono ?_
  rintro r w4 ⟨rfl, b4⟩
  have HB4 : Hid (Below W2.heap.size W2 w4) := HB3.out.trans (b4.mono HB3.out.size)
  have hc4 := (HK.out _ HB4.out).2.1
  have hd4 := (HK.out _ HB4.out).2.2
  clear b4 hc3 hd3
  cases p
  · go_wp2_with fail
    exact bodyPost_ret (v := .tuple #[.int .i64 0, .bool false]) (by simp [results, Tryd.results21, go_sem]) rfl ⟨by rw [HV.out]; simp, (HK.out _ HB4.out).1⟩
  · cases l
    · go_wp2_with fail
      exact bodyPost_ret (v := .tuple #[.int .i64 0, .bool false]) (by simp [results, Tryd.results21, go_sem]) rfl ⟨by rw [HV.out]; simp, (HK.out _ HB4.out).1⟩
    · go_wp2_with (go_at_call 45; refine (order_any _ _ _).mono ?_; rintro r w' ⟨rfl, rfl⟩)
      exact bodyPost_ret (v := .tuple #[.int .i64 (rankI a a'), .bool true]) (by simp [results, Tryd.results21, go_sem]) rfl ⟨by rw [HV.out]; simp [rankP], (HK.out _ HB4.out).1⟩
set_option maxRecDepth 100000 in
set_option maxHeartbeats 4000000 in
theorem refRank_4 (n : Nat) (t : ByteArray) (a f : Int) (s : ByteArray) (r0 r1 r2 r3 : Int) (pp : Option Addr) (path : List Int) (pc : Nat) (ip : Option Addr) (ic : Nat) (items : List MD) (k' : Int) (t' : ByteArray) (a' f' : Int) (s' : ByteArray) (r0' r1' r2' r3' : Int) (pp' : Option Addr) (path' : List Int) (pc' : Nat) (ip' : Option Addr) (ic' : Nat) (items' : List MD) (w : World) (hy : MD.In w.heap.size w n ⟨⟨k', t', a', f', s', r0', r1', r2', r3', pp', path', pc'⟩, ip', ic', items'⟩) :
    Calls Tryd.prog 21 #[.agg #[.int .i64 4, .string t, .int .i64 a, .int .u64 f, .string s, .int .i64 r0, .int .i64 r1, .int .i64 r2, .int .i64 r3, .slice pp path.length pc, .slice ip items.length ic], .agg #[.int .i64 k', .string t', .int .i64 a', .int .u64 f', .string s', .int .i64 r0', .int .i64 r1', .int .i64 r2', .int .i64 r3', .slice pp' path'.length pc', .slice ip' items'.length ic']] w fun r w' => r = .returned (.tuple #[.int .i64 (if (decide (4 = k' ∧ t = t') && MD.right n ⟨⟨k', t', a', f', s', r0', r1', r2', r3', pp', path', pc'⟩, ip', ic', items'⟩) = true then (rankS s s').1 else 0), .bool (if (decide (4 = k' ∧ t = t') && MD.right n ⟨⟨k', t', a', f', s', r0', r1', r2', r3', pp', path', pc'⟩, ip', ic', items'⟩) = true then (rankS s s').2 else false)]) ∧ Below w.heap.size w w' := by
  have HRY : Hid (∀ W, Below w.heap.size w W → Calls Tryd.prog 11 #[.agg #[.int .i64 k', .string t', .int .i64 a', .int .u64 f', .string s', .int .i64 r0', .int .i64 r1', .int .i64 r2', .int .i64 r3', .slice pp' path'.length pc', .slice ip' items'.length ic']] W fun r w' => r = .returned (.bool (MD.right n ⟨⟨k', t', a', f', s', r0', r1', r2', r3', pp', path', pc'⟩, ip', ic', items'⟩)) ∧ Below W.heap.size W w') := fun W hW => refRightAny n ⟨⟨k', t', a', f', s', r0', r1', r2', r3', pp', path', pc'⟩, ip', ic', items'⟩ W (hy.later (Nat.le_refl _) hW)
  have HO : Hid (∀ W, Calls Tryd.prog 44 #[.agg #[.int .i64 4, .string t, .int .i64 a, .int .u64 f, .string s, .int .i64 r0, .int .i64 r1, .int .i64 r2, .int .i64 r3, .slice pp path.length pc, .slice ip items.length ic], .agg #[.int .i64 k', .string t', .int .i64 a', .int .u64 f', .string s', .int .i64 r0', .int .i64 r1', .int .i64 r2', .int .i64 r3', .slice pp' path'.length pc', .slice ip' items'.length ic']] W fun r w' => r = .returned (.bool (decide (4 = k' ∧ t = t'))) ∧ Below W.heap.size W w') := fun W => one_any 4 k' t t' a a' f f' r0 r0' r1 r1' r2 r2' r3 r3' s s' pp pp' ip ip' path.length path'.length pc pc' items.length items'.length ic ic' W
  clear hy
  generalize MD.right n ⟨⟨k', t', a', f', s', r0', r1', r2', r3', pp', path', pc'⟩, ip', ic', items'⟩ = p at HRY ⊢
  generalize decide (4 = k' ∧ t = t') = l at HO ⊢
  obtain ⟨V, hV⟩ : ∃ V, V = Value.tuple #[.int .i64 (if (l && p) = true then (rankS s s').1 else 0), .bool (if (l && p) = true then (rankS s s').2 else false)] := ⟨_, rfl⟩
  rw [← hV]
  have HV : Hid _ := hV
  clear hV
  obtain ⟨W2, hW2⟩ : ∃ W2, W2 = (w.alloc (.cells #[.int .i64 4, .string t, .int .i64 a, .int .u64 f, .string s, .int .i64 r0, .int .i64 r1, .int .i64 r2, .int .i64 r3, .slice pp path.length pc, .slice ip items.length ic] 28)).alloc (.cells #[.int .i64 k', .string t', .int .i64 a', .int .u64 f', .string s', .int .i64 r0', .int .i64 r1', .int .i64 r2', .int .i64 r3', .slice pp' path'.length pc', .slice ip' items'.length ic'] 28) := ⟨_, rfl⟩
  have HK : Hid (∀ W, Below W2.heap.size W2 W → Below w.heap.size w W ∧ (∀ i, W.cell? ⟨w.heap.size, i, none⟩ = (#[.int .i64 4, .string t, .int .i64 a, .int .u64 f, .string s, .int .i64 r0, .int .i64 r1, .int .i64 r2, .int .i64 r3, .slice pp path.length pc, .slice ip items.length ic] : Array Value)[i]?) ∧ ∀ i, W.cell? ⟨w.heap.size + 1, i, none⟩ = (#[.int .i64 k', .string t', .int .i64 a', .int .u64 f', .string s', .int .i64 r0', .int .i64 r1', .int .i64 r2', .int .i64 r3', .slice pp' path'.length pc', .slice ip' items'.length ic'] : Array Value)[i]?) := fun W hW => by rw [hW2] at hW; exact kept2 hW
  have hz2 : W2.heap.size = w.heap.size + 2 := by rw [hW2]; simp
  have hB2 : Below w.heap.size w W2 := by rw [hW2]; exact below2 _ _ _
  go_enter Tryd.func21, Tryd.ntmps21
  go_wp2_with fail
  rw [← hW2]
  clear hW2
  refine (HRY.out _ hB2).mono ?_
  rintro r w3 ⟨rfl, b3⟩
  have HB3 : Hid (Below W2.heap.size W2 w3) := b3
  have hc3 := (HK.out _ HB3.out).2.1
  have hd3 := (HK.out _ HB3.out).2.2
  clear b3
  go_wp2_with fail
  refine (HO.out _).mono ?_
  rintro r w4 ⟨rfl, b4⟩
  have HB4 : Hid (Below W2.heap.size W2 w4) := HB3.out.trans (b4.mono HB3.out.size)
  have hc4 := (HK.out _ HB4.out).2.1
  have hd4 := (HK.out _ HB4.out).2.2
  clear b4 hc3 hd3
  cases p
  · go_wp2_with fail
    exact bodyPost_ret (v := .tuple #[.int .i64 0, .bool false]) (by simp [results, Tryd.results21, go_sem]) rfl ⟨by rw [HV.out]; simp, (HK.out _ HB4.out).1⟩
  · cases l
    · go_wp2_with fail
      exact bodyPost_ret (v := .tuple #[.int .i64 0, .bool false]) (by simp [results, Tryd.results21, go_sem]) rfl ⟨by rw [HV.out]; simp, (HK.out _ HB4.out).1⟩
    · by_cases h1 : Op.bytesLess s.toList s'.toList = true
      · go_wp2_with fail
        exact bodyPost_ret (v := .tuple #[.int .i64 (-1), .bool true]) (by simp [results, Tryd.results21, go_sem]) rfl ⟨by rw [HV.out]; simp [rankS, *], (HK.out _ HB4.out).1⟩
      · have h1' : Op.bytesLess s.toList s'.toList = false := by simpa using h1
        clear h1
        by_cases h2 : (s.toList == s'.toList) = true
        · go_wp2_with fail
          exact bodyPost_ret (v := .tuple #[.int .i64 0, .bool true]) (by simp [results, Tryd.results21, go_sem]) rfl ⟨by rw [HV.out]; simp [rankS, *], (HK.out _ HB4.out).1⟩
        · have h2' : (s.toList == s'.toList) = false := by simpa using h2
          clear h2
          go_wp2_with fail
          exact bodyPost_ret (v := .tuple #[.int .i64 1, .bool true]) (by simp [results, Tryd.results21, go_sem]) rfl ⟨by rw [HV.out]; simp [rankS, *], (HK.out _ HB4.out).1⟩
set_option maxRecDepth 100000 in
set_option maxHeartbeats 4000000 in
theorem refRank_3 (n : Nat) (t : ByteArray) (a f : Int) (s : ByteArray) (r0 r1 r2 r3 : Int) (pp : Option Addr) (path : List Int) (pc : Nat) (ip : Option Addr) (ic : Nat) (items : List MD) (k' : Int) (t' : ByteArray) (a' f' : Int) (s' : ByteArray) (r0' r1' r2' r3' : Int) (pp' : Option Addr) (path' : List Int) (pc' : Nat) (ip' : Option Addr) (ic' : Nat) (items' : List MD) (w : World) (hy : MD.In w.heap.size w n ⟨⟨k', t', a', f', s', r0', r1', r2', r3', pp', path', pc'⟩, ip', ic', items'⟩) (f0 : 0 ≤ f) (f1 : f ≤ 18446744073709551615) (g0 : 0 ≤ f') (g1 : f' ≤ 18446744073709551615) :
    Calls Tryd.prog 21 #[.agg #[.int .i64 3, .string t, .int .i64 a, .int .u64 f, .string s, .int .i64 r0, .int .i64 r1, .int .i64 r2, .int .i64 r3, .slice pp path.length pc, .slice ip items.length ic], .agg #[.int .i64 k', .string t', .int .i64 a', .int .u64 f', .string s', .int .i64 r0', .int .i64 r1', .int .i64 r2', .int .i64 r3', .slice pp' path'.length pc', .slice ip' items'.length ic']] w fun r w' => r = .returned (.tuple #[.int .i64 (if (decide (3 = k' ∧ t = t') && MD.right n ⟨⟨k', t', a', f', s', r0', r1', r2', r3', pp', path', pc'⟩, ip', ic', items'⟩) = true then (rankF f f').1 else 0), .bool (if (decide (3 = k' ∧ t = t') && MD.right n ⟨⟨k', t', a', f', s', r0', r1', r2', r3', pp', path', pc'⟩, ip', ic', items'⟩) = true then (rankF f f').2 else false)]) ∧ Below w.heap.size w w' := by
  have HRY : Hid (∀ W, Below w.heap.size w W → Calls Tryd.prog 11 #[.agg #[.int .i64 k', .string t', .int .i64 a', .int .u64 f', .string s', .int .i64 r0', .int .i64 r1', .int .i64 r2', .int .i64 r3', .slice pp' path'.length pc', .slice ip' items'.length ic']] W fun r w' => r = .returned (.bool (MD.right n ⟨⟨k', t', a', f', s', r0', r1', r2', r3', pp', path', pc'⟩, ip', ic', items'⟩)) ∧ Below W.heap.size W w') := fun W hW => refRightAny n ⟨⟨k', t', a', f', s', r0', r1', r2', r3', pp', path', pc'⟩, ip', ic', items'⟩ W (hy.later (Nat.le_refl _) hW)
  have HO : Hid (∀ W, Calls Tryd.prog 44 #[.agg #[.int .i64 3, .string t, .int .i64 a, .int .u64 f, .string s, .int .i64 r0, .int .i64 r1, .int .i64 r2, .int .i64 r3, .slice pp path.length pc, .slice ip items.length ic], .agg #[.int .i64 k', .string t', .int .i64 a', .int .u64 f', .string s', .int .i64 r0', .int .i64 r1', .int .i64 r2', .int .i64 r3', .slice pp' path'.length pc', .slice ip' items'.length ic']] W fun r w' => r = .returned (.bool (decide (3 = k' ∧ t = t'))) ∧ Below W.heap.size W w') := fun W => one_any 3 k' t t' a a' f f' r0 r0' r1 r1' r2 r2' r3 r3' s s' pp pp' ip ip' path.length path'.length pc pc' items.length items'.length ic ic' W
  have CX : Hid (∀ W, Calls Tryd.prog 46 #[.int .u64 f] W fun r w' => r = .returned (.bool (isNan f.toNat)) ∧ w' = W) := fun W => refIsNaN_any f W f0 f1
  have CY : Hid (∀ W, Calls Tryd.prog 46 #[.int .u64 f'] W fun r w' => r = .returned (.bool (isNan f'.toNat)) ∧ w' = W) := fun W => refIsNaN_any f' W g0 g1
  have RX : Hid (∀ W, Calls Tryd.prog 47 #[.int .u64 f] W fun r w' => r = .returned (.int .i64 (rnk f)) ∧ w' = W) := fun W => rank_any f W f0 f1
  have RY : Hid (∀ W, Calls Tryd.prog 47 #[.int .u64 f'] W fun r w' => r = .returned (.int .i64 (rnk f')) ∧ w' = W) := fun W => rank_any f' W g0 g1
  have RO : Hid (∀ x y W, Calls Tryd.prog 45 #[.int .i64 x, .int .i64 y] W fun r w' => r = .returned (.int .i64 (rankI x y)) ∧ w' = W) := order_any
  rw [rankF_rnk f f' f0 f1 g0 g1]
  clear f0 f1 g0 g1
  generalize isNan f.toNat = nx at CX ⊢
  generalize isNan f'.toNat = ny at CY ⊢
  generalize rnk f = x at RX ⊢
  generalize rnk f' = y at RY ⊢
  clear hy
  generalize MD.right n ⟨⟨k', t', a', f', s', r0', r1', r2', r3', pp', path', pc'⟩, ip', ic', items'⟩ = p at HRY ⊢
  generalize decide (3 = k' ∧ t = t') = l at HO ⊢
  obtain ⟨V, hV⟩ : ∃ V, V = Value.tuple #[.int .i64 (if (l && p) = true then (if nx = true ∨ ny = true then (0, false) else rankP x y).1 else 0), .bool (if (l && p) = true then (if nx = true ∨ ny = true then (0, false) else rankP x y).2 else false)] := ⟨_, rfl⟩
  rw [← hV]
  have HV : Hid _ := hV
  clear hV
  obtain ⟨W2, hW2⟩ : ∃ W2, W2 = (w.alloc (.cells #[.int .i64 3, .string t, .int .i64 a, .int .u64 f, .string s, .int .i64 r0, .int .i64 r1, .int .i64 r2, .int .i64 r3, .slice pp path.length pc, .slice ip items.length ic] 28)).alloc (.cells #[.int .i64 k', .string t', .int .i64 a', .int .u64 f', .string s', .int .i64 r0', .int .i64 r1', .int .i64 r2', .int .i64 r3', .slice pp' path'.length pc', .slice ip' items'.length ic'] 28) := ⟨_, rfl⟩
  have HK : Hid (∀ W, Below W2.heap.size W2 W → Below w.heap.size w W ∧ (∀ i, W.cell? ⟨w.heap.size, i, none⟩ = (#[.int .i64 3, .string t, .int .i64 a, .int .u64 f, .string s, .int .i64 r0, .int .i64 r1, .int .i64 r2, .int .i64 r3, .slice pp path.length pc, .slice ip items.length ic] : Array Value)[i]?) ∧ ∀ i, W.cell? ⟨w.heap.size + 1, i, none⟩ = (#[.int .i64 k', .string t', .int .i64 a', .int .u64 f', .string s', .int .i64 r0', .int .i64 r1', .int .i64 r2', .int .i64 r3', .slice pp' path'.length pc', .slice ip' items'.length ic'] : Array Value)[i]?) := fun W hW => by rw [hW2] at hW; exact kept2 hW
  have hz2 : W2.heap.size = w.heap.size + 2 := by rw [hW2]; simp
  have hB2 : Below w.heap.size w W2 := by rw [hW2]; exact below2 _ _ _
  go_enter Tryd.func21, Tryd.ntmps21
  go_wp2_with fail
  rw [← hW2]
  clear hW2
  refine (HRY.out _ hB2).mono ?_
  rintro r w3 ⟨rfl, b3⟩
  have HB3 : Hid (Below W2.heap.size W2 w3) := b3
  have hc3 := (HK.out _ HB3.out).2.1
  have hd3 := (HK.out _ HB3.out).2.2
  clear b3
  go_wp2_with fail
  refine (HO.out _).mono ?_
  rintro r w4 ⟨rfl, b4⟩
  have HB4 : Hid (Below W2.heap.size W2 w4) := HB3.out.trans (b4.mono HB3.out.size)
  have hc4 := (HK.out _ HB4.out).2.1
  have hd4 := (HK.out _ HB4.out).2.2
  clear b4 hc3 hd3
  cases p
  · go_wp2_with fail
    exact bodyPost_ret (v := .tuple #[.int .i64 0, .bool false]) (by simp [results, Tryd.results21, go_sem]) rfl ⟨by rw [HV.out]; simp, (HK.out _ HB4.out).1⟩
  · cases l
    · go_wp2_with fail
      exact bodyPost_ret (v := .tuple #[.int .i64 0, .bool false]) (by simp [results, Tryd.results21, go_sem]) rfl ⟨by rw [HV.out]; simp, (HK.out _ HB4.out).1⟩
    · go_wp2_with fail
      refine (CX.out _).mono ?_
      rintro r w5 ⟨rfl, h5⟩
      subst w5
      go_wp2_with fail
      refine (CY.out _).mono ?_
      rintro r w6 ⟨rfl, h6⟩
      subst w6
      cases nx
      · cases ny
        · go_wp2_with fail
          refine wp_region_noPanic ?_
          refine wp_region_held (S := fun W => (∀ j, W.cell? ⟨w.heap.size, j, none⟩ = (#[.int .i64 3, .string t, .int .i64 a, .int .u64 f, .string s, .int .i64 r0, .int .i64 r1, .int .i64 r2, .int .i64 r3, .slice pp path.length pc, .slice ip items.length ic] : Array Value)[j]?) ∧ ∀ j, W.cell? ⟨w.heap.size + 1, j, none⟩ = (#[.int .i64 k', .string t', .int .i64 a', .int .u64 f', .string s', .int .i64 r0', .int .i64 r1', .int .i64 r2', .int .i64 r3', .slice pp' path'.length pc', .slice ip' items'.length ic'] : Array Value)[j]?) (by kernel_rfl) ?_
          obtain ⟨W4, hW4⟩ : ∃ W4, W4 = w4.drew := ⟨_, rfl⟩
          have e4 : ({ w4 with drawn := w4.drawn + 1 } : World) = W4 := hW4.symm
          rw [e4]
          have HBW : Hid (Below W2.heap.size W2 W4) := by rw [hW4]; exact HB4.out.drew
          have hS : (∀ j, W4.cell? ⟨w.heap.size, j, none⟩ = (#[.int .i64 3, .string t, .int .i64 a, .int .u64 f, .string s, .int .i64 r0, .int .i64 r1, .int .i64 r2, .int .i64 r3, .slice pp path.length pc, .slice ip items.length ic] : Array Value)[j]?) ∧ ∀ j, W4.cell? ⟨w.heap.size + 1, j, none⟩ = (#[.int .i64 k', .string t', .int .i64 a', .int .u64 f', .string s', .int .i64 r0', .int .i64 r1', .int .i64 r2', .int .i64 r3', .slice pp' path'.length pc', .slice ip' items'.length ic'] : Array Value)[j]? := ⟨(HK.out _ HBW.out).2.1, (HK.out _ HBW.out).2.2⟩
          clear e4 hW4 hc4 hd4
          refine wpAnyH_take (i := 0) (v := .pointer (some ⟨w.heap.size, 3, none⟩)) rfl (by kernel_rfl) (by kernel_rfl) (by kernel_rfl) (fun _ _ _ h => h) (Or.inl ⟨by rfl, ?r⟩) hS ?_
          case r => intro W hW; simp [go_sem, execOp, Act.eval]
          simp only [List.getElem_toArray, List.getElem_cons_zero, Act.put, List.setIfInBounds_toArray, List.set_cons_succ, List.set_cons_zero]
          refine wpAnyH_take (i := 1) (v := .int .u64 f) rfl (by kernel_rfl) (by kernel_rfl) (by kernel_rfl) (fun _ _ _ h => h) (Or.inl ⟨by rfl, ?r⟩) hS ?_
          case r => intro W hW; simp [go_sem, execOp, Act.eval, hW.1]
          simp only [List.getElem_toArray, List.getElem_cons_zero, List.getElem_cons_succ, Act.put, List.setIfInBounds_toArray, List.set_cons_succ, List.set_cons_zero]
          refine wpAnyH_take (i := 3) (v := .pointer (some ⟨w.heap.size + 1, 3, none⟩)) rfl (by kernel_rfl) (by kernel_rfl) (by kernel_rfl) (fun _ _ _ h => h) (Or.inl ⟨by rfl, ?r⟩) hS ?_
          case r => intro W hW; simp [go_sem, execOp, Act.eval]
          simp only [List.getElem_toArray, List.getElem_cons_zero, List.getElem_cons_succ, Act.put, List.setIfInBounds_toArray, List.set_cons_succ, List.set_cons_zero]
          refine wpAnyH_take (i := 4) (v := .int .u64 f') rfl (by kernel_rfl) (by kernel_rfl) (by kernel_rfl) (fun _ _ _ h => h) (Or.inl ⟨by rfl, ?r⟩) hS ?_
          case r => intro W hW; simp [go_sem, execOp, Act.eval, hW.2]
          simp only [List.getElem_toArray, List.getElem_cons_zero, List.getElem_cons_succ, Act.put, List.setIfInBounds_toArray, List.set_cons_succ, List.set_cons_zero]
          refine wpAnyH_all (rs := [2]) (by kernel_rfl) (by simp) (fun i2 hi2 => ?_)
          obtain rfl : i2 = 2 := by simpa using hi2
          clear hi2
          refine wpOp_step rfl (fun K hK => ite_yes rfl ?_)
          simp only [List.getElem_toArray, List.getElem_cons_zero, List.getElem_cons_succ]
          go_simp
          refine (RX.out _).mono ?_
          rintro e v5 ⟨rfl, hv5⟩
          subst v5
          go_simp
          refine hK _ _ ⟨hS, ?_⟩
          clear hK K
          refine wpAnyH_all (rs := [5]) (by kernel_rfl) (by simp) (fun i2 hi2 => ?_)
          obtain rfl : i2 = 5 := by simpa using hi2
          clear hi2
          refine wpOp_step rfl (fun K hK => ite_yes rfl ?_)
          simp only [List.getElem_toArray, List.getElem_cons_zero, List.getElem_cons_succ]
          go_simp
          refine (RY.out _).mono ?_
          rintro e v6 ⟨rfl, hv6⟩
          subst v6
          go_simp
          refine hK _ _ ⟨hS, ?_⟩
          clear hK K
          refine wpAnyH_all (rs := [6]) (by kernel_rfl) (by simp) (fun i2 hi2 => ?_)
          obtain rfl : i2 = 6 := by simpa using hi2
          clear hi2
          refine wpOp_step rfl (fun K hK => ite_yes rfl ?_)
          simp only [List.getElem_toArray, List.getElem_cons_zero, List.getElem_cons_succ]
          go_simp
          refine (RO.out _ _ _).mono ?_
          rintro e v7 ⟨rfl, hv7⟩
          subst v7
          go_simp
          refine hK _ _ ⟨hS, ?_⟩
          clear hK K
          refine wpAnyH_take (i := 7) (v := .int .i64 (rankI x y)) rfl (by kernel_rfl) (by kernel_rfl) (by kernel_rfl) (fun _ _ _ h => h) (Or.inl ⟨by rfl, ?r⟩) hS ?_
          case r => intro W hW; simp [go_sem, execOp, Act.eval]
          simp only [List.getElem_toArray, List.getElem_cons_zero, List.getElem_cons_succ, Act.put, List.setIfInBounds_toArray, List.set_cons_succ, List.set_cons_zero]
          refine wpAnyH_take (i := 8) (v := .bool true) rfl (by kernel_rfl) (by kernel_rfl) (by kernel_rfl) (fun _ _ _ h => h) (Or.inl ⟨by rfl, ?r⟩) hS ?_
          case r => intro W hW; simp [go_sem, execOp, Act.eval]
          simp only [List.getElem_toArray, List.getElem_cons_zero, List.getElem_cons_succ, Act.put, List.setIfInBounds_toArray, List.set_cons_succ, List.set_cons_zero]
          refine wpAnyH_done (by kernel_rfl) ?_ _
          refine NoPanic.normal ?_
          try simp only [Act.put]
          go_wp2_with fail
          exact bodyPost_ret (v := .tuple #[.int .i64 (rankI x y), .bool true]) (by simp [results, Tryd.results21, go_sem]) rfl ⟨by rw [HV.out]; simp [rankP], (HK.out _ HBW.out).1⟩
        · go_wp2_with fail
          exact bodyPost_ret (v := .tuple #[.int .i64 0, .bool false]) (by simp [results, Tryd.results21, go_sem]) rfl ⟨by rw [HV.out]; simp, (HK.out _ HB4.out).1⟩
      · go_wp2_with fail
        exact bodyPost_ret (v := .tuple #[.int .i64 0, .bool false]) (by simp [results, Tryd.results21, go_sem]) rfl ⟨by rw [HV.out]; simp, (HK.out _ HB4.out).1⟩
end Go.Proofs.YtnhbpcmiolkllaaDoor
namespace Go.Proofs.YtnhbpcmiolkllaaDoor
open Go.RowKit
theorem taO3 (v : Value) (W : World) : (Instr.typeAssert (.iface 125 v) 34 45 true).run Tryd.prog W = .ok (.tuple #[.iface 125 v, .bool true]) W := run_typeAssert_hasB Tryd.underlying45 (by kernel_rfl) v 34 W
theorem taO4 (v : Value) (W : World) : (Instr.typeAssert (.iface 126 v) 34 45 true).run Tryd.prog W = .ok (.tuple #[.iface 126 v, .bool true]) W := run_typeAssert_hasB Tryd.underlying45 (by kernel_rfl) v 34 W
attribute [local go_sem] refold2 cell3_0 cell3_1 b28_0 b28_01 taO taO3 taO4 tk

theorem beside_any (n b : Nat) (k : Int) (t : ByteArray) (a f : Int) (s : ByteArray) (r0 r1 r2 r3 : Int) (pp : Option Addr) (path : List Int) (pc : Nat) (ip : Option Addr) (ic : Nat) (items : List MD) (k' : Int) (t' : ByteArray) (a' f' : Int) (s' : ByteArray) (r0' r1' r2' r3' : Int) (pp' : Option Addr) (path' : List Int) (pc' : Nat) (ip' : Option Addr) (ic' : Nat) (items' : List MD) (w : World) (hN : NamesAt w)
    (hr : w.heap[b]? = some (.cells #[.int .i64 k, .string t, .int .i64 a, .int .u64 f, .string s, .int .i64 r0, .int .i64 r1, .int .i64 r2, .int .i64 r3, .slice pp path.length pc, .slice ip items.length ic] 28 (0, 0))) (hy : MD.In w.heap.size w n ⟨⟨k', t', a', f', s', r0', r1', r2', r3', pp', path', pc'⟩, ip', ic', items'⟩) :
    Calls Tryd.prog 104 #[.agg #[.pointer (some ⟨b, 0, none⟩)], .agg #[.int .i64 k', .string t', .int .i64 a', .int .u64 f', .string s', .int .i64 r0', .int .i64 r1', .int .i64 r2', .int .i64 r3', .slice pp' path'.length pc', .slice ip' items'.length ic']] w fun r w' => r = .returned (.bool (decide (k = k' ∧ t = t') && MD.right n ⟨⟨k', t', a', f', s', r0', r1', r2', r3', pp', path', pc'⟩, ip', ic', items'⟩)) ∧ Below w.heap.size w w' := by
  by_cases he : k = k' ∧ t = t'
  · rw [decide_eq_true he, Bool.true_and]; exact beside_like n b k t a f s r0 r1 r2 r3 pp path pc ip ic items k' t' a' f' s' r0' r1' r2' r3' pp' path' pc' ip' ic' items' w hN hr hy he
  · rw [decide_eq_false he, Bool.false_and]; exact beside_unlike n b k t a f s r0 r1 r2 r3 pp path pc ip ic items k' t' a' f' s' r0' r1' r2' r3' pp' path' pc' ip' ic' items' w hN hr hy he
set_option maxRecDepth 100000 in
set_option maxHeartbeats 4000000 in
theorem ranksLaw_no (n : Nat) (x y : MD) (w : World) (hN : NamesAt w) (hx : MD.In w.heap.size w n x) (p o : Bool) (hpo : (p && o) = false) (hp : MD.right n x = p) (ho : (x.h.k == 2 || x.h.k == 3 || x.h.k == 4) = o)
    (hof : ∀ W, Below w.heap.size w W → Calls Tryd.prog 14 #[x.val] W fun r w' => (∃ V e, r = .returned (.tuple #[V, e]) ∧ ∀ U, (Instr.typeAssert V 34 45 true).run Tryd.prog U = .ok (.tuple #[.nilIface, .bool false]) U) ∧ Below W.heap.size W w') : Calls Tryd.prog 5 #[x.val, y.val] w fun r w' => r = .returned (.bool true) ∧ Below w.heap.size w w' := by
  have HRX : Hid (∀ W, Below w.heap.size w W → Calls Tryd.prog 11 #[x.val] W fun r w' => r = .returned (.bool p) ∧ Below W.heap.size W w') := fun W hW => by rw [← hp]; exact refRightAny n x W (hx.later (Nat.le_refl _) hW)
  have HOr : Hid (∀ W, Calls Tryd.prog 20 #[x.val] W fun r w' => r = .returned (.bool o) ∧ Below W.heap.size W w') := fun W => by rw [← ho]; exact ordered_any x W
  have HOf : Hid _ := hof
  clear hx hp ho hof
  obtain ⟨⟨k, t, a, f, s, r0, r1, r2, r3, pp, path, pc⟩, ip, ic, items⟩ := x
  obtain ⟨⟨k', t', a', f', s', r0', r1', r2', r3', pp', path', pc'⟩, ip', ic', items'⟩ := y
  simp only [MD.val, D] at HRX HOr HOf ⊢
  obtain ⟨W2, hW2⟩ : ∃ W2, W2 = (w.alloc (.cells #[.int .i64 k, .string t, .int .i64 a, .int .u64 f, .string s, .int .i64 r0, .int .i64 r1, .int .i64 r2, .int .i64 r3, .slice pp path.length pc, .slice ip items.length ic] 28)).alloc (.cells #[.int .i64 k', .string t', .int .i64 a', .int .u64 f', .string s', .int .i64 r0', .int .i64 r1', .int .i64 r2', .int .i64 r3', .slice pp' path'.length pc', .slice ip' items'.length ic'] 28) := ⟨_, rfl⟩
  have HK : Hid (∀ W, Below W2.heap.size W2 W → Below w.heap.size w W ∧ (∀ i, W.cell? ⟨w.heap.size, i, none⟩ = (#[.int .i64 k, .string t, .int .i64 a, .int .u64 f, .string s, .int .i64 r0, .int .i64 r1, .int .i64 r2, .int .i64 r3, .slice pp path.length pc, .slice ip items.length ic] : Array Value)[i]?) ∧ ∀ i, W.cell? ⟨w.heap.size + 1, i, none⟩ = (#[.int .i64 k', .string t', .int .i64 a', .int .u64 f', .string s', .int .i64 r0', .int .i64 r1', .int .i64 r2', .int .i64 r3', .slice pp' path'.length pc', .slice ip' items'.length ic'] : Array Value)[i]?) := fun W hW => by rw [hW2] at hW; exact kept2 hW
  have hz2 : W2.heap.size = w.heap.size + 2 := by rw [hW2]; simp
  have hB2 : Below w.heap.size w W2 := by rw [hW2]; exact below2 _ _ _
  go_enter Tryd.func5, Tryd.ntmps5
  go_wp2_with fail
  rw [← hW2]
  clear hW2
  refine (known_any _ (hN.kept hB2)).mono ?_
  rintro r w3 ⟨rfl, b3⟩
  have HB3 : Hid (Below W2.heap.size W2 w3) := b3
  have hc3 := (HK.out _ HB3.out).2.1
  have hd3 := (HK.out _ HB3.out).2.2
  clear b3
  go_wp2_with fail
  refine (HOf.out _ (HK.out _ HB3.out).1).mono ?_
  rintro r w4 ⟨⟨V, e, rfl, hta⟩, b4⟩
  have HB4 : Hid (Below W2.heap.size W2 w4) := HB3.out.trans (b4.mono HB3.out.size)
  have hc4 := (HK.out _ HB4.out).2.1
  have hd4 := (HK.out _ HB4.out).2.2
  clear b4 hc3 hd3
  go_wp2_with fail
  refine (HRX.out _ (HK.out _ HB4.out).1).mono ?_
  rintro r w5 ⟨rfl, b5⟩
  have HB5 : Hid (Below W2.heap.size W2 w5) := HB4.out.trans (b5.mono HB4.out.size)
  have hc5 := (HK.out _ HB5.out).2.1
  have hd5 := (HK.out _ HB5.out).2.2
  clear b5 hc4 hd4
  cases p
  · go_wp2_with fail
    go_ret
    exact ⟨rfl, (HK.out _ HB5.out).1⟩
  · obtain rfl : o = false := hpo
    go_wp2_with (go_at_call 20; refine (HOr.out _).mono ?_; rintro r w6 ⟨rfl, b6⟩; have HB6 : Hid (Below W2.heap.size W2 w6) := HB5.out.trans (b6.mono HB5.out.size); clear b6)
    go_ret
    exact ⟨rfl, (HK.out _ HB6.out).1⟩
set_option maxRecDepth 100000 in
set_option maxHeartbeats 4000000 in
theorem ranksLaw_2 (n : Nat) (x y : MD) (w : World) (hN : NamesAt w) (hx : MD.In w.heap.size w n x) (hy : MD.In w.heap.size w n y) (h : MD.right n x = true) (hk : x.h.k = 2) : Calls Tryd.prog 5 #[x.val, y.val] w fun r w' => r = .returned (.bool true) ∧ Below w.heap.size w w' := by
  have HOf : Hid (∀ W, Below w.heap.size w W → Calls Tryd.prog 14 #[x.val] W (OfP n x 124 W)) := fun W hW => Of_kind n x W (hN.kept hW) (hx.later (Nat.le_refl _) hW) h 124 (fun b W' e hb => by rw [hk] at e; exact behind_2 b W' e hb) (fun v W' => ta2r v W')
  have HRX : Hid (∀ W, Below w.heap.size w W → Calls Tryd.prog 11 #[x.val] W fun r w' => r = .returned (.bool true) ∧ Below W.heap.size W w') := fun W hW => by rw [← h]; exact refRightAny n x W (hx.later (Nat.le_refl _) hW)
  have HOr : Hid (∀ W, Calls Tryd.prog 20 #[x.val] W fun r w' => r = .returned (.bool true) ∧ Below W.heap.size W w') := fun W => (ordered_any x W).mono fun _ _ hr => ⟨hr.1.trans (by rw [hk]; rfl), hr.2⟩
  have hn0 : n ≠ 0 := fun e => by subst e; exact hx.elim
  obtain ⟨⟨k, t, a, f, s, r0, r1, r2, r3, pp, path, pc⟩, ip, ic, items⟩ := x
  obtain ⟨⟨k', t', a', f', s', r0', r1', r2', r3', pp', path', pc'⟩, ip', ic', items'⟩ := y
  obtain rfl : k = 2 := hk
  have HF1 : Hid (∀ W, Below w.heap.size w W → Calls Tryd.prog 21 #[.agg #[.int .i64 2, .string t, .int .i64 a, .int .u64 f, .string s, .int .i64 r0, .int .i64 r1, .int .i64 r2, .int .i64 r3, .slice pp path.length pc, .slice ip items.length ic], .agg #[.int .i64 k', .string t', .int .i64 a', .int .u64 f', .string s', .int .i64 r0', .int .i64 r1', .int .i64 r2', .int .i64 r3', .slice pp' path'.length pc', .slice ip' items'.length ic']] W fun r w' => r = .returned (.tuple #[.int .i64 (if (decide (2 = k' ∧ t = t') && MD.right n ⟨⟨k', t', a', f', s', r0', r1', r2', r3', pp', path', pc'⟩, ip', ic', items'⟩) = true then (rankP a a').1 else 0), .bool (if (decide (2 = k' ∧ t = t') && MD.right n ⟨⟨k', t', a', f', s', r0', r1', r2', r3', pp', path', pc'⟩, ip', ic', items'⟩) = true then (rankP a a').2 else false)]) ∧ Below W.heap.size W w') := fun W hW => refRank_2 n t a f s r0 r1 r2 r3 pp path pc ip ic items k' t' a' f' s' r0' r1' r2' r3' pp' path' pc' ip' ic' items' W (hy.later (Nat.le_refl _) hW) 
  have HF2 : Hid (∀ W, Below w.heap.size w W → Calls Tryd.prog 21 #[.agg #[.int .i64 2, .string t, .int .i64 a, .int .u64 f, .string s, .int .i64 r0, .int .i64 r1, .int .i64 r2, .int .i64 r3, .slice pp path.length pc, .slice ip items.length ic], .agg #[.int .i64 2, .string t, .int .i64 a, .int .u64 f, .string s, .int .i64 r0, .int .i64 r1, .int .i64 r2, .int .i64 r3, .slice pp path.length pc, .slice ip items.length ic]] W fun r w' => r = .returned (.tuple #[.int .i64 (if (decide ((2 : Int) = 2 ∧ t = t) && MD.right n ⟨⟨2, t, a, f, s, r0, r1, r2, r3, pp, path, pc⟩, ip, ic, items⟩) = true then (rankP a a).1 else 0), .bool (if (decide ((2 : Int) = 2 ∧ t = t) && MD.right n ⟨⟨2, t, a, f, s, r0, r1, r2, r3, pp, path, pc⟩, ip, ic, items⟩) = true then (rankP a a).2 else false)]) ∧ Below W.heap.size W w') := fun W hW => refRank_2 n t a f s r0 r1 r2 r3 pp path pc ip ic items 2 t a f s r0 r1 r2 r3 pp path pc ip ic items W (hx.later (Nat.le_refl _) hW) 
  have HM : Hid (∀ (W0 W : World) (b : Nat) (d' : MD), Below w.heap.size w W0 → Below W0.heap.size W0 W → W0.heap[b]? = some (.cells d'.cells 28 (0, 0)) → MD.same n ⟨⟨2, t, a, f, s, r0, r1, r2, r3, pp, path, pc⟩, ip, ic, items⟩ d' = true →
      (Calls Tryd.prog 103 #[.agg #[.pointer (some ⟨b, 0, none⟩)], .agg #[.int .i64 k', .string t', .int .i64 a', .int .u64 f', .string s', .int .i64 r0', .int .i64 r1', .int .i64 r2', .int .i64 r3', .slice pp' path'.length pc', .slice ip' items'.length ic']] W fun r w' => r = .returned (.tuple #[.int .i64 (if (decide (2 = k' ∧ t = t') && MD.right n ⟨⟨k', t', a', f', s', r0', r1', r2', r3', pp', path', pc'⟩, ip', ic', items'⟩) = true then (rankP a a').1 else 0), .bool (if (decide (2 = k' ∧ t = t') && MD.right n ⟨⟨k', t', a', f', s', r0', r1', r2', r3', pp', path', pc'⟩, ip', ic', items'⟩) = true then (rankP a a').2 else false)]) ∧ Below W.heap.size W w') ∧
      (Calls Tryd.prog 103 #[.agg #[.pointer (some ⟨b, 0, none⟩)], .agg #[.int .i64 2, .string t, .int .i64 a, .int .u64 f, .string s, .int .i64 r0, .int .i64 r1, .int .i64 r2, .int .i64 r3, .slice pp path.length pc, .slice ip items.length ic]] W fun r w' => r = .returned (.tuple #[.int .i64 (if (decide ((2 : Int) = 2 ∧ t = t) && MD.right n ⟨⟨2, t, a, f, s, r0, r1, r2, r3, pp, path, pc⟩, ip, ic, items⟩) = true then (rankP a a).1 else 0), .bool (if (decide ((2 : Int) = 2 ∧ t = t) && MD.right n ⟨⟨2, t, a, f, s, r0, r1, r2, r3, pp, path, pc⟩, ip, ic, items⟩) = true then (rankP a a).2 else false)]) ∧ Below W.heap.size W w')) := fun W0 W b d' hw h0 hrow hsame => by
    have hww := hw.trans (h0.mono hw.size)
    have hrow' := (h0.block b (Array.getElem?_eq_some_iff.1 hrow).1).trans hrow
    obtain ⟨⟨l0, l1, l2, l3, l4, l5, l6, l7, l8, lp, lpath, lpc⟩, lip, lic, lit⟩ := d'
    obtain ⟨m, rfl⟩ : ∃ m, n = m + 1 := ⟨n - 1, by omega⟩
    obtain ⟨e0, e1, e2, e3, e4, e5, e6, e7, e8, e9, ep, ea⟩ := same_parts hsame
    simp only at e0 e1 e2 e3 e4
    subst e0 e1 e2 e3 e4
    exact ⟨RankM_2 b 2 l1 l2 l3 l4 l5 l6 l7 l8 lp lpath lpc lip lic lit k' t' a' f' s' r0' r1' r2' r3' pp' path' pc' ip' ic' items' W _ hrow' (fun V hV => beside_any (m + 1) b 2 l1 l2 l3 l4 l5 l6 l7 l8 lp lpath lpc lip lic lit k' t' a' f' s' r0' r1' r2' r3' pp' path' pc' ip' ic' items' V (hN.kept (hww.trans (hV.mono hww.size))) ((hV.block b (Array.getElem?_eq_some_iff.1 hrow').1).trans hrow') (hy.later (Nat.le_refl _) (hww.trans (hV.mono hww.size)))),
      RankM_2 b 2 l1 l2 l3 l4 l5 l6 l7 l8 lp lpath lpc lip lic lit 2 l1 l2 l3 l4 r0 r1 r2 r3 pp path pc ip ic items W _ hrow' (fun V hV => beside_any (m + 1) b 2 l1 l2 l3 l4 l5 l6 l7 l8 lp lpath lpc lip lic lit 2 l1 l2 l3 l4 r0 r1 r2 r3 pp path pc ip ic items V (hN.kept (hww.trans (hV.mono hww.size))) ((hV.block b (Array.getElem?_eq_some_iff.1 hrow').1).trans hrow') (hx.later (Nat.le_refl _) (hww.trans (hV.mono hww.size))))⟩
  clear hx hy h
  generalize (if (decide (2 = k' ∧ t = t') && MD.right n ⟨⟨k', t', a', f', s', r0', r1', r2', r3', pp', path', pc'⟩, ip', ic', items'⟩) = true then (rankP a a').1 else 0) = i1 at HF1 HM
  generalize (if (decide (2 = k' ∧ t = t') && MD.right n ⟨⟨k', t', a', f', s', r0', r1', r2', r3', pp', path', pc'⟩, ip', ic', items'⟩) = true then (rankP a a').2 else false) = q1 at HF1 HM
  generalize (if (decide ((2 : Int) = 2 ∧ t = t) && MD.right n ⟨⟨2, t, a, f, s, r0, r1, r2, r3, pp, path, pc⟩, ip, ic, items⟩) = true then (rankP a a).1 else 0) = i2 at HF2 HM
  generalize (if (decide ((2 : Int) = 2 ∧ t = t) && MD.right n ⟨⟨2, t, a, f, s, r0, r1, r2, r3, pp, path, pc⟩, ip, ic, items⟩) = true then (rankP a a).2 else false) = q2 at HF2 HM
  simp only [MD.val, D] at HOf HRX HOr ⊢
  obtain ⟨W2, hW2⟩ : ∃ W2, W2 = (w.alloc (.cells #[.int .i64 2, .string t, .int .i64 a, .int .u64 f, .string s, .int .i64 r0, .int .i64 r1, .int .i64 r2, .int .i64 r3, .slice pp path.length pc, .slice ip items.length ic] 28)).alloc (.cells #[.int .i64 k', .string t', .int .i64 a', .int .u64 f', .string s', .int .i64 r0', .int .i64 r1', .int .i64 r2', .int .i64 r3', .slice pp' path'.length pc', .slice ip' items'.length ic'] 28) := ⟨_, rfl⟩
  have HK : Hid (∀ W, Below W2.heap.size W2 W → Below w.heap.size w W ∧ (∀ i, W.cell? ⟨w.heap.size, i, none⟩ = (#[.int .i64 2, .string t, .int .i64 a, .int .u64 f, .string s, .int .i64 r0, .int .i64 r1, .int .i64 r2, .int .i64 r3, .slice pp path.length pc, .slice ip items.length ic] : Array Value)[i]?) ∧ ∀ i, W.cell? ⟨w.heap.size + 1, i, none⟩ = (#[.int .i64 k', .string t', .int .i64 a', .int .u64 f', .string s', .int .i64 r0', .int .i64 r1', .int .i64 r2', .int .i64 r3', .slice pp' path'.length pc', .slice ip' items'.length ic'] : Array Value)[i]?) := fun W hW => by rw [hW2] at hW; exact kept2 hW
  have hz2 : W2.heap.size = w.heap.size + 2 := by rw [hW2]; simp
  have hB2 : Below w.heap.size w W2 := by rw [hW2]; exact below2 _ _ _
  go_enter Tryd.func5, Tryd.ntmps5
  go_wp2_with fail
  rw [← hW2]
  clear hW2
  refine (known_any _ (hN.kept hB2)).mono ?_
  rintro r w3 ⟨rfl, b3⟩
  have HB3 : Hid (Below W2.heap.size W2 w3) := b3
  have hc3 := (HK.out _ HB3.out).2.1
  have hd3 := (HK.out _ HB3.out).2.2
  clear b3
  go_wp2_with fail
  refine (HOf.out _ (HK.out _ HB3.out).1).mono ?_
  rintro r w4 ⟨b, d', rfl, hbb, hrow, hdi, hda, hds, b4⟩
  have HB4 : Hid (Below W2.heap.size W2 w4) := HB3.out.trans (b4.mono HB3.out.size)
  have hc4 := (HK.out _ HB4.out).2.1
  have hd4 := (HK.out _ HB4.out).2.2
  have HM1 : Hid (∀ W, Below w4.heap.size w4 W → Calls Tryd.prog 103 #[.agg #[.pointer (some ⟨b, 0, none⟩)], .agg #[.int .i64 k', .string t', .int .i64 a', .int .u64 f', .string s', .int .i64 r0', .int .i64 r1', .int .i64 r2', .int .i64 r3', .slice pp' path'.length pc', .slice ip' items'.length ic']] W fun r w' => r = .returned (.tuple #[.int .i64 i1, .bool q1]) ∧ Below W.heap.size W w') := fun W hW => (HM.out w4 W b d' (HK.out _ HB4.out).1 hW hrow hds).1
  have HM2 : Hid (∀ W, Below w4.heap.size w4 W → Calls Tryd.prog 103 #[.agg #[.pointer (some ⟨b, 0, none⟩)], .agg #[.int .i64 2, .string t, .int .i64 a, .int .u64 f, .string s, .int .i64 r0, .int .i64 r1, .int .i64 r2, .int .i64 r3, .slice pp path.length pc, .slice ip items.length ic]] W fun r w' => r = .returned (.tuple #[.int .i64 i2, .bool q2]) ∧ Below W.heap.size W w') := fun W hW => (HM.out w4 W b d' (HK.out _ HB4.out).1 hW hrow hds).2
  clear b4 hbb hrow hdi hda hds hc3 hd3 HM HOf
  go_wp2_with fail
  refine (HRX.out _ (HK.out _ HB4.out).1).mono ?_
  rintro r w5 ⟨rfl, b5⟩
  have HA5 : Hid (Below w4.heap.size w4 w5) := b5
  have HB5 : Hid (Below W2.heap.size W2 w5) := HB4.out.trans (b5.mono HB4.out.size)
  have hc5 := (HK.out _ HB5.out).2.1
  have hd5 := (HK.out _ HB5.out).2.2
  clear b5 hc4 hd4
  go_wp2_with (go_at_call 20; refine (HOr.out _).mono ?_; rintro r w6 ⟨rfl, b6⟩; have HA6 : Hid (Below w4.heap.size w4 w6) := HA5.out.trans (b6.mono HA5.out.size); have HB6 : Hid (Below W2.heap.size W2 w6) := HB5.out.trans (b6.mono HB5.out.size); have hc6 := (HK.out _ HB6.out).2.1; have hd6 := (HK.out _ HB6.out).2.2; clear b6 hc5 hd5)
  refine (HM1.out _ HA6.out).mono ?_
  rintro r w7 ⟨rfl, b7⟩
  have HA7 : Hid (Below w4.heap.size w4 w7) := HA6.out.trans (b7.mono HA6.out.size)
  have HB7 : Hid (Below W2.heap.size W2 w7) := HB6.out.trans (b7.mono HB6.out.size)
  have hc7 := (HK.out _ HB7.out).2.1
  have hd7 := (HK.out _ HB7.out).2.2
  clear b7 hc6 hd6
  go_wp2_with fail
  refine (HF1.out _ (HK.out _ HB7.out).1).mono ?_
  rintro r w8 ⟨rfl, b8⟩
  have HA8 : Hid (Below w4.heap.size w4 w8) := HA7.out.trans (b8.mono HA7.out.size)
  have HB8 : Hid (Below W2.heap.size W2 w8) := HB7.out.trans (b8.mono HB7.out.size)
  have hc8 := (HK.out _ HB8.out).2.1
  have hd8 := (HK.out _ HB8.out).2.2
  clear b8 hc7 hd7
  go_wp2_with fail
  refine (HM2.out _ HA8.out).mono ?_
  rintro r w9 ⟨rfl, b9⟩
  have HA9 : Hid (Below w4.heap.size w4 w9) := HA8.out.trans (b9.mono HA8.out.size)
  have HB9 : Hid (Below W2.heap.size W2 w9) := HB8.out.trans (b9.mono HB8.out.size)
  have hc9 := (HK.out _ HB9.out).2.1
  have hd9 := (HK.out _ HB9.out).2.2
  clear b9 hc8 hd8
  go_wp2_with fail
  refine (HF2.out _ (HK.out _ HB9.out).1).mono ?_
  rintro r w10 ⟨rfl, b10⟩
  have HA10 : Hid (Below w4.heap.size w4 w10) := HA9.out.trans (b10.mono HA9.out.size)
  have HB10 : Hid (Below W2.heap.size W2 w10) := HB9.out.trans (b10.mono HB9.out.size)
  have hc10 := (HK.out _ HB10.out).2.1
  have hd10 := (HK.out _ HB10.out).2.2
  clear b10 hc9 hd9
  go_wp2_with fail
  go_ret
  exact ⟨by simp, (HK.out _ HB10.out).1⟩
set_option maxRecDepth 100000 in
set_option maxHeartbeats 4000000 in
theorem ranksLaw_4 (n : Nat) (x y : MD) (w : World) (hN : NamesAt w) (hx : MD.In w.heap.size w n x) (hy : MD.In w.heap.size w n y) (h : MD.right n x = true) (hk : x.h.k = 4) : Calls Tryd.prog 5 #[x.val, y.val] w fun r w' => r = .returned (.bool true) ∧ Below w.heap.size w w' := by
  have HOf : Hid (∀ W, Below w.heap.size w W → Calls Tryd.prog 14 #[x.val] W (OfP n x 126 W)) := fun W hW => Of_kind n x W (hN.kept hW) (hx.later (Nat.le_refl _) hW) h 126 (fun b W' e hb => by rw [hk] at e; exact behind_4 b W' e hb) (fun v W' => ta4r v W')
  have HRX : Hid (∀ W, Below w.heap.size w W → Calls Tryd.prog 11 #[x.val] W fun r w' => r = .returned (.bool true) ∧ Below W.heap.size W w') := fun W hW => by rw [← h]; exact refRightAny n x W (hx.later (Nat.le_refl _) hW)
  have HOr : Hid (∀ W, Calls Tryd.prog 20 #[x.val] W fun r w' => r = .returned (.bool true) ∧ Below W.heap.size W w') := fun W => (ordered_any x W).mono fun _ _ hr => ⟨hr.1.trans (by rw [hk]; rfl), hr.2⟩
  have hn0 : n ≠ 0 := fun e => by subst e; exact hx.elim
  obtain ⟨⟨k, t, a, f, s, r0, r1, r2, r3, pp, path, pc⟩, ip, ic, items⟩ := x
  obtain ⟨⟨k', t', a', f', s', r0', r1', r2', r3', pp', path', pc'⟩, ip', ic', items'⟩ := y
  obtain rfl : k = 4 := hk
  have HF1 : Hid (∀ W, Below w.heap.size w W → Calls Tryd.prog 21 #[.agg #[.int .i64 4, .string t, .int .i64 a, .int .u64 f, .string s, .int .i64 r0, .int .i64 r1, .int .i64 r2, .int .i64 r3, .slice pp path.length pc, .slice ip items.length ic], .agg #[.int .i64 k', .string t', .int .i64 a', .int .u64 f', .string s', .int .i64 r0', .int .i64 r1', .int .i64 r2', .int .i64 r3', .slice pp' path'.length pc', .slice ip' items'.length ic']] W fun r w' => r = .returned (.tuple #[.int .i64 (if (decide (4 = k' ∧ t = t') && MD.right n ⟨⟨k', t', a', f', s', r0', r1', r2', r3', pp', path', pc'⟩, ip', ic', items'⟩) = true then (rankS s s').1 else 0), .bool (if (decide (4 = k' ∧ t = t') && MD.right n ⟨⟨k', t', a', f', s', r0', r1', r2', r3', pp', path', pc'⟩, ip', ic', items'⟩) = true then (rankS s s').2 else false)]) ∧ Below W.heap.size W w') := fun W hW => refRank_4 n t a f s r0 r1 r2 r3 pp path pc ip ic items k' t' a' f' s' r0' r1' r2' r3' pp' path' pc' ip' ic' items' W (hy.later (Nat.le_refl _) hW) 
  have HF2 : Hid (∀ W, Below w.heap.size w W → Calls Tryd.prog 21 #[.agg #[.int .i64 4, .string t, .int .i64 a, .int .u64 f, .string s, .int .i64 r0, .int .i64 r1, .int .i64 r2, .int .i64 r3, .slice pp path.length pc, .slice ip items.length ic], .agg #[.int .i64 4, .string t, .int .i64 a, .int .u64 f, .string s, .int .i64 r0, .int .i64 r1, .int .i64 r2, .int .i64 r3, .slice pp path.length pc, .slice ip items.length ic]] W fun r w' => r = .returned (.tuple #[.int .i64 (if (decide ((4 : Int) = 4 ∧ t = t) && MD.right n ⟨⟨4, t, a, f, s, r0, r1, r2, r3, pp, path, pc⟩, ip, ic, items⟩) = true then (rankS s s).1 else 0), .bool (if (decide ((4 : Int) = 4 ∧ t = t) && MD.right n ⟨⟨4, t, a, f, s, r0, r1, r2, r3, pp, path, pc⟩, ip, ic, items⟩) = true then (rankS s s).2 else false)]) ∧ Below W.heap.size W w') := fun W hW => refRank_4 n t a f s r0 r1 r2 r3 pp path pc ip ic items 4 t a f s r0 r1 r2 r3 pp path pc ip ic items W (hx.later (Nat.le_refl _) hW) 
  have HM : Hid (∀ (W0 W : World) (b : Nat) (d' : MD), Below w.heap.size w W0 → Below W0.heap.size W0 W → W0.heap[b]? = some (.cells d'.cells 28 (0, 0)) → MD.same n ⟨⟨4, t, a, f, s, r0, r1, r2, r3, pp, path, pc⟩, ip, ic, items⟩ d' = true →
      (Calls Tryd.prog 109 #[.agg #[.pointer (some ⟨b, 0, none⟩)], .agg #[.int .i64 k', .string t', .int .i64 a', .int .u64 f', .string s', .int .i64 r0', .int .i64 r1', .int .i64 r2', .int .i64 r3', .slice pp' path'.length pc', .slice ip' items'.length ic']] W fun r w' => r = .returned (.tuple #[.int .i64 (if (decide (4 = k' ∧ t = t') && MD.right n ⟨⟨k', t', a', f', s', r0', r1', r2', r3', pp', path', pc'⟩, ip', ic', items'⟩) = true then (rankS s s').1 else 0), .bool (if (decide (4 = k' ∧ t = t') && MD.right n ⟨⟨k', t', a', f', s', r0', r1', r2', r3', pp', path', pc'⟩, ip', ic', items'⟩) = true then (rankS s s').2 else false)]) ∧ Below W.heap.size W w') ∧
      (Calls Tryd.prog 109 #[.agg #[.pointer (some ⟨b, 0, none⟩)], .agg #[.int .i64 4, .string t, .int .i64 a, .int .u64 f, .string s, .int .i64 r0, .int .i64 r1, .int .i64 r2, .int .i64 r3, .slice pp path.length pc, .slice ip items.length ic]] W fun r w' => r = .returned (.tuple #[.int .i64 (if (decide ((4 : Int) = 4 ∧ t = t) && MD.right n ⟨⟨4, t, a, f, s, r0, r1, r2, r3, pp, path, pc⟩, ip, ic, items⟩) = true then (rankS s s).1 else 0), .bool (if (decide ((4 : Int) = 4 ∧ t = t) && MD.right n ⟨⟨4, t, a, f, s, r0, r1, r2, r3, pp, path, pc⟩, ip, ic, items⟩) = true then (rankS s s).2 else false)]) ∧ Below W.heap.size W w')) := fun W0 W b d' hw h0 hrow hsame => by
    have hww := hw.trans (h0.mono hw.size)
    have hrow' := (h0.block b (Array.getElem?_eq_some_iff.1 hrow).1).trans hrow
    obtain ⟨⟨l0, l1, l2, l3, l4, l5, l6, l7, l8, lp, lpath, lpc⟩, lip, lic, lit⟩ := d'
    obtain ⟨m, rfl⟩ : ∃ m, n = m + 1 := ⟨n - 1, by omega⟩
    obtain ⟨e0, e1, e2, e3, e4, e5, e6, e7, e8, e9, ep, ea⟩ := same_parts hsame
    simp only at e0 e1 e2 e3 e4
    subst e0 e1 e2 e3 e4
    exact ⟨RankM_4 b 4 l1 l2 l3 l4 l5 l6 l7 l8 lp lpath lpc lip lic lit k' t' a' f' s' r0' r1' r2' r3' pp' path' pc' ip' ic' items' W _ hrow' (fun V hV => beside_any (m + 1) b 4 l1 l2 l3 l4 l5 l6 l7 l8 lp lpath lpc lip lic lit k' t' a' f' s' r0' r1' r2' r3' pp' path' pc' ip' ic' items' V (hN.kept (hww.trans (hV.mono hww.size))) ((hV.block b (Array.getElem?_eq_some_iff.1 hrow').1).trans hrow') (hy.later (Nat.le_refl _) (hww.trans (hV.mono hww.size)))),
      RankM_4 b 4 l1 l2 l3 l4 l5 l6 l7 l8 lp lpath lpc lip lic lit 4 l1 l2 l3 l4 r0 r1 r2 r3 pp path pc ip ic items W _ hrow' (fun V hV => beside_any (m + 1) b 4 l1 l2 l3 l4 l5 l6 l7 l8 lp lpath lpc lip lic lit 4 l1 l2 l3 l4 r0 r1 r2 r3 pp path pc ip ic items V (hN.kept (hww.trans (hV.mono hww.size))) ((hV.block b (Array.getElem?_eq_some_iff.1 hrow').1).trans hrow') (hx.later (Nat.le_refl _) (hww.trans (hV.mono hww.size))))⟩
  clear hx hy h
  generalize (if (decide (4 = k' ∧ t = t') && MD.right n ⟨⟨k', t', a', f', s', r0', r1', r2', r3', pp', path', pc'⟩, ip', ic', items'⟩) = true then (rankS s s').1 else 0) = i1 at HF1 HM
  generalize (if (decide (4 = k' ∧ t = t') && MD.right n ⟨⟨k', t', a', f', s', r0', r1', r2', r3', pp', path', pc'⟩, ip', ic', items'⟩) = true then (rankS s s').2 else false) = q1 at HF1 HM
  generalize (if (decide ((4 : Int) = 4 ∧ t = t) && MD.right n ⟨⟨4, t, a, f, s, r0, r1, r2, r3, pp, path, pc⟩, ip, ic, items⟩) = true then (rankS s s).1 else 0) = i2 at HF2 HM
  generalize (if (decide ((4 : Int) = 4 ∧ t = t) && MD.right n ⟨⟨4, t, a, f, s, r0, r1, r2, r3, pp, path, pc⟩, ip, ic, items⟩) = true then (rankS s s).2 else false) = q2 at HF2 HM
  simp only [MD.val, D] at HOf HRX HOr ⊢
  obtain ⟨W2, hW2⟩ : ∃ W2, W2 = (w.alloc (.cells #[.int .i64 4, .string t, .int .i64 a, .int .u64 f, .string s, .int .i64 r0, .int .i64 r1, .int .i64 r2, .int .i64 r3, .slice pp path.length pc, .slice ip items.length ic] 28)).alloc (.cells #[.int .i64 k', .string t', .int .i64 a', .int .u64 f', .string s', .int .i64 r0', .int .i64 r1', .int .i64 r2', .int .i64 r3', .slice pp' path'.length pc', .slice ip' items'.length ic'] 28) := ⟨_, rfl⟩
  have HK : Hid (∀ W, Below W2.heap.size W2 W → Below w.heap.size w W ∧ (∀ i, W.cell? ⟨w.heap.size, i, none⟩ = (#[.int .i64 4, .string t, .int .i64 a, .int .u64 f, .string s, .int .i64 r0, .int .i64 r1, .int .i64 r2, .int .i64 r3, .slice pp path.length pc, .slice ip items.length ic] : Array Value)[i]?) ∧ ∀ i, W.cell? ⟨w.heap.size + 1, i, none⟩ = (#[.int .i64 k', .string t', .int .i64 a', .int .u64 f', .string s', .int .i64 r0', .int .i64 r1', .int .i64 r2', .int .i64 r3', .slice pp' path'.length pc', .slice ip' items'.length ic'] : Array Value)[i]?) := fun W hW => by rw [hW2] at hW; exact kept2 hW
  have hz2 : W2.heap.size = w.heap.size + 2 := by rw [hW2]; simp
  have hB2 : Below w.heap.size w W2 := by rw [hW2]; exact below2 _ _ _
  go_enter Tryd.func5, Tryd.ntmps5
  go_wp2_with fail
  rw [← hW2]
  clear hW2
  refine (known_any _ (hN.kept hB2)).mono ?_
  rintro r w3 ⟨rfl, b3⟩
  have HB3 : Hid (Below W2.heap.size W2 w3) := b3
  have hc3 := (HK.out _ HB3.out).2.1
  have hd3 := (HK.out _ HB3.out).2.2
  clear b3
  go_wp2_with fail
  refine (HOf.out _ (HK.out _ HB3.out).1).mono ?_
  rintro r w4 ⟨b, d', rfl, hbb, hrow, hdi, hda, hds, b4⟩
  have HB4 : Hid (Below W2.heap.size W2 w4) := HB3.out.trans (b4.mono HB3.out.size)
  have hc4 := (HK.out _ HB4.out).2.1
  have hd4 := (HK.out _ HB4.out).2.2
  have HM1 : Hid (∀ W, Below w4.heap.size w4 W → Calls Tryd.prog 109 #[.agg #[.pointer (some ⟨b, 0, none⟩)], .agg #[.int .i64 k', .string t', .int .i64 a', .int .u64 f', .string s', .int .i64 r0', .int .i64 r1', .int .i64 r2', .int .i64 r3', .slice pp' path'.length pc', .slice ip' items'.length ic']] W fun r w' => r = .returned (.tuple #[.int .i64 i1, .bool q1]) ∧ Below W.heap.size W w') := fun W hW => (HM.out w4 W b d' (HK.out _ HB4.out).1 hW hrow hds).1
  have HM2 : Hid (∀ W, Below w4.heap.size w4 W → Calls Tryd.prog 109 #[.agg #[.pointer (some ⟨b, 0, none⟩)], .agg #[.int .i64 4, .string t, .int .i64 a, .int .u64 f, .string s, .int .i64 r0, .int .i64 r1, .int .i64 r2, .int .i64 r3, .slice pp path.length pc, .slice ip items.length ic]] W fun r w' => r = .returned (.tuple #[.int .i64 i2, .bool q2]) ∧ Below W.heap.size W w') := fun W hW => (HM.out w4 W b d' (HK.out _ HB4.out).1 hW hrow hds).2
  clear b4 hbb hrow hdi hda hds hc3 hd3 HM HOf
  go_wp2_with fail
  refine (HRX.out _ (HK.out _ HB4.out).1).mono ?_
  rintro r w5 ⟨rfl, b5⟩
  have HA5 : Hid (Below w4.heap.size w4 w5) := b5
  have HB5 : Hid (Below W2.heap.size W2 w5) := HB4.out.trans (b5.mono HB4.out.size)
  have hc5 := (HK.out _ HB5.out).2.1
  have hd5 := (HK.out _ HB5.out).2.2
  clear b5 hc4 hd4
  go_wp2_with (go_at_call 20; refine (HOr.out _).mono ?_; rintro r w6 ⟨rfl, b6⟩; have HA6 : Hid (Below w4.heap.size w4 w6) := HA5.out.trans (b6.mono HA5.out.size); have HB6 : Hid (Below W2.heap.size W2 w6) := HB5.out.trans (b6.mono HB5.out.size); have hc6 := (HK.out _ HB6.out).2.1; have hd6 := (HK.out _ HB6.out).2.2; clear b6 hc5 hd5)
  refine (HM1.out _ HA6.out).mono ?_
  rintro r w7 ⟨rfl, b7⟩
  have HA7 : Hid (Below w4.heap.size w4 w7) := HA6.out.trans (b7.mono HA6.out.size)
  have HB7 : Hid (Below W2.heap.size W2 w7) := HB6.out.trans (b7.mono HB6.out.size)
  have hc7 := (HK.out _ HB7.out).2.1
  have hd7 := (HK.out _ HB7.out).2.2
  clear b7 hc6 hd6
  go_wp2_with fail
  refine (HF1.out _ (HK.out _ HB7.out).1).mono ?_
  rintro r w8 ⟨rfl, b8⟩
  have HA8 : Hid (Below w4.heap.size w4 w8) := HA7.out.trans (b8.mono HA7.out.size)
  have HB8 : Hid (Below W2.heap.size W2 w8) := HB7.out.trans (b8.mono HB7.out.size)
  have hc8 := (HK.out _ HB8.out).2.1
  have hd8 := (HK.out _ HB8.out).2.2
  clear b8 hc7 hd7
  go_wp2_with fail
  refine (HM2.out _ HA8.out).mono ?_
  rintro r w9 ⟨rfl, b9⟩
  have HA9 : Hid (Below w4.heap.size w4 w9) := HA8.out.trans (b9.mono HA8.out.size)
  have HB9 : Hid (Below W2.heap.size W2 w9) := HB8.out.trans (b9.mono HB8.out.size)
  have hc9 := (HK.out _ HB9.out).2.1
  have hd9 := (HK.out _ HB9.out).2.2
  clear b9 hc8 hd8
  go_wp2_with fail
  refine (HF2.out _ (HK.out _ HB9.out).1).mono ?_
  rintro r w10 ⟨rfl, b10⟩
  have HA10 : Hid (Below w4.heap.size w4 w10) := HA9.out.trans (b10.mono HA9.out.size)
  have HB10 : Hid (Below W2.heap.size W2 w10) := HB9.out.trans (b10.mono HB9.out.size)
  have hc10 := (HK.out _ HB10.out).2.1
  have hd10 := (HK.out _ HB10.out).2.2
  clear b10 hc9 hd9
  go_wp2_with fail
  go_ret
  exact ⟨by simp, (HK.out _ HB10.out).1⟩
set_option maxRecDepth 100000 in
set_option maxHeartbeats 4000000 in
theorem ranksLaw_3 (n : Nat) (x y : MD) (w : World) (hN : NamesAt w) (hx : MD.In w.heap.size w n x) (hy : MD.In w.heap.size w n y) (h : MD.right n x = true) (hk : x.h.k = 3) : Calls Tryd.prog 5 #[x.val, y.val] w fun r w' => r = .returned (.bool true) ∧ Below w.heap.size w w' := by
  have HOf : Hid (∀ W, Below w.heap.size w W → Calls Tryd.prog 14 #[x.val] W (OfP n x 125 W)) := fun W hW => Of_kind n x W (hN.kept hW) (hx.later (Nat.le_refl _) hW) h 125 (fun b W' e hb => by rw [hk] at e; exact behind_3 b W' e hb) (fun v W' => ta3r v W')
  have HRX : Hid (∀ W, Below w.heap.size w W → Calls Tryd.prog 11 #[x.val] W fun r w' => r = .returned (.bool true) ∧ Below W.heap.size W w') := fun W hW => by rw [← h]; exact refRightAny n x W (hx.later (Nat.le_refl _) hW)
  have HOr : Hid (∀ W, Calls Tryd.prog 20 #[x.val] W fun r w' => r = .returned (.bool true) ∧ Below W.heap.size W w') := fun W => (ordered_any x W).mono fun _ _ hr => ⟨hr.1.trans (by rw [hk]; rfl), hr.2⟩
  have hn0 : n ≠ 0 := fun e => by subst e; exact hx.elim
  obtain ⟨⟨k, t, a, f, s, r0, r1, r2, r3, pp, path, pc⟩, ip, ic, items⟩ := x
  obtain ⟨⟨k', t', a', f', s', r0', r1', r2', r3', pp', path', pc'⟩, ip', ic', items'⟩ := y
  obtain rfl : k = 3 := hk
  have HF1 : Hid (∀ W, Below w.heap.size w W → Calls Tryd.prog 21 #[.agg #[.int .i64 3, .string t, .int .i64 a, .int .u64 f, .string s, .int .i64 r0, .int .i64 r1, .int .i64 r2, .int .i64 r3, .slice pp path.length pc, .slice ip items.length ic], .agg #[.int .i64 k', .string t', .int .i64 a', .int .u64 f', .string s', .int .i64 r0', .int .i64 r1', .int .i64 r2', .int .i64 r3', .slice pp' path'.length pc', .slice ip' items'.length ic']] W fun r w' => r = .returned (.tuple #[.int .i64 (if (decide (3 = k' ∧ t = t') && MD.right n ⟨⟨k', t', a', f', s', r0', r1', r2', r3', pp', path', pc'⟩, ip', ic', items'⟩) = true then (rankF f f').1 else 0), .bool (if (decide (3 = k' ∧ t = t') && MD.right n ⟨⟨k', t', a', f', s', r0', r1', r2', r3', pp', path', pc'⟩, ip', ic', items'⟩) = true then (rankF f f').2 else false)]) ∧ Below W.heap.size W w') := fun W hW => refRank_3 n t a f s r0 r1 r2 r3 pp path pc ip ic items k' t' a' f' s' r0' r1' r2' r3' pp' path' pc' ip' ic' items' W (hy.later (Nat.le_refl _) hW) (hx.fine.f0) (hx.fine.f1) (hy.fine.f0) (hy.fine.f1)
  have HF2 : Hid (∀ W, Below w.heap.size w W → Calls Tryd.prog 21 #[.agg #[.int .i64 3, .string t, .int .i64 a, .int .u64 f, .string s, .int .i64 r0, .int .i64 r1, .int .i64 r2, .int .i64 r3, .slice pp path.length pc, .slice ip items.length ic], .agg #[.int .i64 3, .string t, .int .i64 a, .int .u64 f, .string s, .int .i64 r0, .int .i64 r1, .int .i64 r2, .int .i64 r3, .slice pp path.length pc, .slice ip items.length ic]] W fun r w' => r = .returned (.tuple #[.int .i64 (if (decide ((3 : Int) = 3 ∧ t = t) && MD.right n ⟨⟨3, t, a, f, s, r0, r1, r2, r3, pp, path, pc⟩, ip, ic, items⟩) = true then (rankF f f).1 else 0), .bool (if (decide ((3 : Int) = 3 ∧ t = t) && MD.right n ⟨⟨3, t, a, f, s, r0, r1, r2, r3, pp, path, pc⟩, ip, ic, items⟩) = true then (rankF f f).2 else false)]) ∧ Below W.heap.size W w') := fun W hW => refRank_3 n t a f s r0 r1 r2 r3 pp path pc ip ic items 3 t a f s r0 r1 r2 r3 pp path pc ip ic items W (hx.later (Nat.le_refl _) hW) (hx.fine.f0) (hx.fine.f1) (hx.fine.f0) (hx.fine.f1)
  have HM : Hid (∀ (W0 W : World) (b : Nat) (d' : MD), Below w.heap.size w W0 → Below W0.heap.size W0 W → W0.heap[b]? = some (.cells d'.cells 28 (0, 0)) → MD.same n ⟨⟨3, t, a, f, s, r0, r1, r2, r3, pp, path, pc⟩, ip, ic, items⟩ d' = true →
      (Calls Tryd.prog 106 #[.agg #[.pointer (some ⟨b, 0, none⟩)], .agg #[.int .i64 k', .string t', .int .i64 a', .int .u64 f', .string s', .int .i64 r0', .int .i64 r1', .int .i64 r2', .int .i64 r3', .slice pp' path'.length pc', .slice ip' items'.length ic']] W fun r w' => r = .returned (.tuple #[.int .i64 (if (decide (3 = k' ∧ t = t') && MD.right n ⟨⟨k', t', a', f', s', r0', r1', r2', r3', pp', path', pc'⟩, ip', ic', items'⟩) = true then (rankF f f').1 else 0), .bool (if (decide (3 = k' ∧ t = t') && MD.right n ⟨⟨k', t', a', f', s', r0', r1', r2', r3', pp', path', pc'⟩, ip', ic', items'⟩) = true then (rankF f f').2 else false)]) ∧ Below W.heap.size W w') ∧
      (Calls Tryd.prog 106 #[.agg #[.pointer (some ⟨b, 0, none⟩)], .agg #[.int .i64 3, .string t, .int .i64 a, .int .u64 f, .string s, .int .i64 r0, .int .i64 r1, .int .i64 r2, .int .i64 r3, .slice pp path.length pc, .slice ip items.length ic]] W fun r w' => r = .returned (.tuple #[.int .i64 (if (decide ((3 : Int) = 3 ∧ t = t) && MD.right n ⟨⟨3, t, a, f, s, r0, r1, r2, r3, pp, path, pc⟩, ip, ic, items⟩) = true then (rankF f f).1 else 0), .bool (if (decide ((3 : Int) = 3 ∧ t = t) && MD.right n ⟨⟨3, t, a, f, s, r0, r1, r2, r3, pp, path, pc⟩, ip, ic, items⟩) = true then (rankF f f).2 else false)]) ∧ Below W.heap.size W w')) := fun W0 W b d' hw h0 hrow hsame => by
    have hww := hw.trans (h0.mono hw.size)
    have hrow' := (h0.block b (Array.getElem?_eq_some_iff.1 hrow).1).trans hrow
    obtain ⟨⟨l0, l1, l2, l3, l4, l5, l6, l7, l8, lp, lpath, lpc⟩, lip, lic, lit⟩ := d'
    obtain ⟨m, rfl⟩ : ∃ m, n = m + 1 := ⟨n - 1, by omega⟩
    obtain ⟨e0, e1, e2, e3, e4, e5, e6, e7, e8, e9, ep, ea⟩ := same_parts hsame
    simp only at e0 e1 e2 e3 e4
    subst e0 e1 e2 e3 e4
    exact ⟨RankM_3 b 3 l1 l2 l3 l4 l5 l6 l7 l8 lp lpath lpc lip lic lit k' t' a' f' s' r0' r1' r2' r3' pp' path' pc' ip' ic' items' W _ hrow' (fun V hV => beside_any (m + 1) b 3 l1 l2 l3 l4 l5 l6 l7 l8 lp lpath lpc lip lic lit k' t' a' f' s' r0' r1' r2' r3' pp' path' pc' ip' ic' items' V (hN.kept (hww.trans (hV.mono hww.size))) ((hV.block b (Array.getElem?_eq_some_iff.1 hrow').1).trans hrow') (hy.later (Nat.le_refl _) (hww.trans (hV.mono hww.size)))),
      RankM_3 b 3 l1 l2 l3 l4 l5 l6 l7 l8 lp lpath lpc lip lic lit 3 l1 l2 l3 l4 r0 r1 r2 r3 pp path pc ip ic items W _ hrow' (fun V hV => beside_any (m + 1) b 3 l1 l2 l3 l4 l5 l6 l7 l8 lp lpath lpc lip lic lit 3 l1 l2 l3 l4 r0 r1 r2 r3 pp path pc ip ic items V (hN.kept (hww.trans (hV.mono hww.size))) ((hV.block b (Array.getElem?_eq_some_iff.1 hrow').1).trans hrow') (hx.later (Nat.le_refl _) (hww.trans (hV.mono hww.size))))⟩
  clear hx hy h
  generalize (if (decide (3 = k' ∧ t = t') && MD.right n ⟨⟨k', t', a', f', s', r0', r1', r2', r3', pp', path', pc'⟩, ip', ic', items'⟩) = true then (rankF f f').1 else 0) = i1 at HF1 HM
  generalize (if (decide (3 = k' ∧ t = t') && MD.right n ⟨⟨k', t', a', f', s', r0', r1', r2', r3', pp', path', pc'⟩, ip', ic', items'⟩) = true then (rankF f f').2 else false) = q1 at HF1 HM
  generalize (if (decide ((3 : Int) = 3 ∧ t = t) && MD.right n ⟨⟨3, t, a, f, s, r0, r1, r2, r3, pp, path, pc⟩, ip, ic, items⟩) = true then (rankF f f).1 else 0) = i2 at HF2 HM
  generalize (if (decide ((3 : Int) = 3 ∧ t = t) && MD.right n ⟨⟨3, t, a, f, s, r0, r1, r2, r3, pp, path, pc⟩, ip, ic, items⟩) = true then (rankF f f).2 else false) = q2 at HF2 HM
  simp only [MD.val, D] at HOf HRX HOr ⊢
  obtain ⟨W2, hW2⟩ : ∃ W2, W2 = (w.alloc (.cells #[.int .i64 3, .string t, .int .i64 a, .int .u64 f, .string s, .int .i64 r0, .int .i64 r1, .int .i64 r2, .int .i64 r3, .slice pp path.length pc, .slice ip items.length ic] 28)).alloc (.cells #[.int .i64 k', .string t', .int .i64 a', .int .u64 f', .string s', .int .i64 r0', .int .i64 r1', .int .i64 r2', .int .i64 r3', .slice pp' path'.length pc', .slice ip' items'.length ic'] 28) := ⟨_, rfl⟩
  have HK : Hid (∀ W, Below W2.heap.size W2 W → Below w.heap.size w W ∧ (∀ i, W.cell? ⟨w.heap.size, i, none⟩ = (#[.int .i64 3, .string t, .int .i64 a, .int .u64 f, .string s, .int .i64 r0, .int .i64 r1, .int .i64 r2, .int .i64 r3, .slice pp path.length pc, .slice ip items.length ic] : Array Value)[i]?) ∧ ∀ i, W.cell? ⟨w.heap.size + 1, i, none⟩ = (#[.int .i64 k', .string t', .int .i64 a', .int .u64 f', .string s', .int .i64 r0', .int .i64 r1', .int .i64 r2', .int .i64 r3', .slice pp' path'.length pc', .slice ip' items'.length ic'] : Array Value)[i]?) := fun W hW => by rw [hW2] at hW; exact kept2 hW
  have hz2 : W2.heap.size = w.heap.size + 2 := by rw [hW2]; simp
  have hB2 : Below w.heap.size w W2 := by rw [hW2]; exact below2 _ _ _
  go_enter Tryd.func5, Tryd.ntmps5
  go_wp2_with fail
  rw [← hW2]
  clear hW2
  refine (known_any _ (hN.kept hB2)).mono ?_
  rintro r w3 ⟨rfl, b3⟩
  have HB3 : Hid (Below W2.heap.size W2 w3) := b3
  have hc3 := (HK.out _ HB3.out).2.1
  have hd3 := (HK.out _ HB3.out).2.2
  clear b3
  go_wp2_with fail
  refine (HOf.out _ (HK.out _ HB3.out).1).mono ?_
  rintro r w4 ⟨b, d', rfl, hbb, hrow, hdi, hda, hds, b4⟩
  have HB4 : Hid (Below W2.heap.size W2 w4) := HB3.out.trans (b4.mono HB3.out.size)
  have hc4 := (HK.out _ HB4.out).2.1
  have hd4 := (HK.out _ HB4.out).2.2
  have HM1 : Hid (∀ W, Below w4.heap.size w4 W → Calls Tryd.prog 106 #[.agg #[.pointer (some ⟨b, 0, none⟩)], .agg #[.int .i64 k', .string t', .int .i64 a', .int .u64 f', .string s', .int .i64 r0', .int .i64 r1', .int .i64 r2', .int .i64 r3', .slice pp' path'.length pc', .slice ip' items'.length ic']] W fun r w' => r = .returned (.tuple #[.int .i64 i1, .bool q1]) ∧ Below W.heap.size W w') := fun W hW => (HM.out w4 W b d' (HK.out _ HB4.out).1 hW hrow hds).1
  have HM2 : Hid (∀ W, Below w4.heap.size w4 W → Calls Tryd.prog 106 #[.agg #[.pointer (some ⟨b, 0, none⟩)], .agg #[.int .i64 3, .string t, .int .i64 a, .int .u64 f, .string s, .int .i64 r0, .int .i64 r1, .int .i64 r2, .int .i64 r3, .slice pp path.length pc, .slice ip items.length ic]] W fun r w' => r = .returned (.tuple #[.int .i64 i2, .bool q2]) ∧ Below W.heap.size W w') := fun W hW => (HM.out w4 W b d' (HK.out _ HB4.out).1 hW hrow hds).2
  clear b4 hbb hrow hdi hda hds hc3 hd3 HM HOf
  go_wp2_with fail
  refine (HRX.out _ (HK.out _ HB4.out).1).mono ?_
  rintro r w5 ⟨rfl, b5⟩
  have HA5 : Hid (Below w4.heap.size w4 w5) := b5
  have HB5 : Hid (Below W2.heap.size W2 w5) := HB4.out.trans (b5.mono HB4.out.size)
  have hc5 := (HK.out _ HB5.out).2.1
  have hd5 := (HK.out _ HB5.out).2.2
  clear b5 hc4 hd4
  go_wp2_with (go_at_call 20; refine (HOr.out _).mono ?_; rintro r w6 ⟨rfl, b6⟩; have HA6 : Hid (Below w4.heap.size w4 w6) := HA5.out.trans (b6.mono HA5.out.size); have HB6 : Hid (Below W2.heap.size W2 w6) := HB5.out.trans (b6.mono HB5.out.size); have hc6 := (HK.out _ HB6.out).2.1; have hd6 := (HK.out _ HB6.out).2.2; clear b6 hc5 hd5)
  refine (HM1.out _ HA6.out).mono ?_
  rintro r w7 ⟨rfl, b7⟩
  have HA7 : Hid (Below w4.heap.size w4 w7) := HA6.out.trans (b7.mono HA6.out.size)
  have HB7 : Hid (Below W2.heap.size W2 w7) := HB6.out.trans (b7.mono HB6.out.size)
  have hc7 := (HK.out _ HB7.out).2.1
  have hd7 := (HK.out _ HB7.out).2.2
  clear b7 hc6 hd6
  go_wp2_with fail
  refine (HF1.out _ (HK.out _ HB7.out).1).mono ?_
  rintro r w8 ⟨rfl, b8⟩
  have HA8 : Hid (Below w4.heap.size w4 w8) := HA7.out.trans (b8.mono HA7.out.size)
  have HB8 : Hid (Below W2.heap.size W2 w8) := HB7.out.trans (b8.mono HB7.out.size)
  have hc8 := (HK.out _ HB8.out).2.1
  have hd8 := (HK.out _ HB8.out).2.2
  clear b8 hc7 hd7
  go_wp2_with fail
  refine (HM2.out _ HA8.out).mono ?_
  rintro r w9 ⟨rfl, b9⟩
  have HA9 : Hid (Below w4.heap.size w4 w9) := HA8.out.trans (b9.mono HA8.out.size)
  have HB9 : Hid (Below W2.heap.size W2 w9) := HB8.out.trans (b9.mono HB8.out.size)
  have hc9 := (HK.out _ HB9.out).2.1
  have hd9 := (HK.out _ HB9.out).2.2
  clear b9 hc8 hd8
  go_wp2_with fail
  refine (HF2.out _ (HK.out _ HB9.out).1).mono ?_
  rintro r w10 ⟨rfl, b10⟩
  have HA10 : Hid (Below w4.heap.size w4 w10) := HA9.out.trans (b10.mono HA9.out.size)
  have HB10 : Hid (Below W2.heap.size W2 w10) := HB9.out.trans (b10.mono HB9.out.size)
  have hc10 := (HK.out _ HB10.out).2.1
  have hd10 := (HK.out _ HB10.out).2.2
  clear b10 hc9 hd9
  go_wp2_with fail
  go_ret
  exact ⟨by simp, (HK.out _ HB10.out).1⟩

theorem taX (T : TypeId) (hT : T = 123 ∨ T = 129 ∨ T = 130 ∨ T = 131 ∨ T = 132 ∨ T = 73 ∨ T = 78) (v : Value) (U : World) : (Instr.typeAssert (.iface T v) 34 45 true).run Tryd.prog U = .ok (.tuple #[.nilIface, .bool false]) U := by
  rcases hT with rfl | rfl | rfl | rfl | rfl | rfl | rfl <;> exact run_typeAssert_lacksB Tryd.underlying45 (by kernel_rfl) (by kernel_rfl) v 34 U
theorem taX0 (U : World) : (Instr.typeAssert .nilIface 34 45 true).run Tryd.prog U = .ok (.tuple #[.nilIface, .bool false]) U := by kernel_rfl
theorem ranksLaw_kind (n : Nat) (x y : MD) (w : World) (hN : NamesAt w) (hx : MD.In w.heap.size w n x) (h : MD.right n x = true) (T : TypeId) (hT : T = 123 ∨ T = 129 ∨ T = 130 ∨ T = 131 ∨ T = 132 ∨ T = 73 ∨ T = 78) (ho : (x.h.k == 2 || x.h.k == 3 || x.h.k == 4) = false)
    (hof : ∀ W, Below w.heap.size w W → Calls Tryd.prog 14 #[x.val] W (OfP n x T W)) : Calls Tryd.prog 5 #[x.val, y.val] w fun r w' => r = .returned (.bool true) ∧ Below w.heap.size w w' :=
  ranksLaw_no n x y w hN hx true false rfl h ho fun W hW => (hof W hW).mono fun _ _ ⟨_, _, e1, _, _, _, _, _, e7⟩ => ⟨⟨_, _, e1, taX T hT _⟩, e7⟩
theorem ranksLaw_any (n : Nat) (x y : MD) (w : World) (hN : NamesAt w) (hx : MD.In w.heap.size w n x) (hy : MD.In w.heap.size w n y) : Calls Tryd.prog 5 #[x.val, y.val] w fun r w' => r = .returned (.bool true) ∧ Below w.heap.size w w' := by
  by_cases h : MD.right n x = true
  · rcases kinds x.h.k with hk | hk | hk | hk | hk | hk | hk | hk | hk | hk | hk
    · exact ranksLaw_no n x y w hN hx true false rfl h (by rw [hk]; rfl) fun W hW => (Of_zero n x W (hN.kept hW) (hx.later (Nat.le_refl _) hW) h hk).mono fun _ _ hr => ⟨⟨_, _, hr.1, taX0⟩, hr.2⟩
    · exact ranksLaw_kind n x y w hN hx h 123 (by simp) (by rw [hk]; rfl) fun W hW => Of_kind n x W (hN.kept hW) (hx.later (Nat.le_refl _) hW) h 123 (fun b W' e hb => by rw [hk] at e; exact behind_1 b W' e hb) (fun v W' => ta1r v W')
    · exact ranksLaw_2 n x y w hN hx hy h hk
    · exact ranksLaw_3 n x y w hN hx hy h hk
    · exact ranksLaw_4 n x y w hN hx hy h hk
    · exact ranksLaw_kind n x y w hN hx h 129 (by simp) (by rw [hk]; rfl) fun W hW => Of_kind n x W (hN.kept hW) (hx.later (Nat.le_refl _) hW) h 129 (fun b W' e hb => by rw [hk] at e; exact behind_5 b W' e hb) (fun v W' => taR5 v W')
    · exact ranksLaw_kind n x y w hN hx h 130 (by simp) (by rw [hk]; rfl) fun W hW => Of_kind n x W (hN.kept hW) (hx.later (Nat.le_refl _) hW) h 130 (fun b W' e hb => by rw [hk] at e; exact behind_6 b W' e hb) (fun v W' => taR6 v W')
    · exact ranksLaw_kind n x y w hN hx h 131 (by simp) (by rw [hk]; rfl) fun W hW => Of_kind n x W (hN.kept hW) (hx.later (Nat.le_refl _) hW) h 131 (fun b W' e hb => by rw [hk] at e; exact behind_7 b W' e hb) (fun v W' => taR7 v W')
    · exact ranksLaw_no n x y w hN hx true false rfl h (by rw [hk]; rfl) fun W hW => (Of_struct n x W (hN.kept hW) (hx.later (Nat.le_refl _) hW) h hk).mono fun _ _ ⟨T, ⟨_, _, e1, _, _, _, _, _, e7⟩, hT⟩ => ⟨⟨_, _, e1, taX T (by rcases hT with ⟨e, _⟩ | ⟨e, _⟩ <;> simp [e]) _⟩, e7⟩
    · exact ranksLaw_kind n x y w hN hx h 132 (by simp) (by rw [hk]; rfl) fun W hW => Of_kind n x W (hN.kept hW) (hx.later (Nat.le_refl _) hW) h 132 (fun b W' e hb => by rw [hk] at e; exact behind_9 b W' e hb) (fun v W' => taR9 v W')
    · exfalso
      cases n with
      | zero => exact hx
      | succ n =>
        have hf := right_full h
        have h1 : (headOK x.h x.items.length && (x.h.k != 8 || (decide (x.items.length ≤ 30) && x.items.all (MD.full n)))) = true := hf
        rw [Bool.and_eq_true] at h1
        have h2 := h1.1
        unfold headOK at h2
        rw [Bool.and_eq_true, Bool.and_eq_true] at h2
        have := tyB_range h2.1.1
        omega
  · have h' : MD.right n x = false := by simpa using h
    exact ranksLaw_no n x y w hN hx false _ rfl h' rfl fun W hW => (Of_wrong n x W (hN.kept hW) (hx.later (Nat.le_refl _) hW) h').mono fun _ _ ⟨⟨_, e1, _⟩, e3⟩ => ⟨⟨_, _, e1, taX0⟩, e3⟩
end Go.Proofs.YtnhbpcmiolkllaaDoor
