/-
  How two ordered data stand to one another: rank, broken, Equal.
-/
import Derived.Test.YtnhbpcmiolkllabDoorEaJ
import Derived.Test.YtnhbpcmiolkllabDoorIf2
import Derived.Test.YtnhbpcmiolkllabDoorIe2
import Derived.Test.YtnhbpcmiolkllabDoorId2
import Derived.Test.YtnhbpcmiolkllabDoorIc2J
import Derived.Test.YtnhbpcmiolkllabDoorXJ
namespace Go.Proofs.YtnhbpcmiolkllabDoor
open Go.RowKit
attribute [local go_sem] refold2 cell3_0 cell3_1 b28_0 b28_01

theorem sameH_all {h h' : Hd} {i i' : Nat} (e : sameH h h' i i' = true) : h'.k = h.k ∧ h'.t = h.t ∧ h'.n = h.n ∧ h'.f = h.f ∧ h'.s = h.s ∧ h'.r0 = h.r0 ∧ h'.r1 = h.r1 ∧ h'.r2 = h.r2 ∧ h'.r3 = h.r3 ∧ i' = i := by
  have := of_decide_eq_true e
  simp only [this, and_self]
theorem same_parts {n : Nat} {x d : MD} (h : MD.same (n + 1) x d = true) : d.h.k = x.h.k ∧ d.h.t = x.h.t ∧ d.h.n = x.h.n ∧ d.h.f = x.h.f ∧ d.h.s = x.h.s ∧ d.h.r0 = x.h.r0 ∧ d.h.r1 = x.h.r1 ∧ d.h.r2 = x.h.r2 ∧ d.h.r3 = x.h.r3 ∧ d.items.length = x.items.length ∧ d.h.path = x.h.path ∧ all2 (MD.same n) x.items d.items = true := by
  have h1 : (sameH x.h d.h x.items.length d.items.length && decide (x.h.path = d.h.path) && all2 (MD.same n) x.items d.items) = true := h
  rw [Bool.and_eq_true, Bool.and_eq_true] at h1
  have ep := of_decide_eq_true h1.1.2
  obtain ⟨e0, e1, e2, e3, e4, e5, e6, e7, e8, e9⟩ := sameH_all h1.1.1
  exact ⟨e0, e1, e2, e3, e4, e5, e6, e7, e8, e9, ep.symm, h1.2⟩
theorem fl_in (k : Int) (t : ByteArray) (n f : Int) (s : ByteArray) (B : Nat) (w : World) (k0 : -9223372036854775808 ≤ k) (k1 : k ≤ 9223372036854775807) (n0 : -9223372036854775808 ≤ n) (n1 : n ≤ 9223372036854775807) (f0 : 0 ≤ f) (f1 : f ≤ 18446744073709551615) (t0 : t.size ≤ maxLen) (s0 : s.size ≤ maxLen) : MD.In B w 1 (fl k t n f s) :=
  ⟨⟨k0, k1, n0, n1, f0, f1, show (-9223372036854775808 : Int) ≤ 0 by decide, show (0 : Int) ≤ 9223372036854775807 by decide, show (-9223372036854775808 : Int) ≤ 0 by decide, show (0 : Int) ≤ 9223372036854775807 by decide, show (-9223372036854775808 : Int) ≤ 0 by decide, show (0 : Int) ≤ 9223372036854775807 by decide, show (-9223372036854775808 : Int) ≤ 0 by decide, show (0 : Int) ≤ 9223372036854775807 by decide, t0, s0, Nat.le_refl _, Nat.zero_le _⟩, ⟨fun x hx => (by cases hx), .inl rfl⟩, Nat.le_refl _, Nat.zero_le _, .inl rfl⟩
theorem ord_in {K : Int} {x : MD} (h : OrdK K x) (B : Nat) (w : World) : MD.In B w 1 x := by
  rcases h with ⟨_, a, rfl, h0, h1⟩ | ⟨_, f, rfl, h0, h1, _⟩ | ⟨_, s, rfl, h0⟩
  · exact fl_in _ _ _ _ _ _ _ (by decide) (by decide) h0 h1 (by decide) (by decide) (by decide) (by decide)
  · exact fl_in _ _ _ _ _ _ _ (by decide) (by decide) (by decide) (by decide) h0 h1 (by decide) (by decide)
  · exact fl_in _ _ _ _ _ _ _ (by decide) (by decide) (by decide) (by decide) (by decide) (by decide) (by decide) (by unfold maxLen; omega)
theorem ord_right {K : Int} {x : MD} (h : OrdK K x) : MD.right 1 x = true := by
  rcases h with ⟨_, a, rfl, h0, h1⟩ | ⟨_, f, rfl, h0, h1, h2⟩ | ⟨_, s, rfl, h0⟩
  · simp [MD.right, MD.full, MD.size, headOK, tyB, zeroK, kindB, fl]
  · unfold flOK at h2
    simp only [Bool.or_eq_true, beq_iff_eq, Bool.not_eq_true'] at h2
    simp [MD.right, MD.full, MD.size, headOK, tyB, zeroK, kindB, fl, h2]
  · have h3 : s.size ≤ 65536 := by omega
    simp [MD.right, MD.full, MD.size, headOK, tyB, zeroK, kindB, fl, h3]

set_option maxRecDepth 100000 in
set_option maxHeartbeats 2000000 in
theorem rank_T2 (x y : MD) (w : World) (T : TypeId) (i : Int) (q : Bool) (hOf : ∀ W, Below w.heap.size w W → Calls Tryd.prog 17 #[x.val] W (OfP 1 x T W))
    (hs : ∀ (v : Value) (W : World), (Instr.typeAssert (.iface T v) 49 58 true).run Tryd.prog W = .ok (.tuple #[.iface T v, .bool true]) W)
    (hm : ∀ (b : Nat) (W : World), (method 253 T (.agg #[.pointer (some ⟨b, 0, none⟩)]) "Rank").run Tryd.prog W = .ok (79, .agg #[.pointer (some ⟨b, 0, none⟩)]) W)
    (hR : ∀ (b : Nat) (d : MD) (W : World), Below w.heap.size w W → W.heap[b]? = some (.cells d.cells 32 (0, 0)) → MD.same 1 x d = true → Calls Tryd.prog 79 #[.agg #[.pointer (some ⟨b, 0, none⟩)], y.val] W fun r w' => r = .returned (.tuple #[.int .i64 i, .bool q]) ∧ Below W.heap.size W w') :
    Calls Tryd.prog 15 #[x.val, y.val] w fun r w' => r = .returned (.int .i64 (if q then i else 9)) ∧ Below w.heap.size w w' := by
  have HOf : Hid _ := hOf
  have HR : Hid _ := hR
  clear hOf hR
  obtain ⟨⟨k, t, a, f, s, r0, r1, r2, r3, pp, path, pc⟩, ip, ic, items⟩ := x
  obtain ⟨⟨k', t', a', f', s', r0', r1', r2', r3', pp', path', pc'⟩, ip', ic', items'⟩ := y
  simp only [MD.val, D] at HOf HR ⊢
  go_enter Tryd.func15, Tryd.ntmps15
  go_wp2_with fail
  refine (HOf.out _ (below2 _ _ _)).mono ?_
  rintro r w4 ⟨b, d', rfl, _, hrow, _, _, hds, b4⟩
  have hd4 := (kept2 b4).2.2
  have HB4 : Hid (Below w.heap.size w w4) := (kept2 b4).1
  have HRr : Hid (w4.heap[b]? = some (.cells d'.cells 32 (0, 0)) ∧ _) := ⟨hrow, hds⟩
  clear b4 hrow hds
  go_wp2_with fail
  refine (HR.out b d' w4 HB4.out HRr.out.1 HRr.out.2).mono ?_
  rintro r w5 ⟨rfl, b5⟩
  have HB5 : Hid (Below w.heap.size w w5) := HB4.out.trans (b5.mono HB4.out.size)
  clear b5 hd4
  cases q
  · go_wp2_with fail
    go_ret
    exact ⟨rfl, HB5.out⟩
  · go_wp2_with fail
    go_ret
    exact ⟨rfl, HB5.out⟩
set_option maxRecDepth 100000 in
set_option maxHeartbeats 2000000 in
theorem rank_T3 (x y : MD) (w : World) (T : TypeId) (i : Int) (q : Bool) (hOf : ∀ W, Below w.heap.size w W → Calls Tryd.prog 17 #[x.val] W (OfP 1 x T W))
    (hs : ∀ (v : Value) (W : World), (Instr.typeAssert (.iface T v) 49 58 true).run Tryd.prog W = .ok (.tuple #[.iface T v, .bool true]) W)
    (hm : ∀ (b : Nat) (W : World), (method 253 T (.agg #[.pointer (some ⟨b, 0, none⟩)]) "Rank").run Tryd.prog W = .ok (76, .agg #[.pointer (some ⟨b, 0, none⟩)]) W)
    (hR : ∀ (b : Nat) (d : MD) (W : World), Below w.heap.size w W → W.heap[b]? = some (.cells d.cells 32 (0, 0)) → MD.same 1 x d = true → Calls Tryd.prog 76 #[.agg #[.pointer (some ⟨b, 0, none⟩)], y.val] W fun r w' => r = .returned (.tuple #[.int .i64 i, .bool q]) ∧ Below W.heap.size W w') :
    Calls Tryd.prog 15 #[x.val, y.val] w fun r w' => r = .returned (.int .i64 (if q then i else 9)) ∧ Below w.heap.size w w' := by
  have HOf : Hid _ := hOf
  have HR : Hid _ := hR
  clear hOf hR
  obtain ⟨⟨k, t, a, f, s, r0, r1, r2, r3, pp, path, pc⟩, ip, ic, items⟩ := x
  obtain ⟨⟨k', t', a', f', s', r0', r1', r2', r3', pp', path', pc'⟩, ip', ic', items'⟩ := y
  simp only [MD.val, D] at HOf HR ⊢
  go_enter Tryd.func15, Tryd.ntmps15
  go_wp2_with fail
  refine (HOf.out _ (below2 _ _ _)).mono ?_
  rintro r w4 ⟨b, d', rfl, _, hrow, _, _, hds, b4⟩
  have hd4 := (kept2 b4).2.2
  have HB4 : Hid (Below w.heap.size w w4) := (kept2 b4).1
  have HRr : Hid (w4.heap[b]? = some (.cells d'.cells 32 (0, 0)) ∧ _) := ⟨hrow, hds⟩
  clear b4 hrow hds
  go_wp2_with fail
  refine (HR.out b d' w4 HB4.out HRr.out.1 HRr.out.2).mono ?_
  rintro r w5 ⟨rfl, b5⟩
  have HB5 : Hid (Below w.heap.size w w5) := HB4.out.trans (b5.mono HB4.out.size)
  clear b5 hd4
  cases q
  · go_wp2_with fail
    go_ret
    exact ⟨rfl, HB5.out⟩
  · go_wp2_with fail
    go_ret
    exact ⟨rfl, HB5.out⟩
set_option maxRecDepth 100000 in
set_option maxHeartbeats 2000000 in
theorem rank_T4 (x y : MD) (w : World) (T : TypeId) (i : Int) (q : Bool) (hOf : ∀ W, Below w.heap.size w W → Calls Tryd.prog 17 #[x.val] W (OfP 1 x T W))
    (hs : ∀ (v : Value) (W : World), (Instr.typeAssert (.iface T v) 49 58 true).run Tryd.prog W = .ok (.tuple #[.iface T v, .bool true]) W)
    (hm : ∀ (b : Nat) (W : World), (method 253 T (.agg #[.pointer (some ⟨b, 0, none⟩)]) "Rank").run Tryd.prog W = .ok (81, .agg #[.pointer (some ⟨b, 0, none⟩)]) W)
    (hR : ∀ (b : Nat) (d : MD) (W : World), Below w.heap.size w W → W.heap[b]? = some (.cells d.cells 32 (0, 0)) → MD.same 1 x d = true → Calls Tryd.prog 81 #[.agg #[.pointer (some ⟨b, 0, none⟩)], y.val] W fun r w' => r = .returned (.tuple #[.int .i64 i, .bool q]) ∧ Below W.heap.size W w') :
    Calls Tryd.prog 15 #[x.val, y.val] w fun r w' => r = .returned (.int .i64 (if q then i else 9)) ∧ Below w.heap.size w w' := by
  have HOf : Hid _ := hOf
  have HR : Hid _ := hR
  clear hOf hR
  obtain ⟨⟨k, t, a, f, s, r0, r1, r2, r3, pp, path, pc⟩, ip, ic, items⟩ := x
  obtain ⟨⟨k', t', a', f', s', r0', r1', r2', r3', pp', path', pc'⟩, ip', ic', items'⟩ := y
  simp only [MD.val, D] at HOf HR ⊢
  go_enter Tryd.func15, Tryd.ntmps15
  go_wp2_with fail
  refine (HOf.out _ (below2 _ _ _)).mono ?_
  rintro r w4 ⟨b, d', rfl, _, hrow, _, _, hds, b4⟩
  have hd4 := (kept2 b4).2.2
  have HB4 : Hid (Below w.heap.size w w4) := (kept2 b4).1
  have HRr : Hid (w4.heap[b]? = some (.cells d'.cells 32 (0, 0)) ∧ _) := ⟨hrow, hds⟩
  clear b4 hrow hds
  go_wp2_with fail
  refine (HR.out b d' w4 HB4.out HRr.out.1 HRr.out.2).mono ?_
  rintro r w5 ⟨rfl, b5⟩
  have HB5 : Hid (Below w.heap.size w w5) := HB4.out.trans (b5.mono HB4.out.size)
  clear b5 hd4
  cases q
  · go_wp2_with fail
    go_ret
    exact ⟨rfl, HB5.out⟩
  · go_wp2_with fail
    go_ret
    exact ⟨rfl, HB5.out⟩
theorem taO2p (v : Value) (W : World) : (Instr.typeAssert (.iface 122 v) 49 58 true).run Tryd.prog W = .ok (.tuple #[.iface 122 v, .bool true]) W := run_typeAssert_hasB Tryd.underlying58 (by kernel_rfl) v 49 W
theorem taO3p (v : Value) (W : World) : (Instr.typeAssert (.iface 111 v) 49 58 true).run Tryd.prog W = .ok (.tuple #[.iface 111 v, .bool true]) W := run_typeAssert_hasB Tryd.underlying58 (by kernel_rfl) v 49 W
theorem taO4p (v : Value) (W : World) : (Instr.typeAssert (.iface 123 v) 49 58 true).run Tryd.prog W = .ok (.tuple #[.iface 123 v, .bool true]) W := run_typeAssert_hasB Tryd.underlying58 (by kernel_rfl) v 49 W
theorem rank_2 (t : ByteArray) (x y : MD) (w : World) (hN : NamesAt w) (a c : Int) (hx : x = fl 2 t a 0 ⟨#[]⟩) (hy : y = fl 2 t c 0 ⟨#[]⟩) (ix : ∀ B W, MD.In B W 1 x) (iy : ∀ B W, MD.In B W 1 y) (rx : MD.right 1 x = true) (ry : MD.right 1 y = true) :
    Calls Tryd.prog 15 #[x.val, y.val] w fun r w' => r = .returned (.int .i64 (rankI a c)) ∧ Below w.heap.size w w' := by
  refine rank_T2 x y w 122 (rankI a c) true (fun W hW => Of_kind 1 x W (hN.kept hW) (ix _ _) rx 122 (fun b W' e hb => by rw [hx] at e; exact behind_2 b W' e hb) (fun v W' => ta2r v W')) taO2p (fun b W => by kernel_rfl) (fun b d W hW hrow hds => ?_)
  obtain ⟨⟨l0, l1, l2, l3, l4, l5, l6, l7, l8, lp, lpath, lpc⟩, lip, lic, lit⟩ := d
  subst hx hy
  obtain ⟨e0, e1, e2, e3, e4, e5, e6, e7, e8, e9, ep, ea⟩ := same_parts hds
  simp only [fl] at e0 e1 e2 e3 e4
  subst e0 e1 e2 e3 e4
  refine (RankM_2 b 2 l1 l2 0 ⟨#[]⟩ l5 l6 l7 l8 lp lpath lpc lip lic lit 2 l1 c 0 ⟨#[]⟩ 0 0 0 0 none [] 0 none 0 [] W true hrow (fun V hV => ?_)).mono fun r w' hr => hr
  have h := beside_like 1 b 2 l1 l2 0 ⟨#[]⟩ l5 l6 l7 l8 lp lpath lpc lip lic lit 2 l1 c 0 ⟨#[]⟩ 0 0 0 0 none [] 0 none 0 [] V (hN.kept (hW.trans (hV.mono hW.size))) ((hV.block b (Array.getElem?_eq_some_iff.1 hrow).1).trans hrow) (iy _ _) ⟨rfl, rfl⟩
  refine h.mono fun r w' hr => ⟨?_, hr.2⟩
  rw [hr.1]
  exact congrArg (fun q => Ending.returned (.bool q)) ry
theorem rank_3 (t : ByteArray) (x y : MD) (w : World) (hN : NamesAt w) (a c : Int) (a0 : 0 ≤ a) (a1 : a ≤ 18446744073709551615) (c0 : 0 ≤ c) (c1 : c ≤ 18446744073709551615) (hx : x = fl 3 t 0 a ⟨#[]⟩) (hy : y = fl 3 t 0 c ⟨#[]⟩) (ix : ∀ B W, MD.In B W 1 x) (iy : ∀ B W, MD.In B W 1 y) (rx : MD.right 1 x = true) (ry : MD.right 1 y = true) :
    Calls Tryd.prog 15 #[x.val, y.val] w fun r w' => r = .returned (.int .i64 (if isNan a.toNat = true ∨ isNan c.toNat = true then 9 else rankI (rnk a) (rnk c))) ∧ Below w.heap.size w w' := by
  have e : (if isNan a.toNat = true ∨ isNan c.toNat = true then 9 else rankI (rnk a) (rnk c)) = (if (rankF a c).2 then (rankF a c).1 else 9) := by
    rw [rankF_rnk a c a0 a1 c0 c1]
    split <;> rfl
  rw [e]
  refine rank_T3 x y w 111 (rankF a c).1 (rankF a c).2 (fun W hW => Of_kind 1 x W (hN.kept hW) (ix _ _) rx 111 (fun b W' e hb => by rw [hx] at e; exact behind_3 b W' e hb) (fun v W' => ta3r v W')) taO3p (fun b W => by kernel_rfl) (fun b d W hW hrow hds => ?_)
  obtain ⟨⟨l0, l1, l2, l3, l4, l5, l6, l7, l8, lp, lpath, lpc⟩, lip, lic, lit⟩ := d
  subst hx hy
  obtain ⟨e0, e1, e2, e3, e4, e5, e6, e7, e8, e9, ep, ea⟩ := same_parts hds
  simp only [fl] at e0 e1 e2 e3 e4
  subst e0 e1 e2 e3 e4
  refine (RankM_3 b 3 l1 0 l3 ⟨#[]⟩ l5 l6 l7 l8 lp lpath lpc lip lic lit 3 l1 0 c ⟨#[]⟩ 0 0 0 0 none [] 0 none 0 [] W true hrow (fun V hV => ?_)).mono fun r w' hr => hr
  have h := beside_like 1 b 3 l1 0 l3 ⟨#[]⟩ l5 l6 l7 l8 lp lpath lpc lip lic lit 3 l1 0 c ⟨#[]⟩ 0 0 0 0 none [] 0 none 0 [] V (hN.kept (hW.trans (hV.mono hW.size))) ((hV.block b (Array.getElem?_eq_some_iff.1 hrow).1).trans hrow) (iy _ _) ⟨rfl, rfl⟩
  refine h.mono fun r w' hr => ⟨?_, hr.2⟩
  rw [hr.1]
  exact congrArg (fun q => Ending.returned (.bool q)) ry
theorem rank_4 (t : ByteArray) (x y : MD) (w : World) (hN : NamesAt w) (a c : ByteArray) (hx : x = fl 4 t 0 0 a) (hy : y = fl 4 t 0 0 c) (ix : ∀ B W, MD.In B W 1 x) (iy : ∀ B W, MD.In B W 1 y) (rx : MD.right 1 x = true) (ry : MD.right 1 y = true) :
    Calls Tryd.prog 15 #[x.val, y.val] w fun r w' => r = .returned (.int .i64 (rankS a c).1) ∧ Below w.heap.size w w' := by
  have e : (rankS a c).2 = true := by
    unfold rankS
    split
    · rfl
    · split <;> rfl
  have e2 : (rankS a c).1 = (if (rankS a c).2 then (rankS a c).1 else 9) := by rw [e]; rfl
  rw [e2]
  refine rank_T4 x y w 123 (rankS a c).1 (rankS a c).2 (fun W hW => Of_kind 1 x W (hN.kept hW) (ix _ _) rx 123 (fun b W' e hb => by rw [hx] at e; exact behind_4 b W' e hb) (fun v W' => ta4r v W')) taO4p (fun b W => by kernel_rfl) (fun b d W hW hrow hds => ?_)
  obtain ⟨⟨l0, l1, l2, l3, l4, l5, l6, l7, l8, lp, lpath, lpc⟩, lip, lic, lit⟩ := d
  subst hx hy
  obtain ⟨e0, e1, e2, e3, e4, e5, e6, e7, e8, e9, ep, ea⟩ := same_parts hds
  simp only [fl] at e0 e1 e2 e3 e4
  subst e0 e1 e2 e3 e4
  refine (RankM_4 b 4 l1 0 0 l4 l5 l6 l7 l8 lp lpath lpc lip lic lit 4 l1 0 0 c 0 0 0 0 none [] 0 none 0 [] W true hrow (fun V hV => ?_)).mono fun r w' hr => hr
  have h := beside_like 1 b 4 l1 0 0 l4 l5 l6 l7 l8 lp lpath lpc lip lic lit 4 l1 0 0 c 0 0 0 0 none [] 0 none 0 [] V (hN.kept (hW.trans (hV.mono hW.size))) ((hV.block b (Array.getElem?_eq_some_iff.1 hrow).1).trans hrow) (iy _ _) ⟨rfl, rfl⟩
  refine h.mono fun r w' hr => ⟨?_, hr.2⟩
  rw [hr.1]
  exact congrArg (fun q => Ending.returned (.bool q)) ry

/-- Does a NaN stand in it? -/
def brk (x : MD) : Bool := x.h.k == 3 && isNan x.h.f.toNat
theorem wrap4096 (f : Int) : IntKind.u64.wrap (f * 4096) = f * 4096 % 18446744073709551616 := by simp [IntKind.wrap, IntKind.bits, IntKind.signed]
set_option maxRecDepth 100000 in
set_option maxHeartbeats 2000000 in
theorem broken_fl (k : Int) (t : ByteArray) (n f : Int) (s : ByteArray) (w : World) (h0 : 0 ≤ f) (h1 : f ≤ 18446744073709551615) : Calls Tryd.prog 9 #[(fl k t n f s).val] w fun r w' => r = .returned (.bool (brk (fl k t n f s))) ∧ Below w.heap.size w w' := by
  have e3 : isNan f.toNat = ((f / 4503599627370496 % 2048 == 2047) && (f * 4096 % 18446744073709551616 != 0)) := by
    unfold isNan
    rw [Bool.eq_iff_iff]
    simp
    omega
  have e1 := and2047 (f / 4503599627370496) (by omega) (by omega)
  have e2 := wrap4096 f
  show Calls Tryd.prog 9 #[.agg #[.int .i64 k, .string t, .int .i64 n, .int .u64 f, .string s, .int .i64 0, .int .i64 0, .int .i64 0, .int .i64 0, .slice none 0 0, .slice none 0 0]] w fun r w' => r = .returned (.bool (k == 3 && isNan f.toNat)) ∧ Below w.heap.size w w'
  rw [e3]
  by_cases hk : k = 3
  · subst hk
    by_cases hq : f / 4503599627370496 % 2048 = 2047
    · have q1 : bits .and .u64 (f / 4503599627370496) 2047 = 2047 := e1.trans hq
      by_cases hp : f * 4096 % 18446744073709551616 = 0
      · have q2 : IntKind.u64.wrap (f * 4096) = 0 := e2.trans hp
        have e : ((3 : Int) == 3 && ((f / 4503599627370496 % 2048 == 2047) && (f * 4096 % 18446744073709551616 != 0))) = false := by simp [hp]
        rw [e]
        clear e e1 e2 e3 hq hp
        go_enter Tryd.func9, Tryd.ntmps9
        go_wp2_with fail
        go_loopw [3, 4] (fun i _ wr => i = .int .i64 0 ∧ Hid (Below w.heap.size w wr ∧ ∀ j, wr.cell? ⟨w.heap.size, j, none⟩ = (#[.int .i64 3, .string t, .int .i64 n, .int .u64 f, .string s, .int .i64 0, .int .i64 0, .int .i64 0, .int .i64 0, .slice none 0 0, .slice none 0 0] : Array Value)[j]?)) (fun _ _ _ => 0)
        case atStart => exact ⟨rfl, below1 _ _, fun j => row_at (heap_alloc_new _ _) j⟩
        case round =>
          obtain ⟨rfl, HR⟩ := hrel
          have hc := HR.out.2
          go_wp2_with fail
          go_ret
          exact ⟨rfl, HR.out.1⟩
      · have q2 : (IntKind.u64.wrap (f * 4096) == 0) = false := by rw [e2]; simpa using hp
        have e : ((3 : Int) == 3 && ((f / 4503599627370496 % 2048 == 2047) && (f * 4096 % 18446744073709551616 != 0))) = true := by simp [hq, hp]
        rw [e]
        clear e e1 e2 e3 hq hp
        go_enter Tryd.func9, Tryd.ntmps9
        go_wp2_with fail
        go_ret
        exact ⟨rfl, below1 _ _⟩
    · have q1 : (bits .and .u64 (f / 4503599627370496) 2047 == 2047) = false := by rw [e1]; simpa using hq
      have e : ((3 : Int) == 3 && ((f / 4503599627370496 % 2048 == 2047) && (f * 4096 % 18446744073709551616 != 0))) = false := by simp [hq]
      rw [e]
      clear e e1 e2 e3 hq
      go_enter Tryd.func9, Tryd.ntmps9
      go_wp2_with fail
      go_loopw [3, 4] (fun i _ wr => i = .int .i64 0 ∧ Hid (Below w.heap.size w wr ∧ ∀ j, wr.cell? ⟨w.heap.size, j, none⟩ = (#[.int .i64 3, .string t, .int .i64 n, .int .u64 f, .string s, .int .i64 0, .int .i64 0, .int .i64 0, .int .i64 0, .slice none 0 0, .slice none 0 0] : Array Value)[j]?)) (fun _ _ _ => 0)
      case atStart => exact ⟨rfl, below1 _ _, fun j => row_at (heap_alloc_new _ _) j⟩
      case round =>
        obtain ⟨rfl, HR⟩ := hrel
        have hc := HR.out.2
        go_wp2_with fail
        go_ret
        exact ⟨rfl, HR.out.1⟩
  · have hk' : (k == 3) = false := by simpa using hk
    rw [hk', Bool.false_and]
    clear e1 e2 e3
    go_enter Tryd.func9, Tryd.ntmps9
    go_wp2_with fail
    go_loopw [3, 4] (fun i _ wr => i = .int .i64 0 ∧ Hid (Below w.heap.size w wr ∧ ∀ j, wr.cell? ⟨w.heap.size, j, none⟩ = (#[.int .i64 k, .string t, .int .i64 n, .int .u64 f, .string s, .int .i64 0, .int .i64 0, .int .i64 0, .int .i64 0, .slice none 0 0, .slice none 0 0] : Array Value)[j]?)) (fun _ _ _ => 0)
    case atStart => exact ⟨rfl, below1 _ _, fun j => row_at (heap_alloc_new _ _) j⟩
    case round =>
      obtain ⟨rfl, HR⟩ := hrel
      have hc := HR.out.2
      go_wp2_with fail
      go_ret
      exact ⟨rfl, HR.out.1⟩
theorem broken_ord {K : Int} {x : MD} (h : OrdK K x) (w : World) : Calls Tryd.prog 9 #[x.val] w fun r w' => r = .returned (.bool (brk x)) ∧ Below w.heap.size w w' := by
  rcases h with ⟨_, a, rfl, _⟩ | ⟨_, f, rfl, h0, h1, _⟩ | ⟨_, s, rfl, _⟩
  · exact broken_fl _ _ _ _ _ w (by decide) (by decide)
  · exact broken_fl _ _ _ _ _ w h0 h1
  · exact broken_fl _ _ _ _ _ w (by decide) (by decide)
end Go.Proofs.YtnhbpcmiolkllabDoor
