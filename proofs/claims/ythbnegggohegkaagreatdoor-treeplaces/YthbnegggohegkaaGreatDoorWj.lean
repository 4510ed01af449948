/-
  Expressions.
-/
import Derived.Test.YthbnegggohegkaaGreatDoorWiJ
namespace Go.Proofs.YthbnegggohegkaaGreatDoor
open Go.RowKit
theorem pp_14 {f rl : Nat} {t : ByteArray} {n a : Int} {p : Option Addr} {c : Nat} {ks : List MT} (hsm : t.size ≤ 65536) (hfew : ks.length ≤ 20000) (hsh : faultSh (shEx []) ks.length = 0) (hk : KP f (shEx []) ks)  : PP (f + 1) rl (.node 14 t n a p c ks) := by
  have hl := fault_ex hsh
  obtain rfl := List.eq_nil_of_length_eq_zero hl
  have Fplain : ∃ g, Wx 132 (f + 1) (.node 14 t n a p c []) g := by
    refine ⟨?gplain, ?hplain⟩
    case hplain =>
      intro L pb base hL hpb x hx
      obtain ⟨a', p', c', rfl⟩ := hx.none
      have r := plain_14 (n := n) (a := a') (p := p') (c := c') (base := base) (pb := pb) (L := L) (small_of hsm) hpb
      exact r
  have Ftname : ∃ g, Wx 72 (f + 1) (.node 14 t n a p c []) g := by
    refine ⟨?gtname, ?htname⟩
    case htname =>
      intro L pb base hL hpb x hx
      obtain ⟨a', p', c', rfl⟩ := hx.none
      have r := typeName_14 (n := n) (a := a') (p := p') (c := c') (base := base) (pb := pb) (L := L) (small_of hsm) hpb
      exact r
  have Fcitem : ∃ g, Wx 138 (f + 1) (.node 14 t n a p c []) g := by
    obtain ⟨g9, h9⟩ := Fplain
    obtain ⟨g8, h8⟩ := h9.expr
    exact h8.citem (show ((14 : Int) == 15) = false from by decide)
  have Fown : ∃ g, Wx 41 (f + 1) (.node 14 t n a p c []) g := by
    obtain ⟨g9, h9⟩ := Fplain
    obtain ⟨g8, h8⟩ := h9.expr
    refine ⟨?gown, ?hown⟩
    case hown =>
      intro L pb base hL hpb x hx
      have r := h8 L pb base hL hpb x hx
      obtain ⟨a', p', c', ys, rfl, hl9, _⟩ := hx.node
      exact ownW_E (by decide +kernel) r hpb
  exact { sm := hsm, few := hfew, plain := fun _ _ => Fplain, stmt := fun h => absurd (show takesB 12 14 = true from h) (by decide +kernel), block := fun h => absurd (show (14 : Int) = 17 from h) (by decide), stmts := fun h => absurd (show (14 : Int) = 17 from h) (by decide), params := fun h => absurd (show (14 : Int) = 13 from h) (by decide), decl := fun h => absurd (show takesB 2 14 = true from h) (by decide +kernel), spart := fun h => absurd (show takesB 3 14 = true from h) (by decide +kernel), ppart := fun h => absurd (show takesB 4 14 = true from h) (by decide +kernel), recv := fun h => absurd (show (14 : Int) = 12 from h) (by decide), tname := fun _ => Ftname, case_ := fun h => absurd (show (14 : Int) = 27 from h) (by decide), pair := fun h => absurd (show (14 : Int) = 40 from h) (by decide), chead := fun h => absurd (show takesB 23 14 = true from h) (by decide +kernel), citem := fun _ _ => Fcitem, own := fun _ => Fown }
theorem pp_35 {f rl : Nat} {t : ByteArray} {n a : Int} {p : Option Addr} {c : Nat} {ks : List MT} (hsm : t.size ≤ 65536) (hfew : ks.length ≤ 20000) (hsh : faultSh (shEx []) ks.length = 0) (hk : KP f (shEx []) ks)  : PP (f + 1) rl (.node 35 t n a p c ks) := by
  have hl := fault_ex hsh
  obtain rfl := List.eq_nil_of_length_eq_zero hl
  have Fplain : ∃ g, Wx 132 (f + 1) (.node 35 t n a p c []) g := by
    refine ⟨?gplain, ?hplain⟩
    case hplain =>
      intro L pb base hL hpb x hx
      obtain ⟨a', p', c', rfl⟩ := hx.none
      have r := plain_35 (n := n) (a := a') (p := p') (c := c') (base := base) (pb := pb) (L := L) (small_of hsm) hpb
      exact r
  exact PP.ofE (by decide +kernel) hsm hfew Fplain
theorem pp_36 {f rl : Nat} {t : ByteArray} {n a : Int} {p : Option Addr} {c : Nat} {ks : List MT} (hsm : t.size ≤ 65536) (hfew : ks.length ≤ 20000) (hsh : faultSh (shEx []) ks.length = 0) (hk : KP f (shEx []) ks)  : PP (f + 1) rl (.node 36 t n a p c ks) := by
  have hl := fault_ex hsh
  obtain rfl := List.eq_nil_of_length_eq_zero hl
  have Fplain : ∃ g, Wx 132 (f + 1) (.node 36 t n a p c []) g := by
    refine ⟨?gplain, ?hplain⟩
    case hplain =>
      intro L pb base hL hpb x hx
      obtain ⟨a', p', c', rfl⟩ := hx.none
      have r := plain_36 (n := n) (a := a') (p := p') (c := c') (base := base) (pb := pb) (L := L) (small_of hsm) hpb
      exact r
  exact PP.ofE (by decide +kernel) hsm hfew Fplain
theorem pp_37 {f rl : Nat} {t : ByteArray} {n a : Int} {p : Option Addr} {c : Nat} {ks : List MT} (hsm : t.size ≤ 65536) (hfew : ks.length ≤ 20000) (hsh : faultSh (shEx []) ks.length = 0) (hk : KP f (shEx []) ks)  : PP (f + 1) rl (.node 37 t n a p c ks) := by
  have hl := fault_ex hsh
  obtain rfl := List.eq_nil_of_length_eq_zero hl
  have Fplain : ∃ g, Wx 132 (f + 1) (.node 37 t n a p c []) g := by
    refine ⟨?gplain, ?hplain⟩
    case hplain =>
      intro L pb base hL hpb x hx
      obtain ⟨a', p', c', rfl⟩ := hx.none
      have r := plain_37 (n := n) (a := a') (p := p') (c := c') (base := base) (pb := pb) (L := L) (text_any hpb hsm) hpb
      exact r
  exact PP.ofE (by decide +kernel) hsm hfew Fplain
theorem pp_39 {f rl : Nat} {t : ByteArray} {n a : Int} {p : Option Addr} {c : Nat} {ks : List MT} (hsm : t.size ≤ 65536) (hfew : ks.length ≤ 20000) (_ : faultSh (shAl 0 [28]) ks.length = 0) (hk : KP f (shAl 0 [28]) ks)  : PP (f + 1) rl (.node 39 t n a p c ks) := by
  have kt : ∀ (i : Nat) (hi : i < ks.length), PP f 28 ks[i] ∧ takesB 28 ks[i].kind = true := fun i hi => by
    have h9 := hk i hi
    have e9 : roleAt (shAl 0 [28]) i = 28 := by show ([28] : List Nat).getD (min i 0) 0 = 28; rw [Nat.min_eq_right (by omega)]; rfl
    rw [e9] at h9
    exact h9
  obtain ⟨gs, hgs⟩ : ∃ gs, WK 75 f ks gs := WK.mk fun i hi => by
    exact (kt i hi).1.pair (is_40 (.inl rfl) (kt i hi).2)
  have Fplain : ∃ g, Wx 132 (f + 1) (.node 39 t n a p c ks) g := by
    refine ⟨?gplain, ?hplain⟩
    case hplain =>
      intro L pb base hL hpb x hx
      obtain ⟨a', p', c', ys, rfl, hl9, hk9⟩ := hx.node
      have r := plain_39 (n := n) (a := a') (t := t) (hgs.list Tryz.call75 hfew L pb base (by omega) hpb ys hl9 hk9 p' c') hpb
      exact r
  exact PP.ofE (by decide +kernel) hsm hfew Fplain
theorem pp_41 {f rl : Nat} {t : ByteArray} {n a : Int} {p : Option Addr} {c : Nat} {ks : List MT} (hsm : t.size ≤ 65536) (hfew : ks.length ≤ 20000) (_ : faultSh (shAl 0 [29]) ks.length = 0) (hk : KP f (shAl 0 [29]) ks)  : PP (f + 1) rl (.node 41 t n a p c ks) := by
  have kt : ∀ (i : Nat) (hi : i < ks.length), PP f 29 ks[i] ∧ takesB 29 ks[i].kind = true := fun i hi => by
    have h9 := hk i hi
    have e9 : roleAt (shAl 0 [29]) i = 29 := by show ([29] : List Nat).getD (min i 0) 0 = 29; rw [Nat.min_eq_right (by omega)]; rfl
    rw [e9] at h9
    exact h9
  obtain ⟨gs, hgs⟩ : ∃ gs, WK 75 f ks gs := WK.mk fun i hi => by
    exact (kt i hi).1.pair (is_40 (.inr rfl) (kt i hi).2)
  have Fplain : ∃ g, Wx 132 (f + 1) (.node 41 t n a p c ks) g := by
    refine ⟨?gplain, ?hplain⟩
    case hplain =>
      intro L pb base hL hpb x hx
      obtain ⟨a', p', c', ys, rfl, hl9, hk9⟩ := hx.node
      have r := plain_41 (n := n) (a := a') (t := t) rfl (by rw [ByteArray.size_append]; have e1 : (⟨#[123]⟩ : ByteArray).size = 1 := rfl; omega) (by omega) (hgs.list Tryz.call75 hfew L pb base (by omega) hpb ys hl9 hk9 p' c') hpb
      exact r
  exact PP.ofE (by decide +kernel) hsm hfew Fplain
theorem pp_42 {f rl : Nat} {t : ByteArray} {n a : Int} {p : Option Addr} {c : Nat} {ks : List MT} (hsm : t.size ≤ 65536) (hfew : ks.length ≤ 20000) (hsh : faultSh (shEx [30]) ks.length = 0) (hk : KP f (shEx [30]) ks)  : PP (f + 1) rl (.node 42 t n a p c ks) := by
  have hl := fault_ex hsh
  simp only [List.length_cons, List.length_nil] at hl
  obtain ⟨t0, r0, rfl⟩ : ∃ x xs, ks = x :: xs := List.exists_cons_of_length_pos (by omega)
  obtain rfl : r0 = [] := List.eq_nil_of_length_eq_zero (by simp only [List.length_cons] at hl; omega)
  have k0 : PP f 30 t0 ∧ takesB 30 t0.kind = true := hk 0 (by simp)
  obtain ⟨g0, h0⟩ := k0.1.plain (sub_18 (by decide) k0.2) (by decide)
  have Fplain : ∃ g, Wx 132 (f + 1) (.node 42 t n a p c [t0]) g := by
    refine ⟨?gplain, ?hplain⟩
    case hplain =>
      intro L pb base hL hpb x hx
      obtain ⟨a', p', c', y0, rfl, l0⟩ := hx.one
      have r := plain_42 (t := t) (n := n) (a := a') (p := p') (c := c') (h0 L pb base (by omega) hpb y0 l0) hpb
      exact r
  exact PP.ofE (by decide +kernel) hsm hfew Fplain
theorem pp_43 {f rl : Nat} {t : ByteArray} {n a : Int} {p : Option Addr} {c : Nat} {ks : List MT} (hsm : t.size ≤ 65536) (hfew : ks.length ≤ 20000) (hsh : faultSh (shEx [8, 11]) ks.length = 0) (hk : KP f (shEx [8, 11]) ks)  : PP (f + 1) rl (.node 43 t n a p c ks) := by
  have hl := fault_ex hsh
  simp only [List.length_cons, List.length_nil] at hl
  obtain ⟨t0, r0, rfl⟩ : ∃ x xs, ks = x :: xs := List.exists_cons_of_length_pos (by omega)
  obtain ⟨t1, r1, rfl⟩ : ∃ x xs, r0 = x :: xs := List.exists_cons_of_length_pos (by simp only [List.length_cons] at hl; omega)
  obtain rfl : r1 = [] := List.eq_nil_of_length_eq_zero (by simp only [List.length_cons] at hl; omega)
  have k0 : PP f 8 t0 ∧ takesB 8 t0.kind = true := hk 0 (by simp)
  have k1 : PP f 11 t1 ∧ takesB 11 t1.kind = true := hk 1 (by simp)
  obtain ⟨g0, h0⟩ := k0.1.params (is_13 k0.2)
  obtain ⟨g1, h1⟩ := k1.1.block (is_17 k1.2)
  have Fplain : ∃ g, Wx 132 (f + 1) (.node 43 t n a p c [t0, t1]) g := by
    refine ⟨?gplain, ?hplain⟩
    case hplain =>
      intro L pb base hL hpb x hx
      obtain ⟨a', p', c', y0, y1, rfl, l0, l1⟩ := hx.two
      have r := plain_43 (t := t) (n := n) (a := a') (p := p') (c := c') (function_any (h0 L pb base (by omega) hpb y0 l0) (h1 L pb base (by omega) hpb y1 l1) hpb) hpb
      exact r
  exact PP.ofE (by decide +kernel) hsm hfew Fplain
theorem pp_44 {f rl : Nat} {t : ByteArray} {n a : Int} {p : Option Addr} {c : Nat} {ks : List MT} (hsm : t.size ≤ 65536) (hfew : ks.length ≤ 20000) (hsh : faultSh (shEx [27]) ks.length = 0) (hk : KP f (shEx [27]) ks)  : PP (f + 1) rl (.node 44 t n a p c ks) := by
  have hl := fault_ex hsh
  simp only [List.length_cons, List.length_nil] at hl
  obtain ⟨t0, r0, rfl⟩ : ∃ x xs, ks = x :: xs := List.exists_cons_of_length_pos (by omega)
  obtain rfl : r0 = [] := List.eq_nil_of_length_eq_zero (by simp only [List.length_cons] at hl; omega)
  have k0 : PP f 27 t0 ∧ takesB 27 t0.kind = true := hk 0 (by simp)
  obtain ⟨g0, h0⟩ := k0.1.tname (sub_7 (by decide) k0.2)
  have Fplain : ∃ g, Wx 132 (f + 1) (.node 44 t n a p c [t0]) g := by
    refine ⟨?gplain, ?hplain⟩
    case hplain =>
      intro L pb base hL hpb x hx
      obtain ⟨a', p', c', y0, rfl, l0⟩ := hx.one
      have r := plain_44 (t := t) (n := n) (a := a') (p := p') (c := c') (h0 L pb base (by omega) hpb y0 l0) hpb
      exact r
  exact PP.ofE (by decide +kernel) hsm hfew Fplain
theorem pp_45 {f rl : Nat} {t : ByteArray} {n a : Int} {p : Option Addr} {c : Nat} {ks : List MT} (hsm : t.size ≤ 65536) (hfew : ks.length ≤ 20000) (hsh : faultSh (shEx [18]) ks.length = 0) (hk : KP f (shEx [18]) ks)  : PP (f + 1) rl (.node 45 t n a p c ks) := by
  have hl := fault_ex hsh
  simp only [List.length_cons, List.length_nil] at hl
  obtain ⟨t0, r0, rfl⟩ : ∃ x xs, ks = x :: xs := List.exists_cons_of_length_pos (by omega)
  obtain rfl : r0 = [] := List.eq_nil_of_length_eq_zero (by simp only [List.length_cons] at hl; omega)
  have k0 : PP f 18 t0 ∧ takesB 18 t0.kind = true := hk 0 (by simp)
  obtain ⟨g0, h0⟩ := k0.1.plain k0.2 (by decide)
  obtain ⟨g0, h0⟩ := h0.first
  have Fplain : ∃ g, Wx 132 (f + 1) (.node 45 t n a p c [t0]) g := by
    refine ⟨?gplain, ?hplain⟩
    case hplain =>
      intro L pb base hL hpb x hx
      obtain ⟨a', p', c', y0, rfl, l0⟩ := hx.one
      have r := plain_45 (t := t) (n := n) (a := a') (p := p') (c := c') (post_45 (small_of hsm) (h0 L pb base (by omega) hpb y0 l0) hpb) hpb
      exact r
  exact PP.ofE (by decide +kernel) hsm hfew Fplain
theorem pp_46 {f rl : Nat} {t : ByteArray} {n a : Int} {p : Option Addr} {c : Nat} {ks : List MT} (hsm : t.size ≤ 65536) (hfew : ks.length ≤ 20000) (hsh : faultSh (shEx [18, 18]) ks.length = 0) (hk : KP f (shEx [18, 18]) ks)  : PP (f + 1) rl (.node 46 t n a p c ks) := by
  have hl := fault_ex hsh
  simp only [List.length_cons, List.length_nil] at hl
  obtain ⟨t0, r0, rfl⟩ : ∃ x xs, ks = x :: xs := List.exists_cons_of_length_pos (by omega)
  obtain ⟨t1, r1, rfl⟩ : ∃ x xs, r0 = x :: xs := List.exists_cons_of_length_pos (by simp only [List.length_cons] at hl; omega)
  obtain rfl : r1 = [] := List.eq_nil_of_length_eq_zero (by simp only [List.length_cons] at hl; omega)
  have k0 : PP f 18 t0 ∧ takesB 18 t0.kind = true := hk 0 (by simp)
  have k1 : PP f 18 t1 ∧ takesB 18 t1.kind = true := hk 1 (by simp)
  obtain ⟨g0, h0⟩ := k0.1.plain k0.2 (by decide)
  obtain ⟨g0, h0⟩ := h0.first
  obtain ⟨g1, h1⟩ := k1.1.plain k1.2 (by decide)
  obtain ⟨g1, h1⟩ := h1.expr
  have Fplain : ∃ g, Wx 132 (f + 1) (.node 46 t n a p c [t0, t1]) g := by
    refine ⟨?gplain, ?hplain⟩
    case hplain =>
      intro L pb base hL hpb x hx
      obtain ⟨a', p', c', y0, y1, rfl, l0, l1⟩ := hx.two
      have r := plain_46 (t := t) (n := n) (a := a') (p := p') (c := c') (post_46 (h0 L pb base (by omega) hpb y0 l0) (h1 L pb base (by omega) hpb y1 l1) hpb) hpb
      exact r
  exact PP.ofE (by decide +kernel) hsm hfew Fplain
theorem pp_49 {f rl : Nat} {t : ByteArray} {n a : Int} {p : Option Addr} {c : Nat} {ks : List MT} (hsm : t.size ≤ 65536) (hfew : ks.length ≤ 20000) (hsh : faultSh (shEx [18, 25]) ks.length = 0) (hk : KP f (shEx [18, 25]) ks)  : PP (f + 1) rl (.node 49 t n a p c ks) := by
  have hl := fault_ex hsh
  simp only [List.length_cons, List.length_nil] at hl
  obtain ⟨t0, r0, rfl⟩ : ∃ x xs, ks = x :: xs := List.exists_cons_of_length_pos (by omega)
  obtain ⟨t1, r1, rfl⟩ : ∃ x xs, r0 = x :: xs := List.exists_cons_of_length_pos (by simp only [List.length_cons] at hl; omega)
  obtain rfl : r1 = [] := List.eq_nil_of_length_eq_zero (by simp only [List.length_cons] at hl; omega)
  have k0 : PP f 18 t0 ∧ takesB 18 t0.kind = true := hk 0 (by simp)
  have k1 : PP f 25 t1 ∧ takesB 25 t1.kind = true := hk 1 (by simp)
  obtain ⟨g0, h0⟩ := k0.1.plain k0.2 (by decide)
  obtain ⟨g0, h0⟩ := h0.first
  obtain ⟨g1, h1⟩ := k1.1.tname (sub_7 (by decide) k1.2)
  have Fplain : ∃ g, Wx 132 (f + 1) (.node 49 t n a p c [t0, t1]) g := by
    refine ⟨?gplain, ?hplain⟩
    case hplain =>
      intro L pb base hL hpb x hx
      obtain ⟨a', p', c', y0, y1, rfl, l0, l1⟩ := hx.two
      have r := plain_49 (t := t) (n := n) (a := a') (p := p') (c := c') (post_49 (h0 L pb base (by omega) hpb y0 l0) (h1 L pb base (by omega) hpb y1 l1) hpb) hpb
      exact r
  exact PP.ofE (by decide +kernel) hsm hfew Fplain
theorem pp_50 {f rl : Nat} {t : ByteArray} {n a : Int} {p : Option Addr} {c : Nat} {ks : List MT} (hsm : t.size ≤ 65536) (hfew : ks.length ≤ 20000) (hsh : faultSh (shEx [18]) ks.length = 0) (hk : KP f (shEx [18]) ks)  : PP (f + 1) rl (.node 50 t n a p c ks) := by
  have hl := fault_ex hsh
  simp only [List.length_cons, List.length_nil] at hl
  obtain ⟨t0, r0, rfl⟩ : ∃ x xs, ks = x :: xs := List.exists_cons_of_length_pos (by omega)
  obtain rfl : r0 = [] := List.eq_nil_of_length_eq_zero (by simp only [List.length_cons] at hl; omega)
  have k0 : PP f 18 t0 ∧ takesB 18 t0.kind = true := hk 0 (by simp)
  obtain ⟨g0, h0⟩ := k0.1.plain k0.2 (by decide)
  have Fplain : ∃ g, Wx 132 (f + 1) (.node 50 t n a p c [t0]) g := by
    refine ⟨?gplain, ?hplain⟩
    case hplain =>
      intro L pb base hL hpb x hx
      obtain ⟨a', p', c', y0, rfl, l0⟩ := hx.one
      have r := unary_both (n := n) (a := a') (p := p') (c := c') hpb (small_of hsm) (h0 L pb base (by omega) hpb y0 l0)
      simp only [l0.lev, l0.same.1, l0.same.2.1] at r
      exact r
  exact PP.ofE (by decide +kernel) hsm hfew Fplain
theorem pp_51 {f rl : Nat} {t : ByteArray} {n a : Int} {p : Option Addr} {c : Nat} {ks : List MT} (hsm : t.size ≤ 65536) (hfew : ks.length ≤ 20000) (hsh : faultSh (shEx [18, 18]) ks.length = 0) (hk : KP f (shEx [18, 18]) ks)  : PP (f + 1) rl (.node 51 t n a p c ks) := by
  have hl := fault_ex hsh
  simp only [List.length_cons, List.length_nil] at hl
  obtain ⟨t0, r0, rfl⟩ : ∃ x xs, ks = x :: xs := List.exists_cons_of_length_pos (by omega)
  obtain ⟨t1, r1, rfl⟩ : ∃ x xs, r0 = x :: xs := List.exists_cons_of_length_pos (by simp only [List.length_cons] at hl; omega)
  obtain rfl : r1 = [] := List.eq_nil_of_length_eq_zero (by simp only [List.length_cons] at hl; omega)
  have k0 : PP f 18 t0 ∧ takesB 18 t0.kind = true := hk 0 (by simp)
  have k1 : PP f 18 t1 ∧ takesB 18 t1.kind = true := hk 1 (by simp)
  obtain ⟨g0, h0⟩ := k0.1.plain k0.2 (by decide)
  obtain ⟨g1, h1⟩ := k1.1.plain k1.2 (by decide)
  have Fplain : ∃ g, Wx 132 (f + 1) (.node 51 t n a p c [t0, t1]) g := by
    refine ⟨?gplain, ?hplain⟩
    case hplain =>
      intro L pb base hL hpb x hx
      obtain ⟨a', p', c', y0, y1, rfl, l0, l1⟩ := hx.two
      have r := plain_51 (n := n) (a := a') (p := p') (c := c') (small_of hsm) (h0 L pb base (by omega) hpb y0 l0) (h1 L pb base (by omega) hpb y1 l1) hpb
      simp only [l0.lev, l1.lev, l0.same.1, l1.same.1] at r
      exact r
  exact PP.ofE (by decide +kernel) hsm hfew Fplain
theorem pp_48 {f rl : Nat} {t : ByteArray} {n a : Int} {p : Option Addr} {c : Nat} {ks : List MT} (hsm : t.size ≤ 65536) (hfew : ks.length ≤ 20000) (hsh : faultSh (shAl 1 [17, 18]) ks.length = 0) (hk : KP f (shAl 1 [17, 18]) ks)  : PP (f + 1) rl (.node 48 t n a p c ks) := by
  have hl := al_least hsh
  obtain ⟨t0, r0, rfl⟩ : ∃ x xs, ks = x :: xs := List.exists_cons_of_length_pos (by omega)
  have k0 : PP f 17 t0 ∧ takesB 17 t0.kind = true := hk 0 (by simp)
  have kt : ∀ (i : Nat) (hi : i < r0.length), PP f 18 r0[i] ∧ takesB 18 r0[i].kind = true := fun i hi => by
    have h9 := hk (i + 1) (by simp only [List.length_cons]; omega)
    have e9 : roleAt (shAl 1 [17, 18]) (i + 1) = 18 := by show ([17, 18] : List Nat).getD (min (i + 1) 1) 0 = 18; rw [Nat.min_eq_right (by omega)]; rfl
    rw [e9] at h9
    exact h9
  obtain ⟨g0, h0⟩ := k0.1.plain (sub_18 (by decide) k0.2) (by decide)
  obtain ⟨gs, hgs⟩ : ∃ gs, WK 71 f r0 gs := WK.mk fun i hi => by
    obtain ⟨g9, h9⟩ := (kt i hi).1.plain (kt i hi).2 (by decide)
    exact h9.expr
  have hfew2 : r0.length ≤ 20000 := by simp only [List.length_cons] at hfew; omega
  have Fplain : ∃ g, Wx 132 (f + 1) (.node 48 t n a p c (t0 :: r0)) g := by
    refine ⟨?gplain, ?hplain⟩
    case hplain =>
      intro L pb base hL hpb x hx
      obtain ⟨a', p', c', y0, ys, rfl, l0, hl9, hk9⟩ := hx.cons
      have r := plain_48 (t := t) (n := n) (a := a') (p := p') (c := c') (call_both hpb (h0 L pb base (by omega) hpb y0 l0) (fun q d => hgs.list Tryz.call71 hfew2 L pb base (by omega) hpb ys hl9 hk9 q d)) hpb
      simp only [l0.lev, l0.same.1, l0.same.2.1] at r
      exact r
  exact PP.ofE (by decide +kernel) hsm hfew Fplain
theorem pp_47 {f rl r4 : Nat} {t : ByteArray} {n a : Int} {p : Option Addr} {c : Nat} {ks : List MT} (hsm : t.size ≤ 65536) (hfew : ks.length ≤ 20000) (hsh : faultSh (shEx [18, 19, 19, r4]) ks.length = 0) (hk : KP f (shEx [18, 19, 19, r4]) ks) (hr : r4 = 19 ∨ r4 = 20) : PP (f + 1) rl (.node 47 t n a p c ks) := by
  have hl := fault_ex hsh
  simp only [List.length_cons, List.length_nil] at hl
  obtain ⟨t0, r0', rfl⟩ : ∃ x xs, ks = x :: xs := List.exists_cons_of_length_pos (by omega)
  obtain ⟨t1, r1', rfl⟩ : ∃ x xs, r0' = x :: xs := List.exists_cons_of_length_pos (by simp only [List.length_cons] at hl; omega)
  obtain ⟨t2, r2', rfl⟩ : ∃ x xs, r1' = x :: xs := List.exists_cons_of_length_pos (by simp only [List.length_cons] at hl; omega)
  obtain ⟨t3, r3', rfl⟩ : ∃ x xs, r2' = x :: xs := List.exists_cons_of_length_pos (by simp only [List.length_cons] at hl; omega)
  obtain rfl : r3' = [] := List.eq_nil_of_length_eq_zero (by simp only [List.length_cons] at hl; omega)
  have k0 : PP f 18 t0 ∧ takesB 18 t0.kind = true := hk 0 (by simp)
  have k1 : PP f 19 t1 ∧ takesB 19 t1.kind = true := hk 1 (by simp)
  have k2 : PP f 19 t2 ∧ takesB 19 t2.kind = true := hk 2 (by simp)
  have k3 : PP f r4 t3 ∧ takesB r4 t3.kind = true := hk 3 (by simp)
  obtain ⟨g0, h0⟩ := k0.1.plain k0.2 (by decide)
  obtain ⟨g0, h0⟩ := h0.first
  obtain ⟨g1, h1⟩ : ∃ g, ¬ t1.kind = 16 → Wx 71 f t1 g := by
    by_cases hn : t1.kind = 16
    · exact ⟨id, fun h => absurd hn h⟩
    · obtain ⟨g9, h9⟩ := k1.1.plain (sub_19 k1.2 hn) (by decide)
      obtain ⟨g8, h8⟩ := h9.expr
      exact ⟨g8, fun _ => h8⟩
  obtain ⟨g2, h2⟩ : ∃ g, ¬ t2.kind = 16 → Wx 71 f t2 g := by
    by_cases hn : t2.kind = 16
    · exact ⟨id, fun h => absurd hn h⟩
    · obtain ⟨g9, h9⟩ := k2.1.plain (sub_19 k2.2 hn) (by decide)
      obtain ⟨g8, h8⟩ := h9.expr
      exact ⟨g8, fun _ => h8⟩
  obtain ⟨g3, h3⟩ : ∃ g, ¬ t3.kind = 16 → Wx 71 f t3 g := by
    by_cases hn : t3.kind = 16
    · exact ⟨id, fun h => absurd hn h⟩
    · have e4 : takesB 18 t3.kind = true := by
        rcases hr with rfl | rfl
        · exact sub_19 k3.2 hn
        · have h2 := takes_range k3.2
          have : (t3.kind.toNat == 16) = true := takes_at 20 (fun n => n == 16) (by decide +kernel) k3.2
          simp at this; omega
      obtain ⟨g9, h9⟩ := k3.1.plain e4 (by rcases hr with rfl | rfl <;> decide)
      obtain ⟨g8, h8⟩ := h9.expr
      exact ⟨g8, fun _ => h8⟩
  have Fplain : ∃ g, Wx 132 (f + 1) (.node 47 t n a p c [t0, t1, t2, t3]) g := by
    refine ⟨?gplain, ?hplain⟩
    case hplain =>
      intro L pb base hL hpb x hx
      obtain ⟨a', p', c', y0, y1, y2, y3, rfl, l0, l1, l2, l3⟩ := hx.four
      have r := plain_47 (t := t) (n := n) (a := a') (p := p') (c := c') (post_47 (h0 L pb base (by omega) hpb y0 l0) (bounds_any (unless_both (ah := ⟨#[]⟩) (y := y1) (g := g1) hpb (by decide) (fun hn => h1 (by rw [← l1.same.1]; exact hn) L pb base (by omega) hpb y1 l1) Tryz.call71) (unless_both (ah := ⟨#[]⟩) (y := y2) (g := g2) hpb (by decide) (fun hn => h2 (by rw [← l2.same.1]; exact hn) L pb base (by omega) hpb y2 l2) Tryz.call71) (unless_both (ah := ⟨#[58]⟩) (y := y3) (g := g3) hpb (by decide) (fun hn => h3 (by rw [← l3.same.1]; exact hn) L pb base (by omega) hpb y3 l3) Tryz.call71) hpb) hpb) hpb
      simp only [l1.same.1, l2.same.1, l3.same.1] at r
      exact r
  exact PP.ofE (by decide +kernel) hsm hfew Fplain
end Go.Proofs.YthbnegggohegkaaGreatDoor
