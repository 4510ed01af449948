/-
  Declarations, cases.
-/
import Derived.Test.YthbnegggohegkaaGreatDoorWiJ
namespace Go.Proofs.YthbnegggohegkaaGreatDoor
open Go.RowKit
theorem pp_2 {f rl : Nat} {t : ByteArray} {n a : Int} {p : Option Addr} {c : Nat} {ks : List MT} (hsm : t.size ≤ 65536) (hfew : ks.length ≤ 20000) (hsh : faultSh (shEx [5]) ks.length = 0) (hk : KP f (shEx [5]) ks)  : PP (f + 1) rl (.node 2 t n a p c ks) := by
  have hl := fault_ex hsh
  simp only [List.length_cons, List.length_nil] at hl
  obtain ⟨t0, r0, rfl⟩ : ∃ x xs, ks = x :: xs := List.exists_cons_of_length_pos (by omega)
  obtain rfl : r0 = [] := List.eq_nil_of_length_eq_zero (by simp only [List.length_cons] at hl; omega)
  have k0 : PP f 5 t0 ∧ takesB 5 t0.kind = true := hk 0 (by simp)
  have Fdecl : ∃ g, Wx 65 (f + 1) (.node 2 t n a p c [t0]) g := by
    refine ⟨?gdecl, ?hdecl⟩
    case hdecl =>
      intro L pb base hL hpb x hx
      obtain ⟨a', p', c', y0, rfl, l0⟩ := hx.one
      have r := de_2 (n := n) (a := a') (p := p') (c := c') (base := base) (pb := pb) (L := L) (small_of hsm) (by rw [l0.same.2.1]; exact small_of k0.1.sm) hpb
      simp only [l0.same.2.1] at r
      exact r
  exact PP.ofD (by decide +kernel) hsm hfew Fdecl
theorem pp_3 {f rl : Nat} {t : ByteArray} {n a : Int} {p : Option Addr} {c : Nat} {ks : List MT} (hsm : t.size ≤ 65536) (hfew : ks.length ≤ 20000) (_ : faultSh (shAm 30 3) ks.length = 0) (hk : KP f (shAm 30 3) ks)  : PP (f + 1) rl (.node 3 t n a p c ks) := by
  have kt : ∀ (i : Nat) (hi : i < ks.length), PP f 3 ks[i] ∧ takesB 3 ks[i].kind = true := fun i hi => by
    have h9 := hk i hi
    have e9 : roleAt (shAm 30 3) i = 3 := by show ([3] : List Nat).getD (min i 0) 0 = 3; rw [Nat.min_eq_right (by omega)]; rfl
    rw [e9] at h9
    exact h9
  obtain ⟨gs, hgs⟩ : ∃ gs, WK 67 f ks gs := WK.mk fun i hi => (kt i hi).1.spart (kt i hi).2
  obtain ⟨gi, hgi⟩ := hgs.inside Tryz.call67 hfew
  have Fdecl : ∃ g, Wx 65 (f + 1) (.node 3 t n a p c ks) g := by
    refine ⟨?gdecl, ?hdecl⟩
    case hdecl =>
      intro L pb base hL hpb x hx
      obtain ⟨a', p', c', ys, rfl, hl9, hk9⟩ := hx.node
      have r := de_3 (n := n) (a := a') (small_of hsm) (hgi L pb base hL hpb ys hl9 hk9 p' c') hpb
      exact r
  exact PP.ofD (by decide +kernel) hsm hfew Fdecl
theorem pp_4 {f rl : Nat} {t : ByteArray} {n a : Int} {p : Option Addr} {c : Nat} {ks : List MT} (hsm : t.size ≤ 65536) (hfew : ks.length ≤ 20000) (_ : faultSh (shAm 60 4) ks.length = 0) (hk : KP f (shAm 60 4) ks)  : PP (f + 1) rl (.node 4 t n a p c ks) := by
  have kt : ∀ (i : Nat) (hi : i < ks.length), PP f 4 ks[i] ∧ takesB 4 ks[i].kind = true := fun i hi => by
    have h9 := hk i hi
    have e9 : roleAt (shAm 60 4) i = 4 := by show ([4] : List Nat).getD (min i 0) 0 = 4; rw [Nat.min_eq_right (by omega)]; rfl
    rw [e9] at h9
    exact h9
  obtain ⟨gs, hgs⟩ : ∃ gs, WK 68 f ks gs := WK.mk fun i hi => (kt i hi).1.ppart (kt i hi).2
  obtain ⟨gi, hgi⟩ := hgs.inside Tryz.call68 hfew
  have Fdecl : ∃ g, Wx 65 (f + 1) (.node 4 t n a p c ks) g := by
    refine ⟨?gdecl, ?hdecl⟩
    case hdecl =>
      intro L pb base hL hpb x hx
      obtain ⟨a', p', c', ys, rfl, hl9, hk9⟩ := hx.node
      have r := de_4 (n := n) (a := a') (small_of hsm) (hgi L pb base hL hpb ys hl9 hk9 p' c') hpb
      exact r
  exact PP.ofD (by decide +kernel) hsm hfew Fdecl
theorem pp_5 {f rl : Nat} {t : ByteArray} {n a : Int} {p : Option Addr} {c : Nat} {ks : List MT} (hsm : t.size ≤ 65536) (hfew : ks.length ≤ 20000) (hsh : faultSh (shEx [8, 11]) ks.length = 0) (hk : KP f (shEx [8, 11]) ks)  : PP (f + 1) rl (.node 5 t n a p c ks) := by
  have hl := fault_ex hsh
  simp only [List.length_cons, List.length_nil] at hl
  obtain ⟨t0, r0, rfl⟩ : ∃ x xs, ks = x :: xs := List.exists_cons_of_length_pos (by omega)
  obtain ⟨t1, r1, rfl⟩ : ∃ x xs, r0 = x :: xs := List.exists_cons_of_length_pos (by simp only [List.length_cons] at hl; omega)
  obtain rfl : r1 = [] := List.eq_nil_of_length_eq_zero (by simp only [List.length_cons] at hl; omega)
  have k0 : PP f 8 t0 ∧ takesB 8 t0.kind = true := hk 0 (by simp)
  have k1 : PP f 11 t1 ∧ takesB 11 t1.kind = true := hk 1 (by simp)
  obtain ⟨g0, h0⟩ := k0.1.params (is_13 k0.2)
  obtain ⟨g1, h1⟩ := k1.1.block (is_17 k1.2)
  have Fdecl : ∃ g, Wx 65 (f + 1) (.node 5 t n a p c [t0, t1]) g := by
    refine ⟨?gdecl, ?hdecl⟩
    case hdecl =>
      intro L pb base hL hpb x hx
      obtain ⟨a', p', c', y0, y1, rfl, l0, l1⟩ := hx.two
      have r := de_5 (n := n) (a := a') (p := p') (c := c') (small_of hsm) (function_any (h0 L pb base (by omega) hpb y0 l0) (h1 L pb base (by omega) hpb y1 l1) hpb) hpb
      exact r
  exact PP.ofD (by decide +kernel) hsm hfew Fdecl
theorem pp_6 {f rl : Nat} {t : ByteArray} {n a : Int} {p : Option Addr} {c : Nat} {ks : List MT} (hsm : t.size ≤ 65536) (hfew : ks.length ≤ 20000) (hsh : faultSh (shEx [6, 8, 11]) ks.length = 0) (hk : KP f (shEx [6, 8, 11]) ks)  : PP (f + 1) rl (.node 6 t n a p c ks) := by
  have hl := fault_ex hsh
  simp only [List.length_cons, List.length_nil] at hl
  obtain ⟨t0, r0, rfl⟩ : ∃ x xs, ks = x :: xs := List.exists_cons_of_length_pos (by omega)
  obtain ⟨t1, r1, rfl⟩ : ∃ x xs, r0 = x :: xs := List.exists_cons_of_length_pos (by simp only [List.length_cons] at hl; omega)
  obtain ⟨t2, r2, rfl⟩ : ∃ x xs, r1 = x :: xs := List.exists_cons_of_length_pos (by simp only [List.length_cons] at hl; omega)
  obtain rfl : r2 = [] := List.eq_nil_of_length_eq_zero (by simp only [List.length_cons] at hl; omega)
  have k0 : PP f 6 t0 ∧ takesB 6 t0.kind = true := hk 0 (by simp)
  have k1 : PP f 8 t1 ∧ takesB 8 t1.kind = true := hk 1 (by simp)
  have k2 : PP f 11 t2 ∧ takesB 11 t2.kind = true := hk 2 (by simp)
  obtain ⟨g0, h0⟩ := k0.1.recv (is_12 k0.2)
  obtain ⟨g1, h1⟩ := k1.1.params (is_13 k1.2)
  obtain ⟨g2, h2⟩ := k2.1.block (is_17 k2.2)
  have Fdecl : ∃ g, Wx 65 (f + 1) (.node 6 t n a p c [t0, t1, t2]) g := by
    refine ⟨?gdecl, ?hdecl⟩
    case hdecl =>
      intro L pb base hL hpb x hx
      obtain ⟨a', p', c', y0, y1, y2, rfl, l0, l1, l2⟩ := hx.three
      have r := de_6 (n := n) (a := a') (p := p') (c := c') (small_of hsm) (h0 L pb base (by omega) hpb y0 l0) (function_any (h1 L pb base (by omega) hpb y1 l1) (h2 L pb base (by omega) hpb y2 l2) hpb) hpb
      exact r
  exact PP.ofD (by decide +kernel) hsm hfew Fdecl
theorem pp_7 {f rl : Nat} {t : ByteArray} {n a : Int} {p : Option Addr} {c : Nat} {ks : List MT} (hsm : t.size ≤ 65536) (hfew : ks.length ≤ 20000) (hsh : faultSh (shEx [18]) ks.length = 0) (hk : KP f (shEx [18]) ks)  : PP (f + 1) rl (.node 7 t n a p c ks) := by
  have hl := fault_ex hsh
  simp only [List.length_cons, List.length_nil] at hl
  obtain ⟨t0, r0, rfl⟩ : ∃ x xs, ks = x :: xs := List.exists_cons_of_length_pos (by omega)
  obtain rfl : r0 = [] := List.eq_nil_of_length_eq_zero (by simp only [List.length_cons] at hl; omega)
  have k0 : PP f 18 t0 ∧ takesB 18 t0.kind = true := hk 0 (by simp)
  obtain ⟨g0, h0⟩ := k0.1.plain k0.2 (by decide)
  obtain ⟨g0, h0⟩ := h0.expr
  have Fdecl : ∃ g, Wx 65 (f + 1) (.node 7 t n a p c [t0]) g := by
    refine ⟨?gdecl, ?hdecl⟩
    case hdecl =>
      intro L pb base hL hpb x hx
      obtain ⟨a', p', c', y0, rfl, l0⟩ := hx.one
      have r := de_7 (n := n) (a := a') (p := p') (c := c') (small_of hsm) (h0 L pb base (by omega) hpb y0 l0) hpb
      exact r
  exact PP.ofD (by decide +kernel) hsm hfew Fdecl
theorem pp_8 {f rl : Nat} {t : ByteArray} {n a : Int} {p : Option Addr} {c : Nat} {ks : List MT} (hsm : t.size ≤ 65536) (hfew : ks.length ≤ 20000) (hsh : faultSh (shEx []) ks.length = 0) (hk : KP f (shEx []) ks)  : PP (f + 1) rl (.node 8 t n a p c ks) := by
  have hl := fault_ex hsh
  obtain rfl := List.eq_nil_of_length_eq_zero hl
  have Fspart : ∃ g, Wx 67 (f + 1) (.node 8 t n a p c []) g := by
    refine ⟨?gspart, ?hspart⟩
    case hspart =>
      intro L pb base hL hpb x hx
      obtain ⟨a', p', c', rfl⟩ := hx.none
      have r := structPart_8 (n := n) (a := a') (p := p') (c := c') (base := base) (pb := pb) (L := L) (small_of hsm) hpb
      exact r
  have Fown : ∃ g, Wx 41 (f + 1) (.node 8 t n a p c []) g := by
    obtain ⟨g8, h8⟩ := Fspart
    refine ⟨?gown, ?hown⟩
    case hown =>
      intro L pb base hL hpb x hx
      have r := h8 L pb base hL hpb x hx
      obtain ⟨a', p', c', ys, rfl, hl9, _⟩ := hx.node
      exact ownW_P (by decide +kernel) r hpb
  exact { sm := hsm, few := hfew, plain := fun h _ => absurd (show takesB 18 8 = true from h) (by decide +kernel), stmt := fun h => absurd (show takesB 12 8 = true from h) (by decide +kernel), block := fun h => absurd (show (8 : Int) = 17 from h) (by decide), stmts := fun h => absurd (show (8 : Int) = 17 from h) (by decide), params := fun h => absurd (show (8 : Int) = 13 from h) (by decide), decl := fun h => absurd (show takesB 2 8 = true from h) (by decide +kernel), spart := fun _ => Fspart, ppart := fun h => absurd (show takesB 4 8 = true from h) (by decide +kernel), recv := fun h => absurd (show (8 : Int) = 12 from h) (by decide), tname := fun h => absurd (show takesB 7 8 = true from h) (by decide +kernel), case_ := fun h => absurd (show (8 : Int) = 27 from h) (by decide), pair := fun h => absurd (show (8 : Int) = 40 from h) (by decide), chead := fun h => absurd (show takesB 23 8 = true from h) (by decide +kernel), citem := fun h _ => absurd (show takesB 18 8 = true ∨ takesB 26 8 = true from h) (by decide +kernel), own := fun _ => Fown }
theorem pp_9 {f rl : Nat} {t : ByteArray} {n a : Int} {p : Option Addr} {c : Nat} {ks : List MT} (hsm : t.size ≤ 65536) (hfew : ks.length ≤ 20000) (hsh : faultSh (shEx []) ks.length = 0) (hk : KP f (shEx []) ks)  : PP (f + 1) rl (.node 9 t n a p c ks) := by
  have hl := fault_ex hsh
  obtain rfl := List.eq_nil_of_length_eq_zero hl
  have Fspart : ∃ g, Wx 67 (f + 1) (.node 9 t n a p c []) g := by
    refine ⟨?gspart, ?hspart⟩
    case hspart =>
      intro L pb base hL hpb x hx
      obtain ⟨a', p', c', rfl⟩ := hx.none
      have r := structPart_9 (n := n) (a := a') (p := p') (c := c') (base := base) (pb := pb) (L := L) (small_of hsm) hpb
      exact r
  have Fppart : ∃ g, Wx 68 (f + 1) (.node 9 t n a p c []) g := by
    refine ⟨?gppart, ?hppart⟩
    case hppart =>
      intro L pb base hL hpb x hx
      obtain ⟨a', p', c', rfl⟩ := hx.none
      have r := protocolPart_9 (n := n) (a := a') (p := p') (c := c') (base := base) (pb := pb) (L := L) (small_of hsm) hpb
      exact r
  have Fown : ∃ g, Wx 41 (f + 1) (.node 9 t n a p c []) g := by
    obtain ⟨g8, h8⟩ := Fspart
    refine ⟨?gown, ?hown⟩
    case hown =>
      intro L pb base hL hpb x hx
      have r := h8 L pb base hL hpb x hx
      obtain ⟨a', p', c', ys, rfl, hl9, _⟩ := hx.node
      exact ownW_P (by decide +kernel) r hpb
  exact { sm := hsm, few := hfew, plain := fun h _ => absurd (show takesB 18 9 = true from h) (by decide +kernel), stmt := fun h => absurd (show takesB 12 9 = true from h) (by decide +kernel), block := fun h => absurd (show (9 : Int) = 17 from h) (by decide), stmts := fun h => absurd (show (9 : Int) = 17 from h) (by decide), params := fun h => absurd (show (9 : Int) = 13 from h) (by decide), decl := fun h => absurd (show takesB 2 9 = true from h) (by decide +kernel), spart := fun _ => Fspart, ppart := fun _ => Fppart, recv := fun h => absurd (show (9 : Int) = 12 from h) (by decide), tname := fun h => absurd (show takesB 7 9 = true from h) (by decide +kernel), case_ := fun h => absurd (show (9 : Int) = 27 from h) (by decide), pair := fun h => absurd (show (9 : Int) = 40 from h) (by decide), chead := fun h => absurd (show takesB 23 9 = true from h) (by decide +kernel), citem := fun h _ => absurd (show takesB 18 9 = true ∨ takesB 26 9 = true from h) (by decide +kernel), own := fun _ => Fown }
theorem pp_10 {f rl : Nat} {t : ByteArray} {n a : Int} {p : Option Addr} {c : Nat} {ks : List MT} (hsm : t.size ≤ 65536) (hfew : ks.length ≤ 20000) (hsh : faultSh (shEx []) ks.length = 0) (hk : KP f (shEx []) ks)  : PP (f + 1) rl (.node 10 t n a p c ks) := by
  have hl := fault_ex hsh
  obtain rfl := List.eq_nil_of_length_eq_zero hl
  have Fspart : ∃ g, Wx 67 (f + 1) (.node 10 t n a p c []) g := by
    refine ⟨?gspart, ?hspart⟩
    case hspart =>
      intro L pb base hL hpb x hx
      obtain ⟨a', p', c', rfl⟩ := hx.none
      have r := structPart_10 (n := n) (a := a') (p := p') (c := c') (base := base) (pb := pb) (L := L) (small_of hsm) hpb
      exact r
  have Fown : ∃ g, Wx 41 (f + 1) (.node 10 t n a p c []) g := by
    obtain ⟨g8, h8⟩ := Fspart
    refine ⟨?gown, ?hown⟩
    case hown =>
      intro L pb base hL hpb x hx
      have r := h8 L pb base hL hpb x hx
      obtain ⟨a', p', c', ys, rfl, hl9, _⟩ := hx.node
      exact ownW_P (by decide +kernel) r hpb
  exact { sm := hsm, few := hfew, plain := fun h _ => absurd (show takesB 18 10 = true from h) (by decide +kernel), stmt := fun h => absurd (show takesB 12 10 = true from h) (by decide +kernel), block := fun h => absurd (show (10 : Int) = 17 from h) (by decide), stmts := fun h => absurd (show (10 : Int) = 17 from h) (by decide), params := fun h => absurd (show (10 : Int) = 13 from h) (by decide), decl := fun h => absurd (show takesB 2 10 = true from h) (by decide +kernel), spart := fun _ => Fspart, ppart := fun h => absurd (show takesB 4 10 = true from h) (by decide +kernel), recv := fun h => absurd (show (10 : Int) = 12 from h) (by decide), tname := fun h => absurd (show takesB 7 10 = true from h) (by decide +kernel), case_ := fun h => absurd (show (10 : Int) = 27 from h) (by decide), pair := fun h => absurd (show (10 : Int) = 40 from h) (by decide), chead := fun h => absurd (show takesB 23 10 = true from h) (by decide +kernel), citem := fun h _ => absurd (show takesB 18 10 = true ∨ takesB 26 10 = true from h) (by decide +kernel), own := fun _ => Fown }
theorem pp_11 {f rl : Nat} {t : ByteArray} {n a : Int} {p : Option Addr} {c : Nat} {ks : List MT} (hsm : t.size ≤ 65536) (hfew : ks.length ≤ 20000) (hsh : faultSh (shEx []) ks.length = 0) (hk : KP f (shEx []) ks) (hn0 : 0 ≤ n) (hn1 : n ≤ 12) : PP (f + 1) rl (.node 11 t n a p c ks) := by
  have hl := fault_ex hsh
  obtain rfl := List.eq_nil_of_length_eq_zero hl
  have Fppart : ∃ g, Wx 68 (f + 1) (.node 11 t n a p c []) g := by
    refine ⟨?gppart, ?hppart⟩
    case hppart =>
      intro L pb base hL hpb x hx
      obtain ⟨a', p', c', rfl⟩ := hx.none
      have r := protocolPart_11 (n := n) (a := a') (p := p') (c := c') (base := base) (pb := pb) (L := L) (small_of hsm) (itoa_small n hn0 hn1).1 (itoa_small n hn0 hn1).2 hpb
      exact r
  have Fown : ∃ g, Wx 41 (f + 1) (.node 11 t n a p c []) g := by
    obtain ⟨g8, h8⟩ := Fppart
    refine ⟨?gown, ?hown⟩
    case hown =>
      intro L pb base hL hpb x hx
      have r := h8 L pb base hL hpb x hx
      obtain ⟨a', p', c', ys, rfl, hl9, _⟩ := hx.node
      exact ownW_11 (by decide +kernel) r hpb
  exact { sm := hsm, few := hfew, plain := fun h _ => absurd (show takesB 18 11 = true from h) (by decide +kernel), stmt := fun h => absurd (show takesB 12 11 = true from h) (by decide +kernel), block := fun h => absurd (show (11 : Int) = 17 from h) (by decide), stmts := fun h => absurd (show (11 : Int) = 17 from h) (by decide), params := fun h => absurd (show (11 : Int) = 13 from h) (by decide), decl := fun h => absurd (show takesB 2 11 = true from h) (by decide +kernel), spart := fun h => absurd (show takesB 3 11 = true from h) (by decide +kernel), ppart := fun _ => Fppart, recv := fun h => absurd (show (11 : Int) = 12 from h) (by decide), tname := fun h => absurd (show takesB 7 11 = true from h) (by decide +kernel), case_ := fun h => absurd (show (11 : Int) = 27 from h) (by decide), pair := fun h => absurd (show (11 : Int) = 40 from h) (by decide), chead := fun h => absurd (show takesB 23 11 = true from h) (by decide +kernel), citem := fun h _ => absurd (show takesB 18 11 = true ∨ takesB 26 11 = true from h) (by decide +kernel), own := fun _ => Fown }
theorem pp_12 {f rl : Nat} {t : ByteArray} {n a : Int} {p : Option Addr} {c : Nat} {ks : List MT} (hsm : t.size ≤ 65536) (hfew : ks.length ≤ 20000) (hsh : faultSh (shEx [7]) ks.length = 0) (hk : KP f (shEx [7]) ks)  : PP (f + 1) rl (.node 12 t n a p c ks) := by
  have hl := fault_ex hsh
  simp only [List.length_cons, List.length_nil] at hl
  obtain ⟨t0, r0, rfl⟩ : ∃ x xs, ks = x :: xs := List.exists_cons_of_length_pos (by omega)
  obtain rfl : r0 = [] := List.eq_nil_of_length_eq_zero (by simp only [List.length_cons] at hl; omega)
  have k0 : PP f 7 t0 ∧ takesB 7 t0.kind = true := hk 0 (by simp)
  obtain ⟨g0, h0⟩ := k0.1.tname k0.2
  have Frecv : ∃ g, Wx 69 (f + 1) (.node 12 t n a p c [t0]) g := by
    refine ⟨?grecv, ?hrecv⟩
    case hrecv =>
      intro L pb base hL hpb x hx
      obtain ⟨a', p', c', y0, rfl, l0⟩ := hx.one
      have r := receiver_any (n := n) (a := a') (p := p') (c := c') (small_of hsm) (h0 L pb base (by omega) hpb y0 l0) hpb
      exact r
  have Fown : ∃ g, Wx 41 (f + 1) (.node 12 t n a p c [t0]) g := by
    obtain ⟨g8, h8⟩ := Frecv
    refine ⟨?gown, ?hown⟩
    case hown =>
      intro L pb base hL hpb x hx
      have r := h8 L pb base hL hpb x hx
      obtain ⟨a', p', c', ys, rfl, hl9, _⟩ := hx.node
      exact ownW_12 (by decide +kernel) r hpb
  exact { sm := hsm, few := hfew, plain := fun h _ => absurd (show takesB 18 12 = true from h) (by decide +kernel), stmt := fun h => absurd (show takesB 12 12 = true from h) (by decide +kernel), block := fun h => absurd (show (12 : Int) = 17 from h) (by decide), stmts := fun h => absurd (show (12 : Int) = 17 from h) (by decide), params := fun h => absurd (show (12 : Int) = 13 from h) (by decide), decl := fun h => absurd (show takesB 2 12 = true from h) (by decide +kernel), spart := fun h => absurd (show takesB 3 12 = true from h) (by decide +kernel), ppart := fun h => absurd (show takesB 4 12 = true from h) (by decide +kernel), recv := fun _ => Frecv, tname := fun h => absurd (show takesB 7 12 = true from h) (by decide +kernel), case_ := fun h => absurd (show (12 : Int) = 27 from h) (by decide), pair := fun h => absurd (show (12 : Int) = 40 from h) (by decide), chead := fun h => absurd (show takesB 23 12 = true from h) (by decide +kernel), citem := fun h _ => absurd (show takesB 18 12 = true ∨ takesB 26 12 = true from h) (by decide +kernel), own := fun _ => Fown }
theorem pp_13 {f rl : Nat} {t : ByteArray} {n a : Int} {p : Option Addr} {c : Nat} {ks : List MT} (hsm : t.size ≤ 65536) (hfew : ks.length ≤ 20000) (_ : faultSh (shAm 12 9) ks.length = 0) (hk : KP f (shAm 12 9) ks)  : PP (f + 1) rl (.node 13 t n a p c ks) := by
  have kt : ∀ (i : Nat) (hi : i < ks.length), PP f 9 ks[i] ∧ takesB 9 ks[i].kind = true := fun i hi => by
    have h9 := hk i hi
    have e9 : roleAt (shAm 12 9) i = 9 := by show ([9] : List Nat).getD (min i 0) 0 = 9; rw [Nat.min_eq_right (by omega)]; rfl
    rw [e9] at h9
    exact h9
  obtain ⟨gs, hgs⟩ : ∃ gs, WK 71 f ks gs := WK.mk fun i hi => by
    obtain ⟨g9, h9⟩ := (kt i hi).1.plain (sub_18 (by decide) (kt i hi).2) (by decide)
    exact h9.expr
  have Fparams : ∃ g, ∀ L pb base, L + (f + 1) ≤ 1000 → pb < base → ∀ x, Lk (f + 1) (.node 13 t n a p c ks) x → Wc 70 #[.pointer (some ⟨pb, 0, none⟩), .slice x.ptr x.kids.length x.cap, .func (.func 71) #[.pointer (some ⟨pb, 0, none⟩)] #[]] pb base L (Kd pb x.ptr x.kids) g := by
    refine ⟨listG gs ks.length, fun L pb base hL hpb x hx => ?_⟩
    obtain ⟨a', p', c', ys, rfl, hl9, hk9⟩ := hx.node
    exact hgs.list Tryz.call71 hfew L pb base (by omega) hpb ys hl9 hk9 p' c'
  have Fown : ∃ g, Wx 41 (f + 1) (.node 13 t n a p c ks) g := by
    refine ⟨?gown, ?hown⟩
    case hown =>
      intro L pb base hL hpb x hx
      obtain ⟨a', p', c', ys, rfl, hl9, hk9⟩ := hx.node
      have r := ownW_13 (by decide +kernel) (t := t) (n := n) (a := a') (hgs.list Tryz.call71 hfew L pb base (by omega) hpb ys hl9 hk9 p' c') hpb
      exact r
  exact { sm := hsm, few := hfew, plain := fun h _ => absurd (show takesB 18 13 = true from h) (by decide +kernel), stmt := fun h => absurd (show takesB 12 13 = true from h) (by decide +kernel), block := fun h => absurd (show (13 : Int) = 17 from h) (by decide), stmts := fun h => absurd (show (13 : Int) = 17 from h) (by decide), params := fun _ => Fparams, decl := fun h => absurd (show takesB 2 13 = true from h) (by decide +kernel), spart := fun h => absurd (show takesB 3 13 = true from h) (by decide +kernel), ppart := fun h => absurd (show takesB 4 13 = true from h) (by decide +kernel), recv := fun h => absurd (show (13 : Int) = 12 from h) (by decide), tname := fun h => absurd (show takesB 7 13 = true from h) (by decide +kernel), case_ := fun h => absurd (show (13 : Int) = 27 from h) (by decide), pair := fun h => absurd (show (13 : Int) = 40 from h) (by decide), chead := fun h => absurd (show takesB 23 13 = true from h) (by decide +kernel), citem := fun h _ => absurd (show takesB 18 13 = true ∨ takesB 26 13 = true from h) (by decide +kernel), own := fun _ => Fown }
theorem pp_15 {f rl : Nat} {t : ByteArray} {n a : Int} {p : Option Addr} {c : Nat} {ks : List MT} (hsm : t.size ≤ 65536) (hfew : ks.length ≤ 20000) (hsh : faultSh (shEx [9]) ks.length = 0) (hk : KP f (shEx [9]) ks)  : PP (f + 1) rl (.node 15 t n a p c ks) := by
  have hl := fault_ex hsh
  simp only [List.length_cons, List.length_nil] at hl
  obtain ⟨t0, r0, rfl⟩ : ∃ x xs, ks = x :: xs := List.exists_cons_of_length_pos (by omega)
  obtain rfl : r0 = [] := List.eq_nil_of_length_eq_zero (by simp only [List.length_cons] at hl; omega)
  have k0 : PP f 9 t0 ∧ takesB 9 t0.kind = true := hk 0 (by simp)
  have Ftname : ∃ g, Wx 72 (f + 1) (.node 15 t n a p c [t0]) g := by
    refine ⟨?gtname, ?htname⟩
    case htname =>
      intro L pb base hL hpb x hx
      obtain ⟨a', p', c', y0, rfl, l0⟩ := hx.one
      have r := typeName_15 (t := t) (n := n) (a := a') (p := p') (c := c') (base := base) (pb := pb) (L := L) (by rw [l0.same.2.1]; exact small_of k0.1.sm) hpb
      simp only [l0.same.2.1] at r
      exact r
  have Fcitem : ∃ g, Wx 138 (f + 1) (.node 15 t n a p c [t0]) g := by
    refine ⟨?gcitem, ?hcitem⟩
    case hcitem =>
      intro L pb base hL hpb x hx
      obtain ⟨a', p', c', y0, rfl, l0⟩ := hx.one
      have r := caseItem_15 (typeName_15 (t := t) (n := n) (a := a') (p := p') (c := c') (base := base) (pb := pb) (L := L) (by rw [l0.same.2.1]; exact small_of k0.1.sm) hpb) hpb
      simp only [l0.same.2.1] at r
      exact r
  have Fown : ∃ g, Wx 41 (f + 1) (.node 15 t n a p c [t0]) g := by
    obtain ⟨g8, h8⟩ := Ftname
    refine ⟨?gown, ?hown⟩
    case hown =>
      intro L pb base hL hpb x hx
      have r := h8 L pb base hL hpb x hx
      obtain ⟨a', p', c', ys, rfl, hl9, _⟩ := hx.node
      exact ownW_15 (by decide +kernel) r hpb
  exact { sm := hsm, few := hfew, plain := fun h _ => absurd (show takesB 18 15 = true from h) (by decide +kernel), stmt := fun h => absurd (show takesB 12 15 = true from h) (by decide +kernel), block := fun h => absurd (show (15 : Int) = 17 from h) (by decide), stmts := fun h => absurd (show (15 : Int) = 17 from h) (by decide), params := fun h => absurd (show (15 : Int) = 13 from h) (by decide), decl := fun h => absurd (show takesB 2 15 = true from h) (by decide +kernel), spart := fun h => absurd (show takesB 3 15 = true from h) (by decide +kernel), ppart := fun h => absurd (show takesB 4 15 = true from h) (by decide +kernel), recv := fun h => absurd (show (15 : Int) = 12 from h) (by decide), tname := fun _ => Ftname, case_ := fun h => absurd (show (15 : Int) = 27 from h) (by decide), pair := fun h => absurd (show (15 : Int) = 40 from h) (by decide), chead := fun h => absurd (show takesB 23 15 = true from h) (by decide +kernel), citem := fun _ _ => Fcitem, own := fun _ => Fown }
theorem pp_16 {f rl : Nat} {t : ByteArray} {n a : Int} {p : Option Addr} {c : Nat} {ks : List MT} (hsm : t.size ≤ 65536) (hfew : ks.length ≤ 20000) (hsh : faultSh (shEx []) ks.length = 0) (hk : KP f (shEx []) ks)  : PP (f + 1) rl (.node 16 t n a p c ks) := by
  have hl := fault_ex hsh
  obtain rfl := List.eq_nil_of_length_eq_zero hl
  have Fchead : ∃ g, Wx 110 (f + 1) (.node 16 t n a p c []) g := by
    refine ⟨?gchead, ?hchead⟩
    case hchead =>
      intro L pb base hL hpb x hx
      obtain ⟨a', p', c', rfl⟩ := hx.none
      have r := caseHead_16 (t := t) (n := n) (a := a') (p := p') (c := c') (base := base) (pb := pb) (L := L) (ks := []) hpb
      exact r
  have Fown : ∃ g, Wx 41 (f + 1) (.node 16 t n a p c []) g := by
    refine ⟨?gown, ?hown⟩
    case hown =>
      intro L pb base hL hpb x hx
      obtain ⟨a', p', c', rfl⟩ := hx.none
      have r := ownW_16 (by decide +kernel) (t := t) (n := n) (a := a') (p := p') (c := c') (base := base) (pb := pb) (L := L) (ks := []) hpb
      exact r
  exact { sm := hsm, few := hfew, plain := fun h _ => absurd (show takesB 18 16 = true from h) (by decide +kernel), stmt := fun h => absurd (show takesB 12 16 = true from h) (by decide +kernel), block := fun h => absurd (show (16 : Int) = 17 from h) (by decide), stmts := fun h => absurd (show (16 : Int) = 17 from h) (by decide), params := fun h => absurd (show (16 : Int) = 13 from h) (by decide), decl := fun h => absurd (show takesB 2 16 = true from h) (by decide +kernel), spart := fun h => absurd (show takesB 3 16 = true from h) (by decide +kernel), ppart := fun h => absurd (show takesB 4 16 = true from h) (by decide +kernel), recv := fun h => absurd (show (16 : Int) = 12 from h) (by decide), tname := fun h => absurd (show takesB 7 16 = true from h) (by decide +kernel), case_ := fun h => absurd (show (16 : Int) = 27 from h) (by decide), pair := fun h => absurd (show (16 : Int) = 40 from h) (by decide), chead := fun _ => Fchead, citem := fun h _ => absurd (show takesB 18 16 = true ∨ takesB 26 16 = true from h) (by decide +kernel), own := fun _ => Fown }
theorem pp_1 {f rl : Nat} {t : ByteArray} {n a : Int} {p : Option Addr} {c : Nat} {ks : List MT} (hsm : t.size ≤ 65536) (hfew : ks.length ≤ 20000) (_ : faultSh (shAl 0 [2]) ks.length = 0) (hk : KP f (shAl 0 [2]) ks)  : PP (f + 1) rl (.node 1 t n a p c ks) := by
  have kt : ∀ (i : Nat) (hi : i < ks.length), PP f 2 ks[i] ∧ takesB 2 ks[i].kind = true := fun i hi => by
    have h9 := hk i hi
    have e9 : roleAt (shAl 0 [2]) i = 2 := by show ([2] : List Nat).getD (min i 0) 0 = 2; rw [Nat.min_eq_right (by omega)]; rfl
    rw [e9] at h9
    exact h9
  obtain ⟨gs, hgs⟩ : ∃ gs, WK 65 f ks gs := WK.mk fun i hi => (kt i hi).1.decl (kt i hi).2
  have Fown : ∃ g, Wx 41 (f + 1) (.node 1 t n a p c ks) g := by
    refine ⟨?gown, ?hown⟩
    case hown =>
      intro L pb base hL hpb x hx
      obtain ⟨a', p', c', ys, rfl, hl9, hk9⟩ := hx.node
      have r := own_1 (t := t) (n := n) (a := a') (p := p') (c := c') (by omega) (by omega) (hgs L pb base (by omega) hpb ys hl9 hk9) hpb
      simp only [hl9] at r
      exact r
  exact { sm := hsm, few := hfew, plain := fun h _ => absurd (show takesB 18 1 = true from h) (by decide +kernel), stmt := fun h => absurd (show takesB 12 1 = true from h) (by decide +kernel), block := fun h => absurd (show (1 : Int) = 17 from h) (by decide), stmts := fun h => absurd (show (1 : Int) = 17 from h) (by decide), params := fun h => absurd (show (1 : Int) = 13 from h) (by decide), decl := fun h => absurd (show takesB 2 1 = true from h) (by decide +kernel), spart := fun h => absurd (show takesB 3 1 = true from h) (by decide +kernel), ppart := fun h => absurd (show takesB 4 1 = true from h) (by decide +kernel), recv := fun h => absurd (show (1 : Int) = 12 from h) (by decide), tname := fun h => absurd (show takesB 7 1 = true from h) (by decide +kernel), case_ := fun h => absurd (show (1 : Int) = 27 from h) (by decide), pair := fun h => absurd (show (1 : Int) = 40 from h) (by decide), chead := fun h => absurd (show takesB 23 1 = true from h) (by decide +kernel), citem := fun h _ => absurd (show takesB 18 1 = true ∨ takesB 26 1 = true from h) (by decide +kernel), own := fun _ => Fown }
theorem pp_27 {f rl r4 : Nat} {t : ByteArray} {n a : Int} {p : Option Addr} {c : Nat} {ks : List MT} (hsm : t.size ≤ 65536) (hfew : ks.length ≤ 20000) (hsh : faultSh (shEx [r4, 11]) ks.length = 0) (hk : KP f (shEx [r4, 11]) ks) (hr : r4 = 23 ∨ r4 = 24) : PP (f + 1) rl (.node 27 t n a p c ks) := by
  have hl := fault_ex hsh
  simp only [List.length_cons, List.length_nil] at hl
  obtain ⟨t0, r0', rfl⟩ : ∃ x xs, ks = x :: xs := List.exists_cons_of_length_pos (by omega)
  obtain ⟨t1, r1', rfl⟩ : ∃ x xs, r0' = x :: xs := List.exists_cons_of_length_pos (by simp only [List.length_cons] at hl; omega)
  obtain rfl : r1' = [] := List.eq_nil_of_length_eq_zero (by simp only [List.length_cons] at hl; omega)
  have k0 : PP f r4 t0 ∧ takesB r4 t0.kind = true := hk 0 (by simp)
  have k1 : PP f 11 t1 ∧ takesB 11 t1.kind = true := hk 1 (by simp)
  obtain ⟨g0, h0⟩ := k0.1.chead (is_23 hr k0.2)
  obtain ⟨gs, hgs⟩ := k1.1.stmts (is_17 k1.2)
  have hf1 := k1.1.few
  have Fcase_ : ∃ g, Wx 74 (f + 1) (.node 27 t n a p c [t0, t1]) g := by
    refine ⟨?gcase_, ?hcase_⟩
    case hcase_ =>
      intro L pb base hL hpb x hx
      obtain ⟨a', p', c', y0, y1, rfl, l0, l1⟩ := hx.two
      have r := oneCase_any (t := t) (n := n) (a := a') (p := p') (c := c') (by omega) (by have := l1.len; omega) (h0 L pb base (by omega) hpb y0 l0) (hgs (L + 1) pb base (by omega) hpb y1 l1) hpb
      simp only [l1.len] at r
      exact r
  have Fown : ∃ g, Wx 41 (f + 1) (.node 27 t n a p c [t0, t1]) g := by
    obtain ⟨g8, h8⟩ := Fcase_
    refine ⟨?gown, ?hown⟩
    case hown =>
      intro L pb base hL hpb x hx
      have r := h8 L pb base hL hpb x hx
      obtain ⟨a', p', c', ys, rfl, hl9, _⟩ := hx.node
      exact ownW_27 (by decide +kernel) r hpb
  exact { sm := hsm, few := hfew, plain := fun h _ => absurd (show takesB 18 27 = true from h) (by decide +kernel), stmt := fun h => absurd (show takesB 12 27 = true from h) (by decide +kernel), block := fun h => absurd (show (27 : Int) = 17 from h) (by decide), stmts := fun h => absurd (show (27 : Int) = 17 from h) (by decide), params := fun h => absurd (show (27 : Int) = 13 from h) (by decide), decl := fun h => absurd (show takesB 2 27 = true from h) (by decide +kernel), spart := fun h => absurd (show takesB 3 27 = true from h) (by decide +kernel), ppart := fun h => absurd (show takesB 4 27 = true from h) (by decide +kernel), recv := fun h => absurd (show (27 : Int) = 12 from h) (by decide), tname := fun h => absurd (show takesB 7 27 = true from h) (by decide +kernel), case_ := fun _ => Fcase_, pair := fun h => absurd (show (27 : Int) = 40 from h) (by decide), chead := fun h => absurd (show takesB 23 27 = true from h) (by decide +kernel), citem := fun h _ => absurd (show takesB 18 27 = true ∨ takesB 26 27 = true from h) (by decide +kernel), own := fun _ => Fown }
theorem pp_40p {f rl : Nat} {t : ByteArray} {n a : Int} {p : Option Addr} {c : Nat} {ks : List MT} (hsm : t.size ≤ 65536) (hfew : ks.length ≤ 20000) (hsh : faultSh (shEx [18, 18]) ks.length = 0) (hk : KP f (shEx [18, 18]) ks) (ht0 : t = ⟨#[]⟩) : PP (f + 1) rl (.node 40 t n a p c ks) := by
  subst ht0
  have hl := fault_ex hsh
  simp only [List.length_cons, List.length_nil] at hl
  obtain ⟨t0, r0, rfl⟩ : ∃ x xs, ks = x :: xs := List.exists_cons_of_length_pos (by omega)
  obtain ⟨t1, r1, rfl⟩ : ∃ x xs, r0 = x :: xs := List.exists_cons_of_length_pos (by simp only [List.length_cons] at hl; omega)
  obtain rfl : r1 = [] := List.eq_nil_of_length_eq_zero (by simp only [List.length_cons] at hl; omega)
  have k0 : PP f 18 t0 ∧ takesB 18 t0.kind = true := hk 0 (by simp)
  have k1 : PP f 18 t1 ∧ takesB 18 t1.kind = true := hk 1 (by simp)
  obtain ⟨g0, h0⟩ := k0.1.plain k0.2 (by decide)
  obtain ⟨g0, h0⟩ := h0.expr
  obtain ⟨g1, h1⟩ := k1.1.plain k1.2 (by decide)
  obtain ⟨g1, h1⟩ := h1.expr
  have Fpair : ∃ g, Wx 75 (f + 1) (.node 40 ⟨#[]⟩ n a p c [t0, t1]) g := by
    refine ⟨?gpair, ?hpair⟩
    case hpair =>
      intro L pb base hL hpb x hx
      obtain ⟨a', p', c', y0, y1, rfl, l0, l1⟩ := hx.two
      have r := two_x (n := n) (a := a') (p := p') (c := c') (h0 L pb base (by omega) hpb y0 l0) (h1 L pb base (by omega) hpb y1 l1) hpb
      exact r
  have Fown : ∃ g, Wx 41 (f + 1) (.node 40 ⟨#[]⟩ n a p c [t0, t1]) g := by
    obtain ⟨g8, h8⟩ := Fpair
    refine ⟨?gown, ?hown⟩
    case hown =>
      intro L pb base hL hpb x hx
      have r := h8 L pb base hL hpb x hx
      obtain ⟨a', p', c', ys, rfl, hl9, _⟩ := hx.node
      exact ownW_40 (by decide +kernel) r hpb
  exact { sm := hsm, few := hfew, plain := fun h _ => absurd (show takesB 18 40 = true from h) (by decide +kernel), stmt := fun h => absurd (show takesB 12 40 = true from h) (by decide +kernel), block := fun h => absurd (show (40 : Int) = 17 from h) (by decide), stmts := fun h => absurd (show (40 : Int) = 17 from h) (by decide), params := fun h => absurd (show (40 : Int) = 13 from h) (by decide), decl := fun h => absurd (show takesB 2 40 = true from h) (by decide +kernel), spart := fun h => absurd (show takesB 3 40 = true from h) (by decide +kernel), ppart := fun h => absurd (show takesB 4 40 = true from h) (by decide +kernel), recv := fun h => absurd (show (40 : Int) = 12 from h) (by decide), tname := fun h => absurd (show takesB 7 40 = true from h) (by decide +kernel), case_ := fun h => absurd (show (40 : Int) = 27 from h) (by decide), pair := fun _ => Fpair, chead := fun h => absurd (show takesB 23 40 = true from h) (by decide +kernel), citem := fun h _ => absurd (show takesB 18 40 = true ∨ takesB 26 40 = true from h) (by decide +kernel), own := fun _ => Fown }
theorem pp_40n {f rl : Nat} {t : ByteArray} {n a : Int} {p : Option Addr} {c : Nat} {ks : List MT} (hsm : t.size ≤ 65536) (hfew : ks.length ≤ 20000) (hsh : faultSh (shEx [18]) ks.length = 0) (hk : KP f (shEx [18]) ks) (hne : t.toList.isEmpty = false) : PP (f + 1) rl (.node 40 t n a p c ks) := by
  have hl := fault_ex hsh
  simp only [List.length_cons, List.length_nil] at hl
  obtain ⟨t0, r0, rfl⟩ : ∃ x xs, ks = x :: xs := List.exists_cons_of_length_pos (by omega)
  obtain rfl : r0 = [] := List.eq_nil_of_length_eq_zero (by simp only [List.length_cons] at hl; omega)
  have k0 : PP f 18 t0 ∧ takesB 18 t0.kind = true := hk 0 (by simp)
  obtain ⟨g0, h0⟩ := k0.1.plain k0.2 (by decide)
  obtain ⟨g0, h0⟩ := h0.expr
  have Fpair : ∃ g, Wx 75 (f + 1) (.node 40 t n a p c [t0]) g := by
    refine ⟨?gpair, ?hpair⟩
    case hpair =>
      intro L pb base hL hpb x hx
      obtain ⟨a', p', c', y0, rfl, l0⟩ := hx.one
      have r := pair_name (n := n) (a := a') (p := p') (c := c') (small_of hsm) hne (h0 L pb base (by omega) hpb y0 l0) hpb
      exact r
  have Fown : ∃ g, Wx 41 (f + 1) (.node 40 t n a p c [t0]) g := by
    obtain ⟨g8, h8⟩ := Fpair
    refine ⟨?gown, ?hown⟩
    case hown =>
      intro L pb base hL hpb x hx
      have r := h8 L pb base hL hpb x hx
      obtain ⟨a', p', c', ys, rfl, hl9, _⟩ := hx.node
      exact ownW_40 (by decide +kernel) r hpb
  exact { sm := hsm, few := hfew, plain := fun h _ => absurd (show takesB 18 40 = true from h) (by decide +kernel), stmt := fun h => absurd (show takesB 12 40 = true from h) (by decide +kernel), block := fun h => absurd (show (40 : Int) = 17 from h) (by decide), stmts := fun h => absurd (show (40 : Int) = 17 from h) (by decide), params := fun h => absurd (show (40 : Int) = 13 from h) (by decide), decl := fun h => absurd (show takesB 2 40 = true from h) (by decide +kernel), spart := fun h => absurd (show takesB 3 40 = true from h) (by decide +kernel), ppart := fun h => absurd (show takesB 4 40 = true from h) (by decide +kernel), recv := fun h => absurd (show (40 : Int) = 12 from h) (by decide), tname := fun h => absurd (show takesB 7 40 = true from h) (by decide +kernel), case_ := fun h => absurd (show (40 : Int) = 27 from h) (by decide), pair := fun _ => Fpair, chead := fun h => absurd (show takesB 23 40 = true from h) (by decide +kernel), citem := fun h _ => absurd (show takesB 18 40 = true ∨ takesB 26 40 = true from h) (by decide +kernel), own := fun _ => Fown }
theorem pp_38a {f rl : Nat} {t : ByteArray} {n a : Int} {p : Option Addr} {c : Nat} {ks : List MT} (hsm : t.size ≤ 65536) (hfew : ks.length ≤ 20000) (_ : faultSh (shAl 0 [18]) ks.length = 0) (hk : KP f (shAl 0 [18]) ks)  : PP (f + 1) rl (.node 38 t n a p c ks) := by
  have kt : ∀ (i : Nat) (hi : i < ks.length), PP f 18 ks[i] ∧ takesB 18 ks[i].kind = true := fun i hi => by
    have h9 := hk i hi
    have e9 : roleAt (shAl 0 [18]) i = 18 := by show ([18] : List Nat).getD (min i 0) 0 = 18; rw [Nat.min_eq_right (by omega)]; rfl
    rw [e9] at h9
    exact h9
  obtain ⟨gi, hgi⟩ : ∃ gs, WK 138 f ks gs := WK.mk fun i hi => (kt i hi).1.citem (.inl (kt i hi).2) (by decide)
  have Fchead : ∃ g, Wx 110 (f + 1) (.node 38 t n a p c ks) g := by
    refine ⟨?gchead, ?hchead⟩
    case hchead =>
      intro L pb base hL hpb x hx
      obtain ⟨a', p', c', ys, rfl, hl9, hk9⟩ := hx.node
      have r := caseHead_38 (t := t) (n := n) (a := a') (hgi.list Tryz.call138 hfew L pb base (by omega) hpb ys hl9 hk9 p' c') hpb
      exact r
  obtain ⟨gs, hgs⟩ : ∃ gs, WK 71 f ks gs := WK.mk fun i hi => by
    obtain ⟨g9, h9⟩ := (kt i hi).1.plain (kt i hi).2 (by decide)
    exact h9.expr
  have Fplain : ∃ g, Wx 132 (f + 1) (.node 38 t n a p c ks) g := by
    refine ⟨?gplain, ?hplain⟩
    case hplain =>
      intro L pb base hL hpb x hx
      obtain ⟨a', p', c', ys, rfl, hl9, hk9⟩ := hx.node
      have r := plain_38 (t := t) (n := n) (a := a') (hgs.list Tryz.call71 hfew L pb base (by omega) hpb ys hl9 hk9 p' c') hpb
      exact r
  have Fcitem : ∃ g, Wx 138 (f + 1) (.node 38 t n a p c ks) g := by
    obtain ⟨g9, h9⟩ := Fplain
    obtain ⟨g8, h8⟩ := h9.expr
    exact h8.citem (show ((38 : Int) == 15) = false from by decide)
  have Fown : ∃ g, Wx 41 (f + 1) (.node 38 t n a p c ks) g := by
    obtain ⟨g9, h9⟩ := Fplain
    obtain ⟨g8, h8⟩ := h9.expr
    refine ⟨?gown, ?hown⟩
    case hown =>
      intro L pb base hL hpb x hx
      have r := h8 L pb base hL hpb x hx
      obtain ⟨a', p', c', ys, rfl, hl9, _⟩ := hx.node
      exact ownW_E (by decide +kernel) r hpb
  exact { sm := hsm, few := hfew, plain := fun _ _ => Fplain, stmt := fun h => absurd (show takesB 12 38 = true from h) (by decide +kernel), block := fun h => absurd (show (38 : Int) = 17 from h) (by decide), stmts := fun h => absurd (show (38 : Int) = 17 from h) (by decide), params := fun h => absurd (show (38 : Int) = 13 from h) (by decide), decl := fun h => absurd (show takesB 2 38 = true from h) (by decide +kernel), spart := fun h => absurd (show takesB 3 38 = true from h) (by decide +kernel), ppart := fun h => absurd (show takesB 4 38 = true from h) (by decide +kernel), recv := fun h => absurd (show (38 : Int) = 12 from h) (by decide), tname := fun h => absurd (show takesB 7 38 = true from h) (by decide +kernel), case_ := fun h => absurd (show (38 : Int) = 27 from h) (by decide), pair := fun h => absurd (show (38 : Int) = 40 from h) (by decide), chead := fun _ => Fchead, citem := fun _ _ => Fcitem, own := fun _ => Fown }
theorem pp_38b {f rl : Nat} {t : ByteArray} {n a : Int} {p : Option Addr} {c : Nat} {ks : List MT} (hsm : t.size ≤ 65536) (hfew : ks.length ≤ 20000) (_ : faultSh (shAl 1 [18]) ks.length = 0) (hk : KP f (shAl 1 [18]) ks)  : PP (f + 1) rl (.node 38 t n a p c ks) := by
  have kt : ∀ (i : Nat) (hi : i < ks.length), PP f 18 ks[i] ∧ takesB 18 ks[i].kind = true := fun i hi => by
    have h9 := hk i hi
    have e9 : roleAt (shAl 1 [18]) i = 18 := by show ([18] : List Nat).getD (min i 0) 0 = 18; rw [Nat.min_eq_right (by omega)]; rfl
    rw [e9] at h9
    exact h9
  obtain ⟨gi, hgi⟩ : ∃ gs, WK 138 f ks gs := WK.mk fun i hi => (kt i hi).1.citem (.inl (kt i hi).2) (by decide)
  have Fchead : ∃ g, Wx 110 (f + 1) (.node 38 t n a p c ks) g := by
    refine ⟨?gchead, ?hchead⟩
    case hchead =>
      intro L pb base hL hpb x hx
      obtain ⟨a', p', c', ys, rfl, hl9, hk9⟩ := hx.node
      have r := caseHead_38 (t := t) (n := n) (a := a') (hgi.list Tryz.call138 hfew L pb base (by omega) hpb ys hl9 hk9 p' c') hpb
      exact r
  obtain ⟨gs, hgs⟩ : ∃ gs, WK 71 f ks gs := WK.mk fun i hi => by
    obtain ⟨g9, h9⟩ := (kt i hi).1.plain (kt i hi).2 (by decide)
    exact h9.expr
  have Fplain : ∃ g, Wx 132 (f + 1) (.node 38 t n a p c ks) g := by
    refine ⟨?gplain, ?hplain⟩
    case hplain =>
      intro L pb base hL hpb x hx
      obtain ⟨a', p', c', ys, rfl, hl9, hk9⟩ := hx.node
      have r := plain_38 (t := t) (n := n) (a := a') (hgs.list Tryz.call71 hfew L pb base (by omega) hpb ys hl9 hk9 p' c') hpb
      exact r
  have Fcitem : ∃ g, Wx 138 (f + 1) (.node 38 t n a p c ks) g := by
    obtain ⟨g9, h9⟩ := Fplain
    obtain ⟨g8, h8⟩ := h9.expr
    exact h8.citem (show ((38 : Int) == 15) = false from by decide)
  have Fown : ∃ g, Wx 41 (f + 1) (.node 38 t n a p c ks) g := by
    obtain ⟨g9, h9⟩ := Fplain
    obtain ⟨g8, h8⟩ := h9.expr
    refine ⟨?gown, ?hown⟩
    case hown =>
      intro L pb base hL hpb x hx
      have r := h8 L pb base hL hpb x hx
      obtain ⟨a', p', c', ys, rfl, hl9, _⟩ := hx.node
      exact ownW_E (by decide +kernel) r hpb
  exact { sm := hsm, few := hfew, plain := fun _ _ => Fplain, stmt := fun h => absurd (show takesB 12 38 = true from h) (by decide +kernel), block := fun h => absurd (show (38 : Int) = 17 from h) (by decide), stmts := fun h => absurd (show (38 : Int) = 17 from h) (by decide), params := fun h => absurd (show (38 : Int) = 13 from h) (by decide), decl := fun h => absurd (show takesB 2 38 = true from h) (by decide +kernel), spart := fun h => absurd (show takesB 3 38 = true from h) (by decide +kernel), ppart := fun h => absurd (show takesB 4 38 = true from h) (by decide +kernel), recv := fun h => absurd (show (38 : Int) = 12 from h) (by decide), tname := fun h => absurd (show takesB 7 38 = true from h) (by decide +kernel), case_ := fun h => absurd (show (38 : Int) = 27 from h) (by decide), pair := fun h => absurd (show (38 : Int) = 40 from h) (by decide), chead := fun _ => Fchead, citem := fun _ _ => Fcitem, own := fun _ => Fown }
theorem pp_38t {f rl : Nat} {t : ByteArray} {n a : Int} {p : Option Addr} {c : Nat} {ks : List MT} (hsm : t.size ≤ 65536) (hfew : ks.length ≤ 20000) (_ : faultSh (shAl 1 [26]) ks.length = 0) (hk : KP f (shAl 1 [26]) ks) (hrl : rl = 24) : PP (f + 1) rl (.node 38 t n a p c ks) := by
  have kt : ∀ (i : Nat) (hi : i < ks.length), PP f 26 ks[i] ∧ takesB 26 ks[i].kind = true := fun i hi => by
    have h9 := hk i hi
    have e9 : roleAt (shAl 1 [26]) i = 26 := by show ([26] : List Nat).getD (min i 0) 0 = 26; rw [Nat.min_eq_right (by omega)]; rfl
    rw [e9] at h9
    exact h9
  obtain ⟨gi, hgi⟩ : ∃ gs, WK 138 f ks gs := WK.mk fun i hi => (kt i hi).1.citem (.inr (kt i hi).2) (by decide)
  have Fchead : ∃ g, Wx 110 (f + 1) (.node 38 t n a p c ks) g := by
    refine ⟨?gchead, ?hchead⟩
    case hchead =>
      intro L pb base hL hpb x hx
      obtain ⟨a', p', c', ys, rfl, hl9, hk9⟩ := hx.node
      have r := caseHead_38 (t := t) (n := n) (a := a') (hgi.list Tryz.call138 hfew L pb base (by omega) hpb ys hl9 hk9 p' c') hpb
      exact r
  exact { sm := hsm, few := hfew, plain := fun _ h => absurd hrl h, stmt := fun h => absurd (show takesB 12 38 = true from h) (by decide +kernel), block := fun h => absurd (show (38 : Int) = 17 from h) (by decide), stmts := fun h => absurd (show (38 : Int) = 17 from h) (by decide), params := fun h => absurd (show (38 : Int) = 13 from h) (by decide), decl := fun h => absurd (show takesB 2 38 = true from h) (by decide +kernel), spart := fun h => absurd (show takesB 3 38 = true from h) (by decide +kernel), ppart := fun h => absurd (show takesB 4 38 = true from h) (by decide +kernel), recv := fun h => absurd (show (38 : Int) = 12 from h) (by decide), tname := fun h => absurd (show takesB 7 38 = true from h) (by decide +kernel), case_ := fun h => absurd (show (38 : Int) = 27 from h) (by decide), pair := fun h => absurd (show (38 : Int) = 40 from h) (by decide), chead := fun _ => Fchead, citem := fun _ h => absurd hrl h, own := fun h => absurd hrl h }
end Go.Proofs.YthbnegggohegkaaGreatDoor
