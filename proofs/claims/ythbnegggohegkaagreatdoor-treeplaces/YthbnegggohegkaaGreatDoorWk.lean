/-
  Statements.
-/
import Derived.Test.YthbnegggohegkaaGreatDoorWiJ
namespace Go.Proofs.YthbnegggohegkaaGreatDoor
open Go.RowKit
theorem pp_17 {f rl : Nat} {t : ByteArray} {n a : Int} {p : Option Addr} {c : Nat} {ks : List MT} (hsm : t.size ≤ 65536) (hfew : ks.length ≤ 20000) (_ : faultSh (shAl 0 [12]) ks.length = 0) (hk : KP f (shAl 0 [12]) ks)  : PP (f + 1) rl (.node 17 t n a p c ks) := by
  have kt : ∀ (i : Nat) (hi : i < ks.length), PP f 12 ks[i] ∧ takesB 12 ks[i].kind = true := fun i hi => by
    have h9 := hk i hi
    have e9 : roleAt (shAl 0 [12]) i = 12 := by show ([12] : List Nat).getD (min i 0) 0 = 12; rw [Nat.min_eq_right (by omega)]; rfl
    rw [e9] at h9
    exact h9
  obtain ⟨gs, hgs⟩ : ∃ gs, WK 73 f ks gs := WK.mk fun i hi => (kt i hi).1.stmt (kt i hi).2
  obtain ⟨gi, hgi⟩ := hgs.inside Tryz.call73 hfew
  have Fblock : ∃ g, Wx 102 (f + 1) (.node 17 t n a p c ks) g := by
    refine ⟨?gblock, ?hblock⟩
    case hblock =>
      intro L pb base hL hpb x hx
      obtain ⟨a', p', c', ys, rfl, hl9, hk9⟩ := hx.node
      have r := block_any (y := .node 17 t n a' p' c' ys) (hgi L pb base hL hpb ys hl9 hk9 p' c') hpb
      exact r
  have Fstmt : ∃ g, Wx 73 (f + 1) (.node 17 t n a p c ks) g := by
    refine ⟨?gstmt, ?hstmt⟩
    case hstmt =>
      intro L pb base hL hpb x hx
      obtain ⟨a', p', c', ys, rfl, hl9, hk9⟩ := hx.node
      have r := st_17 (block_any (y := .node 17 t n a' p' c' ys) (hgi L pb base hL hpb ys hl9 hk9 p' c') hpb) hpb
      exact r
  have Fstmts : ∃ gs : Nat → PS → PS, ∀ L pb base, L + (f + 1) ≤ 1001 → pb < base → ∀ x, Lk (f + 1) (.node 17 t n a p c ks) x → ∀ (i : Nat) (hi : i < x.kids.length), Wf 73 pb base L x.kids[i] (gs i) := by
    refine ⟨gs, fun L pb base hL hpb x hx => ?_⟩
    obtain ⟨a', p', c', ys, rfl, hl9, hk9⟩ := hx.node
    exact hgs L pb base (by omega) hpb ys hl9 hk9
  have Fown : ∃ g, Wx 41 (f + 1) (.node 17 t n a p c ks) g := by
    obtain ⟨g8, h8⟩ := Fstmt
    refine ⟨?gown, ?hown⟩
    case hown =>
      intro L pb base hL hpb x hx
      have r := h8 L pb base hL hpb x hx
      obtain ⟨a', p', c', ys, rfl, hl9, _⟩ := hx.node
      exact ownW_S (by decide +kernel) r hpb
  exact { sm := hsm, few := hfew, plain := fun h _ => absurd (show takesB 18 17 = true from h) (by decide +kernel), stmt := fun _ => Fstmt, block := fun _ => Fblock, stmts := fun _ => Fstmts, params := fun h => absurd (show (17 : Int) = 13 from h) (by decide), decl := fun h => absurd (show takesB 2 17 = true from h) (by decide +kernel), spart := fun h => absurd (show takesB 3 17 = true from h) (by decide +kernel), ppart := fun h => absurd (show takesB 4 17 = true from h) (by decide +kernel), recv := fun h => absurd (show (17 : Int) = 12 from h) (by decide), tname := fun h => absurd (show takesB 7 17 = true from h) (by decide +kernel), case_ := fun h => absurd (show (17 : Int) = 27 from h) (by decide), pair := fun h => absurd (show (17 : Int) = 40 from h) (by decide), chead := fun h => absurd (show takesB 23 17 = true from h) (by decide +kernel), citem := fun h _ => absurd (show takesB 18 17 = true ∨ takesB 26 17 = true from h) (by decide +kernel), own := fun _ => Fown }
theorem pp_18 {f rl : Nat} {t : ByteArray} {n a : Int} {p : Option Addr} {c : Nat} {ks : List MT} (hsm : t.size ≤ 65536) (hfew : ks.length ≤ 20000) (hsh : faultSh (shEx [18]) ks.length = 0) (hk : KP f (shEx [18]) ks)  : PP (f + 1) rl (.node 18 t n a p c ks) := by
  have hl := fault_ex hsh
  simp only [List.length_cons, List.length_nil] at hl
  obtain ⟨t0, r0, rfl⟩ : ∃ x xs, ks = x :: xs := List.exists_cons_of_length_pos (by omega)
  obtain rfl : r0 = [] := List.eq_nil_of_length_eq_zero (by simp only [List.length_cons] at hl; omega)
  have k0 : PP f 18 t0 ∧ takesB 18 t0.kind = true := hk 0 (by simp)
  obtain ⟨g0, h0⟩ := k0.1.plain k0.2 (by decide)
  obtain ⟨g0, h0⟩ := h0.expr
  have Fstmt : ∃ g, Wx 73 (f + 1) (.node 18 t n a p c [t0]) g := by
    refine ⟨?gstmt, ?hstmt⟩
    case hstmt =>
      intro L pb base hL hpb x hx
      obtain ⟨a', p', c', y0, rfl, l0⟩ := hx.one
      have r := st_18 (n := n) (a := a') (p := p') (c := c') (small_of hsm) (h0 L pb base (by omega) hpb y0 l0) hpb
      exact r
  exact PP.ofS (by decide +kernel) hsm hfew Fstmt
theorem pp_19 {f rl : Nat} {t : ByteArray} {n a : Int} {p : Option Addr} {c : Nat} {ks : List MT} (hsm : t.size ≤ 65536) (hfew : ks.length ≤ 20000) (hsh : faultSh (shEx [9, 9, 15]) ks.length = 0) (hk : KP f (shEx [9, 9, 15]) ks)  : PP (f + 1) rl (.node 19 t n a p c ks) := by
  have hl := fault_ex hsh
  simp only [List.length_cons, List.length_nil] at hl
  obtain ⟨t0, r0, rfl⟩ : ∃ x xs, ks = x :: xs := List.exists_cons_of_length_pos (by omega)
  obtain ⟨t1, r1, rfl⟩ : ∃ x xs, r0 = x :: xs := List.exists_cons_of_length_pos (by simp only [List.length_cons] at hl; omega)
  obtain ⟨t2, r2, rfl⟩ : ∃ x xs, r1 = x :: xs := List.exists_cons_of_length_pos (by simp only [List.length_cons] at hl; omega)
  obtain rfl : r2 = [] := List.eq_nil_of_length_eq_zero (by simp only [List.length_cons] at hl; omega)
  have k0 : PP f 9 t0 ∧ takesB 9 t0.kind = true := hk 0 (by simp)
  have k1 : PP f 9 t1 ∧ takesB 9 t1.kind = true := hk 1 (by simp)
  have k2 : PP f 15 t2 ∧ takesB 15 t2.kind = true := hk 2 (by simp)
  obtain ⟨g2, h2⟩ := k2.1.plain (sub_18 (by decide) k2.2) (by decide)
  obtain ⟨g2, h2⟩ := h2.expr
  have Fstmt : ∃ g, Wx 73 (f + 1) (.node 19 t n a p c [t0, t1, t2]) g := by
    refine ⟨?gstmt, ?hstmt⟩
    case hstmt =>
      intro L pb base hL hpb x hx
      obtain ⟨a', p', c', y0, y1, y2, rfl, l0, l1, l2⟩ := hx.three
      have r := st_19 (t := t) (n := n) (a := a') (p := p') (c := c') (two_any (sg := ⟨#[32, 58, 61, 32]⟩) (by rw [l0.same.2.1]; exact small_of k0.1.sm) (by rw [l1.same.2.1]; exact small_of k1.1.sm) (by decide) (h2 L pb base (by omega) hpb y2 l2) hpb) hpb
      simp only [l0.same.2.1, l1.same.2.1] at r
      exact r
  exact PP.ofS (by decide +kernel) hsm hfew Fstmt
theorem pp_21 {f rl : Nat} {t : ByteArray} {n a : Int} {p : Option Addr} {c : Nat} {ks : List MT} (hsm : t.size ≤ 65536) (hfew : ks.length ≤ 20000) (hsh : faultSh (shEx [9, 9, 15]) ks.length = 0) (hk : KP f (shEx [9, 9, 15]) ks)  : PP (f + 1) rl (.node 21 t n a p c ks) := by
  have hl := fault_ex hsh
  simp only [List.length_cons, List.length_nil] at hl
  obtain ⟨t0, r0, rfl⟩ : ∃ x xs, ks = x :: xs := List.exists_cons_of_length_pos (by omega)
  obtain ⟨t1, r1, rfl⟩ : ∃ x xs, r0 = x :: xs := List.exists_cons_of_length_pos (by simp only [List.length_cons] at hl; omega)
  obtain ⟨t2, r2, rfl⟩ : ∃ x xs, r1 = x :: xs := List.exists_cons_of_length_pos (by simp only [List.length_cons] at hl; omega)
  obtain rfl : r2 = [] := List.eq_nil_of_length_eq_zero (by simp only [List.length_cons] at hl; omega)
  have k0 : PP f 9 t0 ∧ takesB 9 t0.kind = true := hk 0 (by simp)
  have k1 : PP f 9 t1 ∧ takesB 9 t1.kind = true := hk 1 (by simp)
  have k2 : PP f 15 t2 ∧ takesB 15 t2.kind = true := hk 2 (by simp)
  obtain ⟨g2, h2⟩ := k2.1.plain (sub_18 (by decide) k2.2) (by decide)
  obtain ⟨g2, h2⟩ := h2.expr
  have Fstmt : ∃ g, Wx 73 (f + 1) (.node 21 t n a p c [t0, t1, t2]) g := by
    refine ⟨?gstmt, ?hstmt⟩
    case hstmt =>
      intro L pb base hL hpb x hx
      obtain ⟨a', p', c', y0, y1, y2, rfl, l0, l1, l2⟩ := hx.three
      have r := st_21 (t := t) (n := n) (a := a') (p := p') (c := c') (two_any (sg := ⟨#[32, 61, 32]⟩) (by rw [l0.same.2.1]; exact small_of k0.1.sm) (by rw [l1.same.2.1]; exact small_of k1.1.sm) (by decide) (h2 L pb base (by omega) hpb y2 l2) hpb) hpb
      simp only [l0.same.2.1, l1.same.2.1] at r
      exact r
  exact PP.ofS (by decide +kernel) hsm hfew Fstmt
theorem pp_20 {f rl : Nat} {t : ByteArray} {n a : Int} {p : Option Addr} {c : Nat} {ks : List MT} (hsm : t.size ≤ 65536) (hfew : ks.length ≤ 20000) (hsh : faultSh (shEx [14, 18]) ks.length = 0) (hk : KP f (shEx [14, 18]) ks)  : PP (f + 1) rl (.node 20 t n a p c ks) := by
  have hl := fault_ex hsh
  simp only [List.length_cons, List.length_nil] at hl
  obtain ⟨t0, r0, rfl⟩ : ∃ x xs, ks = x :: xs := List.exists_cons_of_length_pos (by omega)
  obtain ⟨t1, r1, rfl⟩ : ∃ x xs, r0 = x :: xs := List.exists_cons_of_length_pos (by simp only [List.length_cons] at hl; omega)
  obtain rfl : r1 = [] := List.eq_nil_of_length_eq_zero (by simp only [List.length_cons] at hl; omega)
  have k0 : PP f 14 t0 ∧ takesB 14 t0.kind = true := hk 0 (by simp)
  have k1 : PP f 18 t1 ∧ takesB 18 t1.kind = true := hk 1 (by simp)
  obtain ⟨g0, h0⟩ := k0.1.plain (sub_18 (by decide) k0.2) (by decide)
  obtain ⟨g0, h0⟩ := h0.expr
  obtain ⟨g1, h1⟩ := k1.1.plain k1.2 (by decide)
  obtain ⟨g1, h1⟩ := h1.expr
  have Fstmt : ∃ g, Wx 73 (f + 1) (.node 20 t n a p c [t0, t1]) g := by
    refine ⟨?gstmt, ?hstmt⟩
    case hstmt =>
      intro L pb base hL hpb x hx
      obtain ⟨a', p', c', y0, y1, rfl, l0, l1⟩ := hx.two
      have r := st_20 (n := n) (a := a') (p := p') (c := c') (small_of hsm) (h0 L pb base (by omega) hpb y0 l0) (h1 L pb base (by omega) hpb y1 l1) hpb
      exact r
  exact PP.ofS (by decide +kernel) hsm hfew Fstmt
theorem pp_22 {f rl : Nat} {t : ByteArray} {n a : Int} {p : Option Addr} {c : Nat} {ks : List MT} (hsm : t.size ≤ 65536) (hfew : ks.length ≤ 20000) (hsh : faultSh (shEx [18, 11, 13]) ks.length = 0) (hk : KP f (shEx [18, 11, 13]) ks)  : PP (f + 1) rl (.node 22 t n a p c ks) := by
  have hl := fault_ex hsh
  simp only [List.length_cons, List.length_nil] at hl
  obtain ⟨t0, r0, rfl⟩ : ∃ x xs, ks = x :: xs := List.exists_cons_of_length_pos (by omega)
  obtain ⟨t1, r1, rfl⟩ : ∃ x xs, r0 = x :: xs := List.exists_cons_of_length_pos (by simp only [List.length_cons] at hl; omega)
  obtain ⟨t2, r2, rfl⟩ : ∃ x xs, r1 = x :: xs := List.exists_cons_of_length_pos (by simp only [List.length_cons] at hl; omega)
  obtain rfl : r2 = [] := List.eq_nil_of_length_eq_zero (by simp only [List.length_cons] at hl; omega)
  have k0 : PP f 18 t0 ∧ takesB 18 t0.kind = true := hk 0 (by simp)
  have k1 : PP f 11 t1 ∧ takesB 11 t1.kind = true := hk 1 (by simp)
  have k2 : PP f 13 t2 ∧ takesB 13 t2.kind = true := hk 2 (by simp)
  obtain ⟨g0, h0⟩ := k0.1.plain k0.2 (by decide)
  obtain ⟨g0, h0⟩ := h0.expr
  obtain ⟨g0, h0⟩ := h0.head
  obtain ⟨g1, h1⟩ := k1.1.block (is_17 k1.2)
  obtain ⟨g2, h2⟩ : ∃ g, ¬ t2.kind = 16 → Wx 73 f t2 g := by
    by_cases hn : t2.kind = 16
    · exact ⟨id, fun h => absurd hn h⟩
    · obtain ⟨g9, h9⟩ := k2.1.stmt (sub_13 k2.2 hn)
      exact ⟨g9, fun _ => h9⟩
  have Fstmt : ∃ g, Wx 73 (f + 1) (.node 22 t n a p c [t0, t1, t2]) g := by
    refine ⟨?gstmt, ?hstmt⟩
    case hstmt =>
      intro L pb base hL hpb x hx
      obtain ⟨a', p', c', y0, y1, y2, rfl, l0, l1, l2⟩ := hx.three
      have r := st_22 (t := t) (n := n) (a := a') (p := p') (c := c') (choice_any (h0 L pb base (by omega) hpb y0 l0) (h1 L pb base (by omega) hpb y1 l1) (unless_both (ah := ⟨#[32, 101, 108, 115, 101, 32]⟩) (y := y2) (g := g2) hpb (by decide) (fun hn => h2 (by rw [← l2.same.1]; exact hn) L pb base (by omega) hpb y2 l2) Tryz.call73) hpb) hpb
      simp only [l2.same.1] at r
      exact r
  exact PP.ofS (by decide +kernel) hsm hfew Fstmt
theorem pp_23 {f rl : Nat} {t : ByteArray} {n a : Int} {p : Option Addr} {c : Nat} {ks : List MT} (hsm : t.size ≤ 65536) (hfew : ks.length ≤ 20000) (hsh : faultSh (shEx [19, 11]) ks.length = 0) (hk : KP f (shEx [19, 11]) ks)  : PP (f + 1) rl (.node 23 t n a p c ks) := by
  have hl := fault_ex hsh
  simp only [List.length_cons, List.length_nil] at hl
  obtain ⟨t0, r0, rfl⟩ : ∃ x xs, ks = x :: xs := List.exists_cons_of_length_pos (by omega)
  obtain ⟨t1, r1, rfl⟩ : ∃ x xs, r0 = x :: xs := List.exists_cons_of_length_pos (by simp only [List.length_cons] at hl; omega)
  obtain rfl : r1 = [] := List.eq_nil_of_length_eq_zero (by simp only [List.length_cons] at hl; omega)
  have k0 : PP f 19 t0 ∧ takesB 19 t0.kind = true := hk 0 (by simp)
  have k1 : PP f 11 t1 ∧ takesB 11 t1.kind = true := hk 1 (by simp)
  obtain ⟨g0, h0⟩ : ∃ g, ¬ t0.kind = 16 → Wx 134 f t0 g := by
    by_cases hn : t0.kind = 16
    · exact ⟨id, fun h => absurd hn h⟩
    · obtain ⟨g9, h9⟩ := k0.1.plain (sub_19 k0.2 hn) (by decide)
      obtain ⟨g8, h8⟩ := h9.expr
      obtain ⟨g7, h7⟩ := h8.head
      exact ⟨g7, fun _ => h7⟩
  obtain ⟨g1, h1⟩ := k1.1.block (is_17 k1.2)
  have Fstmt : ∃ g, Wx 73 (f + 1) (.node 23 t n a p c [t0, t1]) g := by
    refine ⟨?gstmt, ?hstmt⟩
    case hstmt =>
      intro L pb base hL hpb x hx
      obtain ⟨a', p', c', y0, y1, rfl, l0, l1⟩ := hx.two
      have r := st_23 (t := t) (n := n) (a := a') (p := p') (c := c') (loop_23 (label_both hpb (small_of hsm)) (unless_both (ah := ⟨#[32]⟩) (y := y0) (g := g0) hpb (by decide) (fun hn => h0 (by rw [← l0.same.1]; exact hn) L pb base (by omega) hpb y0 l0) Tryz.call134) (h1 L pb base (by omega) hpb y1 l1) hpb) hpb
      simp only [l0.same.1] at r
      exact r
  exact PP.ofS (by decide +kernel) hsm hfew Fstmt
theorem pp_24 {f rl : Nat} {t : ByteArray} {n a : Int} {p : Option Addr} {c : Nat} {ks : List MT} (hsm : t.size ≤ 65536) (hfew : ks.length ≤ 20000) (hsh : faultSh (shEx [10, 10, 18, 11]) ks.length = 0) (hk : KP f (shEx [10, 10, 18, 11]) ks)  : PP (f + 1) rl (.node 24 t n a p c ks) := by
  have hl := fault_ex hsh
  simp only [List.length_cons, List.length_nil] at hl
  obtain ⟨t0, r0, rfl⟩ : ∃ x xs, ks = x :: xs := List.exists_cons_of_length_pos (by omega)
  obtain ⟨t1, r1, rfl⟩ : ∃ x xs, r0 = x :: xs := List.exists_cons_of_length_pos (by simp only [List.length_cons] at hl; omega)
  obtain ⟨t2, r2, rfl⟩ : ∃ x xs, r1 = x :: xs := List.exists_cons_of_length_pos (by simp only [List.length_cons] at hl; omega)
  obtain ⟨t3, r3, rfl⟩ : ∃ x xs, r2 = x :: xs := List.exists_cons_of_length_pos (by simp only [List.length_cons] at hl; omega)
  obtain rfl : r3 = [] := List.eq_nil_of_length_eq_zero (by simp only [List.length_cons] at hl; omega)
  have k0 : PP f 10 t0 ∧ takesB 10 t0.kind = true := hk 0 (by simp)
  have k1 : PP f 10 t1 ∧ takesB 10 t1.kind = true := hk 1 (by simp)
  have k2 : PP f 18 t2 ∧ takesB 18 t2.kind = true := hk 2 (by simp)
  have k3 : PP f 11 t3 ∧ takesB 11 t3.kind = true := hk 3 (by simp)
  obtain ⟨g2, h2⟩ := k2.1.plain k2.2 (by decide)
  obtain ⟨g2, h2⟩ := h2.expr
  obtain ⟨g2, h2⟩ := h2.head
  obtain ⟨g3, h3⟩ := k3.1.block (is_17 k3.2)
  have Fstmt : ∃ g, Wx 73 (f + 1) (.node 24 t n a p c [t0, t1, t2, t3]) g := by
    refine ⟨?gstmt, ?hstmt⟩
    case hstmt =>
      intro L pb base hL hpb x hx
      obtain ⟨a', p', c', y0, y1, y2, y3, rfl, l0, l1, l2, l3⟩ := hx.four
      have r := st_24 (t := t) (n := n) (a := a') (p := p') (c := c') (loop_both hpb (label_both hpb (small_of hsm)) (by rw [l0.item]; exact item_small k0.1.sm) (by rw [l1.item]; exact item_small k1.1.sm) (h2 L pb base (by omega) hpb y2 l2) (h3 L pb base (by omega) hpb y3 l3)) hpb
      simp only [l0.item, l1.item, l1.same.1] at r
      exact r
  exact PP.ofS (by decide +kernel) hsm hfew Fstmt
theorem pp_25 {f rl : Nat} {t : ByteArray} {n a : Int} {p : Option Addr} {c : Nat} {ks : List MT} (hsm : t.size ≤ 65536) (hfew : ks.length ≤ 20000) (hsh : faultSh (shAl 1 [19, 21]) ks.length = 0) (hk : KP f (shAl 1 [19, 21]) ks)  : PP (f + 1) rl (.node 25 t n a p c ks) := by
  have hl := al_least hsh
  obtain ⟨t0, r0, rfl⟩ : ∃ x xs, ks = x :: xs := List.exists_cons_of_length_pos (by omega)
  have k0 : PP f 19 t0 ∧ takesB 19 t0.kind = true := hk 0 (by simp)
  have kt : ∀ (i : Nat) (hi : i < r0.length), PP f 21 r0[i] ∧ takesB 21 r0[i].kind = true := fun i hi => by
    have h9 := hk (i + 1) (by simp only [List.length_cons]; omega)
    have e9 : roleAt (shAl 1 [19, 21]) (i + 1) = 21 := by show ([19, 21] : List Nat).getD (min (i + 1) 1) 0 = 21; rw [Nat.min_eq_right (by omega)]; rfl
    rw [e9] at h9
    exact h9
  obtain ⟨g0, h0⟩ : ∃ g, ¬ t0.kind = 16 → Wx 134 f t0 g := by
    by_cases hn : t0.kind = 16
    · exact ⟨id, fun h => absurd hn h⟩
    · obtain ⟨g9, h9⟩ := k0.1.plain (sub_19 k0.2 hn) (by decide)
      obtain ⟨g8, h8⟩ := h9.expr
      obtain ⟨g7, h7⟩ := h8.head
      exact ⟨g7, fun _ => h7⟩
  obtain ⟨gs, hgs⟩ : ∃ gs, WK 74 f r0 gs := WK.mk fun i hi => (kt i hi).1.case_ (is_27 (.inl rfl) (kt i hi).2)
  have Fstmt : ∃ g, Wx 73 (f + 1) (.node 25 t n a p c (t0 :: r0)) g := by
    refine ⟨?gstmt, ?hstmt⟩
    case hstmt =>
      intro L pb base hL hpb x hx
      obtain ⟨a', p', c', y0, ys, rfl, l0, hl9, hk9⟩ := hx.cons
      have r := st_25 (t := t) (n := n) (a := a') (p := p') (c := c') (switch_both hpb (by omega) (label_both hpb (small_of hsm)) (unless_both (ah := ⟨#[32]⟩) (y := y0) (g := g0) hpb (by decide) (fun hn => h0 (by rw [← l0.same.1]; exact hn) L pb base (by omega) hpb y0 l0) Tryz.call134) (hgs L pb base (by omega) hpb ys hl9 hk9)) hpb
      simp only [l0.same.1, hl9] at r
      exact r
  exact PP.ofS (by decide +kernel) hsm hfew Fstmt
theorem pp_26 {f rl : Nat} {t : ByteArray} {n a : Int} {p : Option Addr} {c : Nat} {ks : List MT} (hsm : t.size ≤ 65536) (hfew : ks.length ≤ 20000) (hsh : faultSh (shAl 2 [10, 18, 22]) ks.length = 0) (hk : KP f (shAl 2 [10, 18, 22]) ks)  : PP (f + 1) rl (.node 26 t n a p c ks) := by
  have hl := al_least hsh
  obtain ⟨t0, r0, rfl⟩ : ∃ x xs, ks = x :: xs := List.exists_cons_of_length_pos (by omega)
  obtain ⟨t1, r1, rfl⟩ : ∃ x xs, r0 = x :: xs := List.exists_cons_of_length_pos (by simp only [List.length_cons] at hl; omega)
  have k0 : PP f 10 t0 ∧ takesB 10 t0.kind = true := hk 0 (by simp)
  have k1 : PP f 18 t1 ∧ takesB 18 t1.kind = true := hk 1 (by simp)
  have kt : ∀ (i : Nat) (hi : i < r1.length), PP f 22 r1[i] ∧ takesB 22 r1[i].kind = true := fun i hi => by
    have h9 := hk (i + 2) (by simp only [List.length_cons]; omega)
    have e9 : roleAt (shAl 2 [10, 18, 22]) (i + 2) = 22 := by show ([10, 18, 22] : List Nat).getD (min (i + 2) 2) 0 = 22; rw [Nat.min_eq_right (by omega)]; rfl
    rw [e9] at h9
    exact h9
  obtain ⟨g1, h1⟩ := k1.1.plain k1.2 (by decide)
  obtain ⟨g1, h1⟩ := h1.first
  obtain ⟨gs, hgs⟩ : ∃ gs, WK 74 f r1 gs := WK.mk fun i hi => (kt i hi).1.case_ (is_27 (.inr rfl) (kt i hi).2)
  have Fstmt : ∃ g, Wx 73 (f + 1) (.node 26 t n a p c (t0 :: t1 :: r1)) g := by
    refine ⟨?gstmt, ?hstmt⟩
    case hstmt =>
      intro L pb base hL hpb x hx
      obtain ⟨a', p', c', y0, y1, ys, rfl, l0, l1, hl9, hk9⟩ := hx.cons2
      have r := st_26 (t := t) (n := n) (a := a') (p := p') (c := c') (types_both hpb (by omega) (label_both hpb (small_of hsm)) (typeHead_both hpb (by rw [l0.same.2.1]; exact small_of k0.1.sm) (h1 L pb base (by omega) hpb y1 l1)) (hgs L pb base (by omega) hpb ys hl9 hk9)) hpb
      simp only [l0.same.1, l0.same.2.1, hl9] at r
      exact r
  exact PP.ofS (by decide +kernel) hsm hfew Fstmt
theorem pp_28 {f rl : Nat} {t : ByteArray} {n a : Int} {p : Option Addr} {c : Nat} {ks : List MT} (hsm : t.size ≤ 65536) (hfew : ks.length ≤ 20000) (hsh : faultSh (shEx [19]) ks.length = 0) (hk : KP f (shEx [19]) ks)  : PP (f + 1) rl (.node 28 t n a p c ks) := by
  have hl := fault_ex hsh
  simp only [List.length_cons, List.length_nil] at hl
  obtain ⟨t0, r0, rfl⟩ : ∃ x xs, ks = x :: xs := List.exists_cons_of_length_pos (by omega)
  obtain rfl : r0 = [] := List.eq_nil_of_length_eq_zero (by simp only [List.length_cons] at hl; omega)
  have k0 : PP f 19 t0 ∧ takesB 19 t0.kind = true := hk 0 (by simp)
  obtain ⟨g0, h0⟩ : ∃ g, ¬ t0.kind = 16 → Wx 71 f t0 g := by
    by_cases hn : t0.kind = 16
    · exact ⟨id, fun h => absurd hn h⟩
    · obtain ⟨g9, h9⟩ := k0.1.plain (sub_19 k0.2 hn) (by decide)
      obtain ⟨g8, h8⟩ := h9.expr
      exact ⟨g8, fun _ => h8⟩
  have Fstmt : ∃ g, Wx 73 (f + 1) (.node 28 t n a p c [t0]) g := by
    refine ⟨?gstmt, ?hstmt⟩
    case hstmt =>
      intro L pb base hL hpb x hx
      obtain ⟨a', p', c', y0, rfl, l0⟩ := hx.one
      have r := st_28 (t := t) (n := n) (a := a') (p := p') (c := c') (unless_both (ah := ⟨#[32]⟩) (y := y0) (g := g0) hpb (by decide) (fun hn => h0 (by rw [← l0.same.1]; exact hn) L pb base (by omega) hpb y0 l0) Tryz.call71) hpb
      simp only [l0.same.1] at r
      exact r
  exact PP.ofS (by decide +kernel) hsm hfew Fstmt
theorem pp_29 {f rl : Nat} {t : ByteArray} {n a : Int} {p : Option Addr} {c : Nat} {ks : List MT} (hsm : t.size ≤ 65536) (hfew : ks.length ≤ 20000) (hsh : faultSh (shEx [16]) ks.length = 0) (hk : KP f (shEx [16]) ks)  : PP (f + 1) rl (.node 29 t n a p c ks) := by
  have hl := fault_ex hsh
  simp only [List.length_cons, List.length_nil] at hl
  obtain ⟨t0, r0, rfl⟩ : ∃ x xs, ks = x :: xs := List.exists_cons_of_length_pos (by omega)
  obtain rfl : r0 = [] := List.eq_nil_of_length_eq_zero (by simp only [List.length_cons] at hl; omega)
  have k0 : PP f 16 t0 ∧ takesB 16 t0.kind = true := hk 0 (by simp)
  obtain ⟨g0, h0⟩ := k0.1.plain (sub_18 (by decide) k0.2) (by decide)
  obtain ⟨g0, h0⟩ := h0.expr
  have Fstmt : ∃ g, Wx 73 (f + 1) (.node 29 t n a p c [t0]) g := by
    refine ⟨?gstmt, ?hstmt⟩
    case hstmt =>
      intro L pb base hL hpb x hx
      obtain ⟨a', p', c', y0, rfl, l0⟩ := hx.one
      have r := st_29 (t := t) (n := n) (a := a') (p := p') (c := c') (h0 L pb base (by omega) hpb y0 l0) hpb
      exact r
  exact PP.ofS (by decide +kernel) hsm hfew Fstmt
theorem pp_30 {f rl : Nat} {t : ByteArray} {n a : Int} {p : Option Addr} {c : Nat} {ks : List MT} (hsm : t.size ≤ 65536) (hfew : ks.length ≤ 20000) (hsh : faultSh (shEx [16]) ks.length = 0) (hk : KP f (shEx [16]) ks)  : PP (f + 1) rl (.node 30 t n a p c ks) := by
  have hl := fault_ex hsh
  simp only [List.length_cons, List.length_nil] at hl
  obtain ⟨t0, r0, rfl⟩ : ∃ x xs, ks = x :: xs := List.exists_cons_of_length_pos (by omega)
  obtain rfl : r0 = [] := List.eq_nil_of_length_eq_zero (by simp only [List.length_cons] at hl; omega)
  have k0 : PP f 16 t0 ∧ takesB 16 t0.kind = true := hk 0 (by simp)
  obtain ⟨g0, h0⟩ := k0.1.plain (sub_18 (by decide) k0.2) (by decide)
  obtain ⟨g0, h0⟩ := h0.expr
  have Fstmt : ∃ g, Wx 73 (f + 1) (.node 30 t n a p c [t0]) g := by
    refine ⟨?gstmt, ?hstmt⟩
    case hstmt =>
      intro L pb base hL hpb x hx
      obtain ⟨a', p', c', y0, rfl, l0⟩ := hx.one
      have r := st_30 (t := t) (n := n) (a := a') (p := p') (c := c') (h0 L pb base (by omega) hpb y0 l0) hpb
      exact r
  exact PP.ofS (by decide +kernel) hsm hfew Fstmt
theorem pp_31 {f rl : Nat} {t : ByteArray} {n a : Int} {p : Option Addr} {c : Nat} {ks : List MT} (hsm : t.size ≤ 65536) (hfew : ks.length ≤ 20000) (hsh : faultSh (shEx []) ks.length = 0) (hk : KP f (shEx []) ks)  : PP (f + 1) rl (.node 31 t n a p c ks) := by
  have hl := fault_ex hsh
  obtain rfl := List.eq_nil_of_length_eq_zero hl
  have Fstmt : ∃ g, Wx 73 (f + 1) (.node 31 t n a p c []) g := by
    refine ⟨?gstmt, ?hstmt⟩
    case hstmt =>
      intro L pb base hL hpb x hx
      obtain ⟨a', p', c', rfl⟩ := hx.none
      have r := st_31 (t := t) (n := n) (a := a') (p := p') (c := c') (jump_both (wd := ⟨#[98, 114, 101, 97, 107]⟩) (base := base) (pb := pb) (L := L) (ks := []) hpb (by decide) (small_of hsm)) hpb
      exact r
  exact PP.ofS (by decide +kernel) hsm hfew Fstmt
theorem pp_32 {f rl : Nat} {t : ByteArray} {n a : Int} {p : Option Addr} {c : Nat} {ks : List MT} (hsm : t.size ≤ 65536) (hfew : ks.length ≤ 20000) (hsh : faultSh (shEx []) ks.length = 0) (hk : KP f (shEx []) ks)  : PP (f + 1) rl (.node 32 t n a p c ks) := by
  have hl := fault_ex hsh
  obtain rfl := List.eq_nil_of_length_eq_zero hl
  have Fstmt : ∃ g, Wx 73 (f + 1) (.node 32 t n a p c []) g := by
    refine ⟨?gstmt, ?hstmt⟩
    case hstmt =>
      intro L pb base hL hpb x hx
      obtain ⟨a', p', c', rfl⟩ := hx.none
      have r := st_32 (t := t) (n := n) (a := a') (p := p') (c := c') (jump_both (wd := ⟨#[99, 111, 110, 116, 105, 110, 117, 101]⟩) (base := base) (pb := pb) (L := L) (ks := []) hpb (by decide) (small_of hsm)) hpb
      exact r
  exact PP.ofS (by decide +kernel) hsm hfew Fstmt
theorem pp_33 {f rl : Nat} {t : ByteArray} {n a : Int} {p : Option Addr} {c : Nat} {ks : List MT} (hsm : t.size ≤ 65536) (hfew : ks.length ≤ 20000) (hsh : faultSh (shEx []) ks.length = 0) (hk : KP f (shEx []) ks)  : PP (f + 1) rl (.node 33 t n a p c ks) := by
  have hl := fault_ex hsh
  obtain rfl := List.eq_nil_of_length_eq_zero hl
  have Fstmt : ∃ g, Wx 73 (f + 1) (.node 33 t n a p c []) g := by
    refine ⟨?gstmt, ?hstmt⟩
    case hstmt =>
      intro L pb base hL hpb x hx
      obtain ⟨a', p', c', rfl⟩ := hx.none
      have r := st_33 (t := t) (n := n) (a := a') (p := p') (c := c') (base := base) (pb := pb) (L := L) (ks := []) hpb
      exact r
  exact PP.ofS (by decide +kernel) hsm hfew Fstmt
theorem pp_34 {f rl : Nat} {t : ByteArray} {n a : Int} {p : Option Addr} {c : Nat} {ks : List MT} (hsm : t.size ≤ 65536) (hfew : ks.length ≤ 20000) (hsh : faultSh (shEx [14]) ks.length = 0) (hk : KP f (shEx [14]) ks)  : PP (f + 1) rl (.node 34 t n a p c ks) := by
  have hl := fault_ex hsh
  simp only [List.length_cons, List.length_nil] at hl
  obtain ⟨t0, r0, rfl⟩ : ∃ x xs, ks = x :: xs := List.exists_cons_of_length_pos (by omega)
  obtain rfl : r0 = [] := List.eq_nil_of_length_eq_zero (by simp only [List.length_cons] at hl; omega)
  have k0 : PP f 14 t0 ∧ takesB 14 t0.kind = true := hk 0 (by simp)
  obtain ⟨g0, h0⟩ := k0.1.plain (sub_18 (by decide) k0.2) (by decide)
  obtain ⟨g0, h0⟩ := h0.expr
  have Fstmt : ∃ g, Wx 73 (f + 1) (.node 34 t n a p c [t0]) g := by
    refine ⟨?gstmt, ?hstmt⟩
    case hstmt =>
      intro L pb base hL hpb x hx
      obtain ⟨a', p', c', y0, rfl, l0⟩ := hx.one
      have r := st_34 (n := n) (a := a') (p := p') (c := c') (small_of hsm) (h0 L pb base (by omega) hpb y0 l0) hpb
      exact r
  exact PP.ofS (by decide +kernel) hsm hfew Fstmt
end Go.Proofs.YthbnegggohegkaaGreatDoor
