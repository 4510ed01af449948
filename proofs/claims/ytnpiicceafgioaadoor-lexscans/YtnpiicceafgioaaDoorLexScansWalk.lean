/-
  The walk of the law LexScans: it answers true at every text, in every memory that holds the two tables.
-/
import Derived.Test.YtnpiicceafgioaaDoorP
import Derived.Test.YtnpiicceafgioaaDoorT
import Derived.Test.YtnpiicceafgioaaDoorRJ
namespace Go.Proofs.YtnpiicceafgioaaDoor
open Go.RowKit

theorem refScan_ok (s : ByteArray) (w : World) (ts : List Tok) (h : scanSpec s.data.toList = .ok ts) :
    Calls Tryd.prog 10 #[.string s] w fun e w' => ∃ v, e = .returned (.tuple #[v, .agg #[.int .i64 0, .int .i64 0, .string ⟨#[]⟩]]) ∧ w'.ownsRow w.heap.size 48 3 v ts.length (tokCells ts) ∧ ts.length ≤ 60001 ∧ Below w.heap.size w w' :=
  (refScan_any s w).mono fun _ _ hr => by
    rw [h] at hr
    cases hr with
    | ok _ v he ho hn hb => exact ⟨v, he, ho, hn, hb⟩
theorem refScan_wrong (s : ByteArray) (w : World) (c p : Nat) (h : scanSpec s.data.toList = .error (c, p)) :
    Calls Tryd.prog 10 #[.string s] w fun e w' => e = .returned (.tuple #[.slice none 0 0, .agg #[.int .i64 c, .int .i64 p, .string ⟨#[]⟩]]) ∧ Hid (c ≠ 0) ∧ Below w.heap.size w w' :=
  (refScan_any s w).mono fun _ _ hr => by
    rw [h] at hr
    cases hr with
    | error _ _ he hc hb => exact ⟨he, hc, hb⟩
theorem scan_ok {gw ow gs os : Nat} (s : ByteArray) (w : World) (ht : TabsAt gw ow gs os w) (ts : List Tok) (h : scanSpec s.data.toList = .ok ts) :
    Calls Tryd.prog 11 #[.string s] w fun e w' => ∃ v, e = .returned (.tuple #[v, .nilIface]) ∧ w'.ownsRow w.heap.size 48 3 v ts.length (tokCells ts) ∧ ts.length ≤ 60001 ∧ Below w.heap.size w w' :=
  (scan_any s w ht).mono fun _ _ hr => by
    rw [h] at hr
    cases hr with
    | ok _ v he ho hn hb => exact ⟨v, he, ho, hn, hb⟩
theorem scan_wrong_at {gw ow gs os : Nat} (s : ByteArray) (w : World) (ht : TabsAt gw ow gs os w) (c p : Nat) (h : scanSpec s.data.toList = .error (c, p)) :
    Calls Tryd.prog 11 #[.string s] w fun e w' => ∃ b, e = .returned (.tuple #[.slice none 0 0, .iface 59 (.pointer (some ⟨b, 0, none⟩))]) ∧ w.heap.size ≤ b ∧ WrongAt w' b c p ∧ Below w.heap.size w w' :=
  (scan_any s w ht).mono fun _ _ hr => by
    rw [h] at hr
    cases hr with
    | error _ _ b he hlo hw hb => exact ⟨b, he, hlo, hw, hb⟩

theorem ownsRow_drewN' {w : World} {base : Nat} {e : TypeId} {size : Nat} {v : Value} {n : Nat} {xs : List Value} (h : w.ownsRow base e size v n xs) (k : Nat) : (w.drewN k).ownsRow base e size v n xs := h

set_option maxRecDepth 100000 in
set_option maxHeartbeats 4000000 in
theorem lexScans_ok {gw ow gs os : Nat} (s : ByteArray) (w : World) (ht : TabsAt gw ow gs os w) (ts : List Tok) (h : scanSpec s.data.toList = .ok ts) :
    Calls Tryd.prog 3 #[.string s] w fun e w' => e = .returned (.bool true) ∧ Below w.heap.size w w' := by
  have HS : Hid (scanSpec s.data.toList = .ok ts) := h
  clear h
  go_enter Tryd.func3, Tryd.ntmps3
  go_wp2_with fail
  refine (known_any _ ht).mono ?_
  rintro r w1 ⟨rfl, hb1⟩
  have hz1 := hb1.size
  go_wp2_with fail
  refine (refScan_ok s _ ts HS.out).mono ?_
  rintro r w2 ⟨vw, rfl, how, hn, hb2⟩
  have hz2 := hb2.size
  have HB2 : Hid (Below w.heap.size w w2) := hb1.trans (hb2.mono hz1)
  have HOW2 : Hid (w2.ownsRow w1.heap.size 48 3 vw ts.length (tokCells ts)) := how
  have HT3 : Hid (TabsAt gw ow gs os w) := ht
  clear hb1 hb2 how ht
  go_wp2_with fail
  obtain ⟨W3, hW3⟩ : ∃ W3, W3 = w2.alloc (.cells #[.int .i64 0, .int .i64 0, .string ⟨#[]⟩] 26) := ⟨_, rfl⟩
  have hz3 : W3.heap.size = w2.heap.size + 1 := by rw [hW3]; simp
  have g1 : w2.heap.size < W3.heap.size := by omega
  have x0 : W3.cell? ⟨w2.heap.size, 0, none⟩ = some (.int .i64 0) := by rw [hW3]; simp [go_sem]
  have x1 : W3.cell? ⟨w2.heap.size, 1, none⟩ = some (.int .i64 0) := by rw [hW3]; simp [go_sem]
  have x2 : W3.cell? ⟨w2.heap.size, 2, none⟩ = some (.string ⟨#[]⟩) := by rw [hW3]; simp [go_sem]
  have HB3 : Hid (Below w.heap.size w W3) := by rw [hW3]; exact HB2.out.alloc (by omega) _
  have HOW3 : Hid (W3.ownsRow w1.heap.size 48 3 vw ts.length (tokCells ts)) := by rw [hW3]; exact HOW2.out.alloc _
  have HVL : Hid (∀ g, (vw : Value).ownBlock = some g → g < W3.heap.size) := fun g hg => (HOW3.out.lt g hg).2
  rw [← hW3]
  clear hW3 hz3 HOW2
  refine (scan_ok s _ (HT3.out.below (Nat.le_refl _) HB3.out) ts HS.out).mono ?_
  rintro r w4 ⟨va, rfl, hoa, -, hb4⟩
  have hz4 := hb4.size
  have HA4 : Hid (w4.ownsRow W3.heap.size 48 3 va ts.length (tokCells ts)) := hoa
  have HAB : Hid (∀ g, va.ownBlock = some g → g < w4.heap.size) := fun g hg => (hoa.lt g hg).2
  have HB4 : Hid (Below W3.heap.size W3 w4) := hb4
  clear hb4 hoa
  go_wp2_with fail
  refine (scan_ok s _ (HT3.out.below (Nat.le_refl _) (HB3.out.trans (HB4.out.mono (by omega)))) ts HS.out).mono ?_
  rintro r w5 ⟨vb, rfl, hob, -, hb5⟩
  have hz5 := hb5.size
  have HA5 : Hid (w5.ownsRow W3.heap.size 48 3 va ts.length (tokCells ts)) := ownsRow_below HA4.out hb5
  have HBB5 : Hid (w5.ownsRow w4.heap.size 48 3 vb ts.length (tokCells ts)) := hob
  have HB5 : Hid (Below W3.heap.size W3 w5) := HB4.out.trans (hb5.mono hz4)
  clear hob HA4
  have HW5 : Hid (w5.ownsRow w1.heap.size 48 3 vw ts.length (tokCells ts)) := ownsRow_under HOW3.out HVL.out HB5.out
  clear hb5
  go_wp2_with fail
  refine (same_eq _ _ ts _ HA5.out HW5.out (by omega)).mono ?_
  rintro r w6' ⟨rfl, n6, rfl⟩
  go_wp2_with fail
  refine (same_eq _ _ ts _ (ownsRow_drewN' HBB5.out n6) (ownsRow_drewN' HW5.out n6) (by omega)).mono ?_
  rintro r w7' ⟨rfl, n7, rfl⟩
  obtain ⟨w7, hw7⟩ : ∃ w7, w7 = (w5.drewN n6).drewN n7 := ⟨_, rfl⟩
  have HB7 : Hid (Below W3.heap.size W3 w7) := by rw [hw7]; exact below_drewN (below_drewN HB5.out _) _
  have HA7 : Hid (w7.ownsRow W3.heap.size 48 3 va ts.length (tokCells ts)) := by rw [hw7]; exact HA5.out
  have HBB7 : Hid (w7.ownsRow w4.heap.size 48 3 vb ts.length (tokCells ts)) := by rw [hw7]; exact HBB5.out
  have HW7 : Hid (w7.ownsRow w1.heap.size 48 3 vw ts.length (tokCells ts)) := by rw [hw7]; exact HW5.out
  have hz7 : w5.heap.size ≤ w7.heap.size := by rw [hw7]; simp
  rw [← hw7]
  clear hw7 HA5 HBB5 HW5
  obtain ⟨hc7, -⟩ := bcell HB7.out
  have y0 := (hc7 _ 0 g1).trans x0
  have y1 := (hc7 _ 1 g1).trans x1
  have y2 := (hc7 _ 2 g1).trans x2
  clear hc7
  go_wp2_with fail
  refine (told_ok _ _ _).mono ?_
  rintro r w8 ⟨rfl, hb8⟩
  have hz8 := hb8.size
  have HB8 : Hid (Below W3.heap.size W3 w8) := HB7.out.trans (hb8.mono (by omega))
  have HA8 : Hid (w8.ownsRow W3.heap.size 48 3 va ts.length (tokCells ts)) := ownsRow_below HA7.out hb8
  have HBB8 : Hid (w8.ownsRow w4.heap.size 48 3 vb ts.length (tokCells ts)) := ownsRow_below HBB7.out hb8
  have HW8 : Hid (w8.ownsRow w1.heap.size 48 3 vw ts.length (tokCells ts)) := ownsRow_below HW7.out hb8
  obtain ⟨hc8, -⟩ := bcell HB8.out
  have u0 := (hc8 _ 0 g1).trans x0
  have u1 := (hc8 _ 1 g1).trans x1
  have u2 := (hc8 _ 2 g1).trans x2
  clear hc8 hb8 y0 y1 y2 HA7 HBB7 HW7
  go_wp2_with fail
  refine (told_ok _ _ _).mono ?_
  rintro r w9 ⟨rfl, hb9⟩
  have hz9 := hb9.size
  have HB9 : Hid (Below W3.heap.size W3 w9) := HB8.out.trans (hb9.mono (by omega))
  have HA9 : Hid (w9.ownsRow W3.heap.size 48 3 va ts.length (tokCells ts)) := ownsRow_below HA8.out hb9
  have HBB9 : Hid (w9.ownsRow w4.heap.size 48 3 vb ts.length (tokCells ts)) := ownsRow_below HBB8.out hb9
  have HW9 : Hid (w9.ownsRow w1.heap.size 48 3 vw ts.length (tokCells ts)) := ownsRow_below HW8.out hb9
  clear hb9 u0 u1 u2 HA8 HBB8 HW8
  go_wp2_with fail
  refine (fresh_nil _).mono ?_
  rintro r w9' ⟨rfl, hw9⟩
  have hw9' := hw9.symm
  subst hw9'
  clear hw9
  go_wp2_with fail
  refine (owns_any _ _ _ ts _ HA9.out HBB9.out HW9.out HAB.out HVL.out (by omega) (by omega) (by omega)).mono ?_
  rintro r w10 ⟨rfl, hb10⟩
  have hz10 := hb10.size
  have HB10 : Hid (Below W3.heap.size W3 w10) := HB9.out.trans hb10
  have HW10 : Hid (w10.ownsRow w1.heap.size 48 3 vw ts.length (tokCells ts)) := ownsRow_under HOW3.out HVL.out HB10.out
  clear hb10 HA9 HBB9 HW9
  go_wp2_with fail
  refine (scan_ok s _ (HT3.out.below (Nat.le_refl _) (HB3.out.trans (HB10.out.mono (by omega)))) ts HS.out).mono ?_
  rintro r w11 ⟨vc, rfl, hoc, -, hb11⟩
  have hz11 := hb11.size
  have HB11 : Hid (Below W3.heap.size W3 w11) := HB10.out.trans (hb11.mono (by omega))
  have HW11 : Hid (w11.ownsRow w1.heap.size 48 3 vw ts.length (tokCells ts)) := ownsRow_below HW10.out hb11
  have HC11 : Hid (w11.ownsRow w10.heap.size 48 3 vc ts.length (tokCells ts)) := hoc
  clear hb11 hoc
  go_wp2_with fail
  refine (same_eq _ _ ts _ HC11.out HW11.out (by omega)).mono ?_
  rintro r w12' ⟨rfl, n12, rfl⟩
  obtain ⟨w12, hw12⟩ : ∃ w12, w12 = w11.drewN n12 := ⟨_, rfl⟩
  have HB12 : Hid (Below W3.heap.size W3 w12) := by rw [hw12]; exact below_drewN HB11.out _
  rw [← hw12]
  clear hw12
  obtain ⟨hc12, -⟩ := bcell HB12.out
  have u0 := (hc12 _ 0 g1).trans x0
  have u1 := (hc12 _ 1 g1).trans x1
  have u2 := (hc12 _ 2 g1).trans x2
  clear hc12
  go_wp2_with fail
  refine (told_ok _ _ _).mono ?_
  rintro r w13 ⟨rfl, hb13⟩
  go_wp2_with fail
  go_ret
  exact ⟨rfl, HB3.out.trans ((HB12.out.trans (hb13.mono (by have := HB12.out.size; omega))).mono (by omega))⟩

set_option maxRecDepth 100000 in
set_option maxHeartbeats 4000000 in
theorem lexScans_wrong {gw ow gs os : Nat} (s : ByteArray) (w : World) (ht : TabsAt gw ow gs os w) (c p : Nat) (h : scanSpec s.data.toList = .error (c, p)) :
    Calls Tryd.prog 3 #[.string s] w fun e w' => e = .returned (.bool true) ∧ Below w.heap.size w w' := by
  have HS : Hid (scanSpec s.data.toList = .error (c, p)) := h
  clear h
  go_enter Tryd.func3, Tryd.ntmps3
  go_wp2_with fail
  refine (known_any _ ht).mono ?_
  rintro r w1 ⟨rfl, hb1⟩
  have hz1 := hb1.size
  go_wp2_with fail
  refine (refScan_wrong s _ c p HS.out).mono ?_
  rintro r w2 ⟨rfl, HC0, hb2⟩
  have hz2 := hb2.size
  have hc1 : ((c : Int) == 0) = false := beq_of_ne (k := 0) HC0.out
  have HB2 : Hid (Below w.heap.size w w2) := hb1.trans (hb2.mono hz1)
  have HT3 : Hid (TabsAt gw ow gs os w) := ht
  have HOW2 : Hid (w2.ownsRow w1.heap.size 48 3 (.slice none 0 0) 0 []) := World.ownsRow_nil _ _ _ _
  clear hb1 hb2 ht
  go_wp2_with fail
  obtain ⟨W3, hW3⟩ : ∃ W3, W3 = w2.alloc (.cells #[.int .i64 c, .int .i64 p, .string ⟨#[]⟩] 26) := ⟨_, rfl⟩
  have hz3 : W3.heap.size = w2.heap.size + 1 := by rw [hW3]; simp
  have g1 : w2.heap.size < W3.heap.size := by omega
  have x0 : W3.cell? ⟨w2.heap.size, 0, none⟩ = some (.int .i64 c) := by rw [hW3]; simp [go_sem]
  have x1 : W3.cell? ⟨w2.heap.size, 1, none⟩ = some (.int .i64 p) := by rw [hW3]; simp [go_sem]
  have x2 : W3.cell? ⟨w2.heap.size, 2, none⟩ = some (.string ⟨#[]⟩) := by rw [hW3]; simp [go_sem]
  have HB3 : Hid (Below w.heap.size w W3) := by rw [hW3]; exact HB2.out.alloc (by omega) _
  have HOW3 : Hid (W3.ownsRow w1.heap.size 48 3 (.slice none 0 0) 0 []) := by rw [hW3]; exact HOW2.out.alloc _
  have HVL : Hid (∀ g, ((.slice none 0 0) : Value).ownBlock = some g → g < W3.heap.size) := fun g hg => (HOW3.out.lt g hg).2
  rw [← hW3]
  clear hW3 hz3 HOW2
  refine (scan_wrong_at s _ (HT3.out.below (Nat.le_refl _) HB3.out) c p HS.out).mono ?_
  rintro r w4 ⟨ba, rfl, hba, hwa, hb4⟩
  have hz4 := hb4.size
  have HWA4 : Hid (WrongAt w4 ba c p) := hwa
  have HAB : Hid (∀ g, (Value.slice none 0 0).ownBlock = some g → g < w4.heap.size) := fun g hg => by cases hg
  have HB4 : Hid (Below W3.heap.size W3 w4) := hb4
  have hba2 := hwa.lt
  clear hb4 hwa
  go_wp2_with fail
  refine (scan_wrong_at s _ (HT3.out.below (Nat.le_refl _) (HB3.out.trans (HB4.out.mono (by omega)))) c p HS.out).mono ?_
  rintro r w5 ⟨bb, rfl, hbb, hwb, hb5⟩
  have hz5 := hb5.size
  have HA5 : Hid (w5.ownsRow W3.heap.size 48 3 (.slice none 0 0) 0 []) := World.ownsRow_nil _ _ _ _
  have HBB5 : Hid (w5.ownsRow w4.heap.size 48 3 (.slice none 0 0) 0 []) := World.ownsRow_nil _ _ _ _
  have HWA5 : Hid (WrongAt w5 ba c p) := HWA4.out.below hba2 hb5
  have HWB5 : Hid (WrongAt w5 bb c p) := hwb
  have hbb2 := hwb.lt
  have HB5 : Hid (Below W3.heap.size W3 w5) := HB4.out.trans (hb5.mono hz4)
  clear hwb HWA4
  have HW5 : Hid (w5.ownsRow w1.heap.size 48 3 (.slice none 0 0) 0 []) := ownsRow_under HOW3.out HVL.out HB5.out
  clear hb5
  go_wp2_with fail
  refine (same_eq _ _ [] _ HA5.out HW5.out (by simp)).mono ?_
  rintro r w6' ⟨rfl, n6, rfl⟩
  go_wp2_with fail
  refine (same_eq _ _ [] _ (ownsRow_drewN' HBB5.out n6) (ownsRow_drewN' HW5.out n6) (by simp)).mono ?_
  rintro r w7' ⟨rfl, n7, rfl⟩
  obtain ⟨w7, hw7⟩ : ∃ w7, w7 = (w5.drewN n6).drewN n7 := ⟨_, rfl⟩
  have HB7 : Hid (Below W3.heap.size W3 w7) := by rw [hw7]; exact below_drewN (below_drewN HB5.out _) _
  have HA7 : Hid (w7.ownsRow W3.heap.size 48 3 (.slice none 0 0) 0 []) := by rw [hw7]; exact HA5.out
  have HBB7 : Hid (w7.ownsRow w4.heap.size 48 3 (.slice none 0 0) 0 []) := by rw [hw7]; exact HBB5.out
  have HW7 : Hid (w7.ownsRow w1.heap.size 48 3 (.slice none 0 0) 0 []) := by rw [hw7]; exact HW5.out
  have hz7 : w5.heap.size ≤ w7.heap.size := by rw [hw7]; simp
  have HWA7 : Hid (WrongAt w7 ba c p) := by rw [hw7]; exact HWA5.out.below (B := w5.heap.size) (by omega) (below_drewN (below_drewN (Below.refl _ _) _) _)
  have HWB7 : Hid (WrongAt w7 bb c p) := by rw [hw7]; exact HWB5.out.below (B := w5.heap.size) (by omega) (below_drewN (below_drewN (Below.refl _ _) _) _)
  rw [← hw7]
  clear hw7 HA5 HBB5 HW5
  obtain ⟨hc7, -⟩ := bcell HB7.out
  have y0 := (hc7 _ 0 g1).trans x0
  have y1 := (hc7 _ 1 g1).trans x1
  have y2 := (hc7 _ 2 g1).trans x2
  clear hc7
  go_wp2_with fail
  refine (told_wrong ba c p _ HWA7.out hc1).mono ?_
  rintro r w8 ⟨rfl, hb8⟩
  have hz8 := hb8.size
  have HB8 : Hid (Below W3.heap.size W3 w8) := HB7.out.trans (hb8.mono (by omega))
  have HA8 : Hid (w8.ownsRow W3.heap.size 48 3 (.slice none 0 0) 0 []) := ownsRow_below HA7.out hb8
  have HBB8 : Hid (w8.ownsRow w4.heap.size 48 3 (.slice none 0 0) 0 []) := ownsRow_below HBB7.out hb8
  have HW8 : Hid (w8.ownsRow w1.heap.size 48 3 (.slice none 0 0) 0 []) := ownsRow_below HW7.out hb8
  have HWA8 : Hid (WrongAt w8 ba c p) := HWA7.out.below (by omega) hb8
  have HWB8 : Hid (WrongAt w8 bb c p) := HWB7.out.below (by omega) hb8
  obtain ⟨hc8, -⟩ := bcell HB8.out
  have u0 := (hc8 _ 0 g1).trans x0
  have u1 := (hc8 _ 1 g1).trans x1
  have u2 := (hc8 _ 2 g1).trans x2
  clear hc8 hb8 y0 y1 y2 HA7 HBB7 HW7
  go_wp2_with fail
  refine (told_wrong bb c p _ HWB8.out hc1).mono ?_
  rintro r w9 ⟨rfl, hb9⟩
  have hz9 := hb9.size
  have HB9 : Hid (Below W3.heap.size W3 w9) := HB8.out.trans (hb9.mono (by omega))
  have HA9 : Hid (w9.ownsRow W3.heap.size 48 3 (.slice none 0 0) 0 []) := ownsRow_below HA8.out hb9
  have HBB9 : Hid (w9.ownsRow w4.heap.size 48 3 (.slice none 0 0) 0 []) := ownsRow_below HBB8.out hb9
  have HW9 : Hid (w9.ownsRow w1.heap.size 48 3 (.slice none 0 0) 0 []) := ownsRow_below HW8.out hb9
  have HWA9 : Hid (WrongAt w9 ba c p) := HWA8.out.below (by omega) hb9
  have HWB9 : Hid (WrongAt w9 bb c p) := HWB8.out.below (by omega) hb9
  clear hb9 u0 u1 u2 HA8 HBB8 HW8
  go_wp2_with fail
  refine (fresh_two ba bb c p c p _ (by omega) HWA9.out HWB9.out).mono ?_
  rintro r w9' ⟨rfl, hw9⟩
  have hw9' := hw9.symm
  subst hw9'
  clear hw9
  go_wp2_with fail
  refine (owns_any _ _ _ [] _ HA9.out HBB9.out HW9.out HAB.out HVL.out (by omega) (by omega) (by simp)).mono ?_
  rintro r w10 ⟨rfl, hb10⟩
  have hz10 := hb10.size
  have HB10 : Hid (Below W3.heap.size W3 w10) := HB9.out.trans hb10
  have HW10 : Hid (w10.ownsRow w1.heap.size 48 3 (.slice none 0 0) 0 []) := ownsRow_under HOW3.out HVL.out HB10.out
  clear hb10 HA9 HBB9 HW9
  go_wp2_with fail
  refine (scan_wrong_at s _ (HT3.out.below (Nat.le_refl _) (HB3.out.trans (HB10.out.mono (by omega)))) c p HS.out).mono ?_
  rintro r w11 ⟨bc, rfl, hbc, hwc, hb11⟩
  have hz11 := hb11.size
  have HB11 : Hid (Below W3.heap.size W3 w11) := HB10.out.trans (hb11.mono (by omega))
  have HW11 : Hid (w11.ownsRow w1.heap.size 48 3 (.slice none 0 0) 0 []) := ownsRow_below HW10.out hb11
  have HC11 : Hid (w11.ownsRow w10.heap.size 48 3 (.slice none 0 0) 0 []) := World.ownsRow_nil _ _ _ _
  have HWC11 : Hid (WrongAt w11 bc c p) := hwc
  clear hb11 hwc
  go_wp2_with fail
  refine (same_eq _ _ [] _ HC11.out HW11.out (by simp)).mono ?_
  rintro r w12' ⟨rfl, n12, rfl⟩
  obtain ⟨w12, hw12⟩ : ∃ w12, w12 = w11.drewN n12 := ⟨_, rfl⟩
  have HB12 : Hid (Below W3.heap.size W3 w12) := by rw [hw12]; exact below_drewN HB11.out _
  have HWC12 : Hid (WrongAt w12 bc c p) := by rw [hw12]; exact HWC11.out.below (B := w11.heap.size) HWC11.out.lt (below_drewN (Below.refl _ _) _)
  rw [← hw12]
  clear hw12
  obtain ⟨hc12, -⟩ := bcell HB12.out
  have u0 := (hc12 _ 0 g1).trans x0
  have u1 := (hc12 _ 1 g1).trans x1
  have u2 := (hc12 _ 2 g1).trans x2
  clear hc12
  go_wp2_with fail
  refine (told_wrong bc c p _ HWC12.out hc1).mono ?_
  rintro r w13 ⟨rfl, hb13⟩
  go_wp2_with fail
  go_ret
  exact ⟨rfl, HB3.out.trans ((HB12.out.trans (hb13.mono (by have := HB12.out.size; omega))).mono (by omega))⟩

theorem lexScans_any {gw ow gs os : Nat} (s : ByteArray) (w : World) (ht : TabsAt gw ow gs os w) :
    Calls Tryd.prog 3 #[.string s] w fun e w' => e = .returned (.bool true) ∧ Below w.heap.size w w' := by
  cases h : scanSpec s.data.toList with
  | ok ts => exact lexScans_ok s w ht ts h
  | error e => obtain ⟨c, p⟩ := e; exact lexScans_wrong s w ht c p h
end Go.Proofs.YtnpiicceafgioaaDoor
