/-
  The walk of the law's own owns: two rows that their owner writes full and grows; neither sees the other.
-/
import Derived.Test.YtnpiicceafgioaaDoorRI
namespace Go.Proofs.YtnpiicceafgioaaDoor
open Go.RowKit

theorem three_new (w : World) (t : TypeId) (x0 x1 x2 : Value) : ∀ j u, [x0, x1, x2][j]? = some u → (w.alloc (.cells #[x0, x1, x2] t)).cell? ((⟨w.heap.size, 0, none⟩ : Addr).add j) = some u := by
  intro j u hj
  match j with
  | 0 => simp at hj; subst hj; simp [Addr.add]
  | 1 => simp at hj; subst hj; simp [Addr.add]
  | 2 => simp at hj; subst hj; simp [Addr.add]
  | j + 3 => simp at hj

/-- The first cell of each of the first n things. -/
def kinds (z : Int) (n : Nat) (xs : List Value) : Prop := ∀ i, i < n → xs[i * 3]? = some (.int .i64 z)
theorem kinds_set {z : Int} {j n : Nat} {xs : List Value} (h : kinds z j xs) (hj : j < n) (hl : xs.length = n * 3) (a b : Value) : kinds z (j + 1) (((xs.set (j * 3) (.int .i64 z)).set (j * 3 + 1) a).set (j * 3 + 2) b) := by
  intro i hi
  rw [List.getElem?_set_ne (by omega), List.getElem?_set_ne (by omega)]
  by_cases e : i = j
  · subst e
    rw [List.getElem?_set_self (by omega)]
  · rw [List.getElem?_set_ne (by omega)]
    exact h i (by omega)
theorem kinds_app {z : Int} {n : Nat} {xs : List Value} (h : kinds z n xs) (hl : xs.length = n * 3) (a b : Value) : kinds z (n + 1) (xs ++ [.int .i64 z, a, b]) := by
  intro i hi
  by_cases e : i = n
  · subst e
    rw [List.getElem?_append_right (by omega), hl, Nat.sub_self]; rfl
  · rw [List.getElem?_append_left (by omega)]
    exact h i (by omega)

set_option maxRecDepth 100000 in
set_option maxHeartbeats 4000000 in
theorem owns_any {B0 B1 B2 : Nat} (va vb vw : Value) (ts : List Tok) (w : World) (ha : w.ownsRow B1 48 3 va ts.length (tokCells ts)) (hb : w.ownsRow B2 48 3 vb ts.length (tokCells ts)) (hw : w.ownsRow B0 48 3 vw ts.length (tokCells ts))
    (hab : ∀ g, va.ownBlock = some g → g < B2) (hwa : ∀ g, vw.ownBlock = some g → g < B1) (h12 : B1 ≤ B2) (hB2 : B2 ≤ w.heap.size) (hn : ts.length ≤ 60001) :
    Calls Tryd.prog 15 #[va, vb, vw] w fun e w' => e = .returned (.bool true) ∧ Below B1 w w' := by
  obtain ⟨i0, hi, hz0, hz1, hz2⟩ := info_parts info48
  obtain ⟨p, capa, rfl⟩ := ownsRow_form ha
  obtain ⟨q, capb, rfl⟩ := ownsRow_form hb
  have HW : Hid (w.ownsRow B0 48 3 vw ts.length (tokCells ts)) := hw
  have HB : Hid (w.ownsRow B2 48 3 (.slice q ts.length capb) ts.length (tokCells ts)) := hb
  have HA : Hid (∃ xs, w.ownsRow B1 48 3 (.slice p ts.length capa) ts.length xs ∧ kinds (-9) 0 xs) := ⟨_, ha, fun i hi => by omega⟩
  have HAB : Hid (∀ g, (Value.slice p ts.length capa).ownBlock = some g → g < B2) := hab
  have HWA : Hid (∀ g, vw.ownBlock = some g → g < B1) := hwa
  have HBL : Hid (∀ g, (Value.slice q ts.length capb).ownBlock = some g → B2 ≤ g ∧ g < w.heap.size) := fun g hg => hb.lt g hg
  clear ha hb hw hab hwa
  obtain ⟨n, hnn⟩ : ∃ n, n = ts.length := ⟨_, rfl⟩
  have HN : Hid (n = ts.length) := hnn
  rw [← hnn] at HA HB HW HAB HBL hn ⊢
  clear hnn
  go_enter Tryd.func15, Tryd.ntmps15
  go_wp2
  go_loopw [7] (fun i wi => ∃ j : Nat, j ≤ n ∧ i = .int .i64 j ∧ Hid (wi.ownsRow B2 48 3 (.slice q n capb) n (tokCells ts)) ∧ Hid (∃ xs, wi.ownsRow B1 48 3 (.slice p n capa) n xs ∧ kinds (-9) j xs) ∧ Below B1 w wi) (fun i _ => n - (intOf i).toNat)
  case atStart => exact ⟨0, by omega, rfl, HB.out, HA.out, Below.refl _ _⟩
  case round =>
    obtain ⟨j, hj, rfl, HB1, HA1, hb1⟩ := hrel
    by_cases hlt : j < n
    · obtain ⟨xs, hx1, hx2⟩ := HA1.out
      obtain ⟨ga, rfl, hga, hga2, hca, -⟩ := ownsRow_some hx1 (by omega)
      have hgB : ga < B2 := HAB.out ga rfl
      have hl : xs.length = n * 3 := hx1.1
      obtain ⟨v0, e0⟩ : ∃ v0, xs[j * 3]? = some v0 := ⟨_, List.getElem?_eq_getElem (by omega)⟩
      obtain ⟨v1, e1⟩ : ∃ v1, xs[j * 3 + 1]? = some v1 := ⟨_, List.getElem?_eq_getElem (by omega)⟩
      obtain ⟨v2, e2⟩ : ∃ v2, xs[j * 3 + 2]? = some v2 := ⟨_, List.getElem?_eq_getElem (by omega)⟩
      have c0 := (hx1.cellAt (j * 3) (by omega)).trans e0
      have c1 := (hx1.cellAt (j * 3 + 1) (by omega)).trans e1
      have c2 := (hx1.cellAt (j * 3 + 2) (by omega)).trans e2
      have f1 := hx1.frozenAt (j * 3)
      have f2 := hx1.frozenAt (j * 3 + 1)
      have f3 := hx1.frozenAt (j * 3 + 2)
      have i1 : (j : Int) < n := by omega
      have HX1 : Hid (wr.ownsRow B1 48 3 (.slice (some ⟨ga, 0, none⟩) n capa) n xs) := hx1
      have HX2 : Hid (kinds (-9) j xs) := hx2
      clear hx1 hx2 HA1 e0 e1 e2
      go_wp2_with fail
      have hs1 := HX1.out.stored (j * 3) (.int .i64 (-9))
      have hs2 := hs1.1.stored (j * 3 + 1) (.string ⟨#[]⟩)
      have hs3 := hs2.1.stored (j * 3 + 2) (.int .i64 0)
      have hne : ∀ o, (Value.slice q n capb).ownBlock ≠ some (⟨ga, o, none⟩ : Addr).block := fun o h => by have := (HBL.out ga h).1; omega
      have hob := ownsRow_setCell_other (ownsRow_setCell_other (ownsRow_setCell_other HB1.out (a := ⟨ga, j * 3, none⟩) (hne _) (.int .i64 (-9))) (a := ⟨ga, j * 3 + 1, none⟩) (hne _) (.string ⟨#[]⟩)) (a := ⟨ga, j * 3 + 2, none⟩) (hne _) (.int .i64 0)
      have hbn := ((hb1.setCell (p := ⟨ga, j * 3, none⟩) hga (.int .i64 (-9))).setCell (p := ⟨ga, j * 3 + 1, none⟩) hga (.string ⟨#[]⟩)).setCell (p := ⟨ga, j * 3 + 2, none⟩) hga (.int .i64 0)
      exact ⟨⟨j + 1, by omega, by go_num, hob, ⟨_, hs3.1, kinds_set HX2.out hlt hl _ _⟩, hbn⟩, by simp [intOf]; omega⟩
    · obtain rfl : j = n := by omega
      have HX : Hid (∃ xs, wr.ownsRow B1 48 3 (.slice p j capa) (j + 0) xs ∧ kinds (-9) (j + 0) xs) := HA1.out
      have HQ : Hid (∀ g, (Value.slice q j capb).ownBlock = some g → (Value.slice p j capa).ownBlock ≠ some g) := fun g hg h => by have := (HBL.out g hg).1; have := HAB.out g h; omega
      have hz1' := hb1.size
      clear HA1 HA HB hlt
      go_wp2_with fail
      go_loopw [8, 9] (fun x i wi => ∃ m : Nat, m ≤ 20 ∧ i = .int .i64 m ∧ Hid (wi.ownsRow B2 48 3 (.slice q j capb) j (tokCells ts)) ∧ Hid (∃ xs, wi.ownsRow B1 48 3 x (j + m) xs ∧ kinds (-9) (j + m) xs) ∧ Hid (∀ g, (Value.slice q j capb).ownBlock = some g → x.ownBlock ≠ some g) ∧ Below B1 w wi) (fun _ i _ => 20 - (intOf i).toNat)
      case atStart => exact ⟨0, by omega, rfl, HB1.out, HX.out, HQ.out, hb1⟩
      case round =>
        obtain ⟨m, hm, rfl, HB2, HX2, HQ2, hb2⟩ := hrel
        have hz2' := hb2.size
        by_cases hlt : m < 20
        · have i1 : (m : Int) < 20 := by omega
          obtain ⟨xs, hx1, hx2⟩ := HX2.out
          have HK : Hid (kinds (-9) (j + m) xs) := hx2
          clear hx2 HX2
          go_wp2_with (at_builtin; refine wpList_append_own_at _ rfl _ _ 23 rfl B1 48 i0 (.agg #[.int .i64 0, .string ⟨#[]⟩, .int .i64 0]) 3 32 Tryd.underlying23 hi hz0 hz1 hz2 rfl (by decide) _ _ _ rfl (hx1.alloc _) ⟨wr.heap.size, 0, none⟩ 1 1 [.int .i64 (-9), .string ⟨#[]⟩, .int .i64 0] rfl rfl (three_new _ _ _ _ _) (fun x hx => by simp at hx; rcases hx with rfl | rfl | rfl <;> rfl) (by unfold maxLen; omega) (by omega) (by simp; omega) ?_; intro v' w4 hown4 hgr4 _ hat4)
          have hl : xs.length = (j + m) * 3 := hx1.1
          have hob := (HB2.out.alloc (Obj.cells #[.int .i64 (-9), .string ⟨#[]⟩, .int .i64 0] 48)).kept hgr4 (by
            cases hq : (Value.slice q j capb).ownBlock with
            | none => exact .inl rfl
            | some g => exact .inr fun h => HQ2.out g hq h.symm)
          have hq4 : ∀ g, (Value.slice q j capb).ownBlock = some g → v'.ownBlock ≠ some g := fun g hg h => by
            have h1 := (HBL.out g hg).2
            rcases hat4 with e | e
            · exact HQ2.out g hg (e.symm.trans h)
            · rw [e] at h
              have := Option.some.inj h
              simp at this; omega
          have hbn : Below B1 w w4 := Below.grown (hb2.alloc (by omega) _) hgr4 (by simp; omega) (fun j hj => (hx1.lt _ hj).1)
          exact ⟨⟨m + 1, by omega, by go_num, hob, ⟨_, hown4, kinds_app HK.out hl _ _⟩, hq4, hbn⟩, by simp [intOf]; omega⟩
        · obtain rfl : m = 20 := by omega
          have HW2 : Hid (wr.ownsRow B0 48 3 vw j (tokCells ts)) := ownsRow_under HW.out HWA.out hb2
          clear HB1 HX HQ hb1 hlt hm HAB
          go_wp2_with fail
          have hs12 : Calls Tryd.prog 12 #[.slice q j capb, vw] wr fun e w' => e = .returned (.bool true) ∧ ∃ nd, w' = wr.drewN nd := by
            have h1 := HB2.out
            have h2 := HW2.out
            rw [HN.out] at h1 h2 ⊢
            exact same_eq _ vw ts wr h1 h2 (by have := HN.out; omega)
          refine hs12.mono ?_
          rintro r W ⟨rfl, nd, rfl⟩
          have HB3 : Hid (∃ ys, (wr.drewN nd).ownsRow B2 48 3 (.slice q j capb) j ys) := ⟨_, HB2.out⟩
          have HX3 : Hid (∃ xs, (wr.drewN nd).ownsRow B1 48 3 u8 (j + 20) xs ∧ kinds (-9) (j + 20) xs) := HX2.out
          have hb3 : Below B1 w (wr.drewN nd) := below_drewN hb2 nd
          obtain ⟨W, hW⟩ : ∃ W, W = wr.drewN nd := ⟨_, rfl⟩
          rw [← hW] at HB3 HX3 hb3 ⊢
          clear hW HB2 HX2 hb2 HW2 hs12
          go_wp2_with fail
          go_loopw [11] (fun i wi => ∃ k : Nat, k ≤ j ∧ i = .int .i64 k ∧ Hid (∃ ys, wi.ownsRow B2 48 3 (.slice q j capb) j ys) ∧ Hid (∃ xs, wi.ownsRow B1 48 3 u8 (j + 20) xs ∧ kinds (-9) (j + 20) xs) ∧ Below B1 w wi) (fun i _ => j - (intOf i).toNat)
          case atStart => exact ⟨0, by omega, rfl, HB3.out, HX3.out, hb3⟩
          case round =>
            obtain ⟨k, hk, rfl, HB4, HX4, hb4⟩ := hrel
            clear HB3 HX3 hb3
            by_cases hlt : k < j
            · obtain ⟨ys, hy1⟩ := HB4.out
              obtain ⟨gb, rfl, hgb, hgb2, hcb, -⟩ := ownsRow_some hy1 (by omega)
              have hl : ys.length = j * 3 := hy1.1
              obtain ⟨v0, e0⟩ : ∃ v0, ys[k * 3]? = some v0 := ⟨_, List.getElem?_eq_getElem (by omega)⟩
              obtain ⟨v1, e1⟩ : ∃ v1, ys[k * 3 + 1]? = some v1 := ⟨_, List.getElem?_eq_getElem (by omega)⟩
              obtain ⟨v2, e2⟩ : ∃ v2, ys[k * 3 + 2]? = some v2 := ⟨_, List.getElem?_eq_getElem (by omega)⟩
              have c0 := (hy1.cellAt (k * 3) (by omega)).trans e0
              have c1 := (hy1.cellAt (k * 3 + 1) (by omega)).trans e1
              have c2 := (hy1.cellAt (k * 3 + 2) (by omega)).trans e2
              have f1 := hy1.frozenAt (k * 3)
              have f2 := hy1.frozenAt (k * 3 + 1)
              have f3 := hy1.frozenAt (k * 3 + 2)
              have i1 : (k : Int) < j := by omega
              have HY : Hid (wr.ownsRow B2 48 3 (.slice (some ⟨gb, 0, none⟩) j capb) j ys) := hy1
              clear hy1 HB4 e0 e1 e2
              go_wp2_with fail
              have hs1 := HY.out.stored (k * 3) (.int .i64 (-8))
              have hs2 := hs1.1.stored (k * 3 + 1) (.string ⟨#[]⟩)
              have hs3 := hs2.1.stored (k * 3 + 2) (.int .i64 0)
              obtain ⟨xs, hx1, hx2⟩ := HX4.out
              have hne : ∀ o, u8.ownBlock ≠ some (⟨gb, o, none⟩ : Addr).block := fun o h => HQ2.out gb rfl h
              have hox := ownsRow_setCell_other (ownsRow_setCell_other (ownsRow_setCell_other hx1 (a := ⟨gb, k * 3, none⟩) (hne _) (.int .i64 (-8))) (a := ⟨gb, k * 3 + 1, none⟩) (hne _) (.string ⟨#[]⟩)) (a := ⟨gb, k * 3 + 2, none⟩) (hne _) (.int .i64 0)
              have hgb' : B1 ≤ gb := by omega
              have hbn := ((hb4.setCell (p := ⟨gb, k * 3, none⟩) hgb' (.int .i64 (-8))).setCell (p := ⟨gb, k * 3 + 1, none⟩) hgb' (.string ⟨#[]⟩)).setCell (p := ⟨gb, k * 3 + 2, none⟩) hgb' (.int .i64 0)
              exact ⟨⟨k + 1, by omega, by go_num, ⟨_, hs3.1⟩, ⟨_, hox, hx2⟩, hbn⟩, by simp [intOf]; omega⟩
            · obtain rfl : k = j := by omega
              have HY5 : Hid (∃ ys, wr.ownsRow B2 48 3 (.slice q k capb) (k + 0) ys) := HB4.out
              have HQ5 : Hid (∀ g, (Value.slice q k capb).ownBlock = some g → u8.ownBlock ≠ some g) := HQ2.out
              clear hlt HB4 HQ2
              go_wp2_with fail
              go_loopw [12, 13] (fun y i wi => ∃ m : Nat, m ≤ 20 ∧ i = .int .i64 m ∧ Hid (∃ ys, wi.ownsRow B2 48 3 y (k + m) ys) ∧ Hid (∃ xs, wi.ownsRow B1 48 3 u8 (k + 20) xs ∧ kinds (-9) (k + 20) xs) ∧ Hid (∀ g, y.ownBlock = some g → u8.ownBlock ≠ some g) ∧ Below B1 w wi) (fun _ i _ => 20 - (intOf i).toNat)
              case atStart => exact ⟨0, by omega, rfl, HY5.out, HX4.out, HQ5.out, hb4⟩
              case round =>
                obtain ⟨m, hm, rfl, HY6, HX6, HQ6, hb6⟩ := hrel
                have hz6 := hb6.size
                by_cases hlt : m < 20
                · have i1 : (m : Int) < 20 := by omega
                  obtain ⟨ys, hy1⟩ := HY6.out
                  clear HY5 HX4 HQ5 hb4
                  go_wp2_with (at_builtin; refine wpList_append_own_at _ rfl _ _ 23 rfl B2 48 i0 (.agg #[.int .i64 0, .string ⟨#[]⟩, .int .i64 0]) 3 32 Tryd.underlying23 hi hz0 hz1 hz2 rfl (by decide) _ _ _ rfl (hy1.alloc _) ⟨wr.heap.size, 0, none⟩ 1 1 [.int .i64 (-8), .string ⟨#[]⟩, .int .i64 0] rfl rfl (three_new _ _ _ _ _) (fun x hx => by simp at hx; rcases hx with rfl | rfl | rfl <;> rfl) (by unfold maxLen; omega) (by omega) (by simp; omega) ?_; intro v' w4 hown4 hgr4 _ hat4)
                  obtain ⟨xs, hx1, hx2⟩ := HX6.out
                  have hox := (hx1.alloc (Obj.cells #[.int .i64 (-8), .string ⟨#[]⟩, .int .i64 0] 48)).kept hgr4 (by
                    cases hq : u8.ownBlock with
                    | none => exact .inl rfl
                    | some g => exact .inr fun h => HQ6.out g h.symm hq)
                  have hq4 : ∀ g, v'.ownBlock = some g → u8.ownBlock ≠ some g := fun g hg h => by
                    have h1 := (hx1.lt g h).2
                    rcases hat4 with e | e
                    · exact HQ6.out g (e.symm.trans hg) h
                    · rw [e] at hg
                      have := Option.some.inj hg
                      simp at this; omega
                  have hbn : Below B1 w w4 := Below.grown (hb6.alloc (by omega) _) hgr4 (by simp; omega) (fun j hj => by have := (hy1.lt _ hj).1; omega)
                  exact ⟨⟨m + 1, by omega, by go_num, ⟨_, hown4⟩, ⟨_, hox, hx2⟩, hq4, hbn⟩, by simp [intOf]; omega⟩
                · obtain rfl : m = 20 := by omega
                  obtain ⟨ys, hy1⟩ := HY6.out
                  obtain ⟨xs, hx1, hx2⟩ := HX6.out
                  obtain ⟨py, cy, rfl⟩ := ownsRow_form hy1
                  obtain ⟨px, cx, rfl⟩ := ownsRow_form hx1
                  have HX7 : Hid (wr.ownsRow B1 48 3 (.slice px (k + 20) cx) (k + 20) xs) := hx1
                  have HK7 : Hid (kinds (-9) (k + 20) xs) := hx2
                  clear hlt hm HY6 HX6 hy1 hx1 hx2 HQ6 HQ5 HY5 HX4
                  go_wp2_with fail
                  go_loop [14] (fun i => ∃ l : Nat, l ≤ k + 20 ∧ i = .int .i64 l) (fun i => k + 20 - (intOf i).toNat)
                  case atStart => exact ⟨0, by omega, rfl⟩
                  case round =>
                    obtain ⟨l, hk, rfl⟩ := hrel
                    by_cases hlt : l < k + 20
                    · obtain ⟨gx, rfl, -, hgx, hcx, -⟩ := ownsRow_some HX7.out (by omega)
                      have c0 := (HX7.out.cellAt (l * 3) (by omega)).trans (HK7.out l hlt)
                      have i1 : (l : Int) < (k : Int) + 20 := by omega
                      go_wp2_with fail
                      exact ⟨⟨l + 1, by omega, by go_num⟩, by simp [intOf]; omega⟩
                    · go_wp2
                      go_ret
                      exact ⟨rfl, hb6⟩
end Go.Proofs.YtnpiicceafgioaaDoor
