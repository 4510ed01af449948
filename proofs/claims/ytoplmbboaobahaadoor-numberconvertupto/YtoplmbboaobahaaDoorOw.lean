/-
  The law's own owns: two paths that their owner writes full and grows; neither sees the other.
-/
import Derived.Test.YtoplmbboaobahaaDoorDg
import Derived.OneCell
import Derived.BigQuiet
namespace Go.Proofs.YtoplmbboaobahaaDoor
open Go.RowKit

theorem info3 : (Tryd.prog.info? 3).map (fun i => (i.zero, i.size, i.bytes)) = some (some (.int .i64 0), 1, 8) := by kernel_rfl

theorem row_form {w : World} {base : Nat} {e : TypeId} {size : Nat} {v : Value} {n : Nat} {xs : List Value} (h : w.ownsRow base e size v n xs) : ∃ p cap, v = .slice p n cap := by
  rcases h.2 with ⟨rfl, rfl⟩ | ⟨g, cap, cur, rfl, _⟩
  · exact ⟨_, _, rfl⟩
  · exact ⟨_, _, rfl⟩
theorem row_some {w : World} {base : Nat} {e : TypeId} {size : Nat} {p : Option Addr} {n cap : Nat} {xs : List Value} (h : w.ownsRow base e size (.slice p n cap) n xs) (hn : 0 < n) : ∃ g, p = some ⟨g, 0, none⟩ ∧ base ≤ g ∧ g < w.heap.size ∧ n ≤ cap ∧ cap ≤ maxLen := by
  rcases h.2 with ⟨h0, _⟩ | ⟨g, cap', cur, hv, hb, hg, hc, hm, hs, ht⟩
  · cases h0; omega
  · cases hv
    exact ⟨g, rfl, hb, (Array.getElem?_eq_some_iff.1 hg).1, hc, hm⟩
theorem row_under {w w' : World} {base B : Nat} {e : TypeId} {size : Nat} {v : Value} {n : Nat} {xs : List Value} (h : w.ownsRow base e size v n xs) (hg : ∀ g, v.ownBlock = some g → g < B) (hb : Below B w w') : w'.ownsRow base e size v n xs := by
  obtain ⟨h1, h2⟩ := h
  refine ⟨h1, ?_⟩
  rcases h2 with h2 | ⟨g, cap, cur, hv, hgb, hh, r⟩
  · exact .inl h2
  · exact .inr ⟨g, cap, cur, hv, hgb, by rw [hb.block g (hg g (by rw [hv]; rfl))]; exact hh, r⟩

/-- All of the first n are z. -/
def full (z : Int) (n : Nat) (xs : List Value) : Prop := ∀ i, i < n → xs[i]? = some (.int .i64 z)
theorem full_set {z : Int} {j n : Nat} {xs : List Value} (h : full z j xs) (hj : j < n) (hl : xs.length = n * 1) : full z (j + 1) (xs.set j (.int .i64 z)) := by
  intro i hi
  by_cases e : i = j
  · subst e
    rw [List.getElem?_set_self (by omega)]
  · rw [List.getElem?_set_ne (by omega)]
    exact h i (by omega)
theorem full_app {z : Int} {n : Nat} {xs : List Value} (h : full z n xs) (hl : xs.length = n * 1) : full z (n + 1) (xs ++ [.int .i64 z]) := by
  intro i hi
  by_cases e : i = n
  · subst e
    rw [List.getElem?_append_right (by omega), hl]; simp
  · rw [List.getElem?_append_left (by omega)]
    exact h i (by omega)

set_option maxRecDepth 100000 in
set_option maxHeartbeats 4000000 in
theorem owns_some {B1 B2 : Nat} (va vb : Value) (zs : List Int) (w : World) (ha : w.ownsRow B1 3 1 va zs.length (zs.map (Value.int .i64))) (hb : w.ownsRow B2 3 1 vb zs.length (zs.map (Value.int .i64)))
    (hab : ∀ g, va.ownBlock = some g → g < B2) (h12 : B1 ≤ B2) (hB2 : B2 ≤ w.heap.size) (hn : zs.length ≤ 2097152) (hpos : 0 < zs.length) :
    Calls Tryd.prog 21 #[va, vb] w fun e w' => e = .returned (.bool true) ∧ Below B1 w w' := by
  obtain ⟨i0, hi, hz0, hz1, hz2⟩ := info_parts info3
  obtain ⟨p, capa, rfl⟩ := row_form ha
  obtain ⟨q, capb, rfl⟩ := row_form hb
  obtain ⟨n, hnn⟩ : ∃ n, n = zs.length := ⟨_, rfl⟩
  obtain ⟨cs, hcs⟩ : ∃ cs, cs = zs.map (Value.int .i64) := ⟨_, rfl⟩
  have hcl : cs.length = n * 1 := by rw [hcs, hnn]; simp
  have hone : ∀ u ∈ cs, u.oneCell' = true := by rw [hcs]; intro u hu; simp at hu; obtain ⟨z, _, rfl⟩ := hu; rfl
  have HZ : Hid (cs = zs.map (Value.int .i64)) := hcs
  rw [← hnn, ← hcs] at ha hb
  rw [← hnn] at hab hn hpos ⊢
  clear hnn hcs
  obtain ⟨gb, rfl, hgb, hgb2, hcb, -⟩ := row_some hb hpos
  have hcells : ∀ (j : Nat) (u : Value), cs[j]? = some u → w.cell? ((⟨gb, 0, none⟩ : Addr).add j) = some u := fun j u hj => by
    have hjl : j < cs.length := (List.getElem?_eq_some_iff.1 hj).1
    rw [show (⟨gb, 0, none⟩ : Addr).add j = ⟨gb, j, none⟩ by unfold Addr.add; split <;> simp_all, hb.cellAt j (by omega)]
    exact hj
  have HA0 : Hid (w.ownsRow B1 3 1 (.slice p n capa) n cs) := ha
  have HB0 : Hid (w.ownsRow B2 3 1 (.slice (some ⟨gb, 0, none⟩) n capb) n cs) := hb
  have HAB : Hid (∀ g, (Value.slice p n capa).ownBlock = some g → g < B2) := hab
  clear ha hb hab
  go_enter Tryd.func21, Tryd.ntmps21
  go_wp2_with (at_builtin; refine wpList_append_own_at _ rfl _ _ 23 rfl w.heap.size 3 i0 (.int .i64 0) 1 8 Tryd.underlying23 hi hz0 hz1 hz2 rfl (by decide) _ _ _ rfl (World.ownsRow_nil _ _ _ _) ⟨gb, 0, none⟩ n capb cs rfl hcl hcells hone (by unfold maxLen; omega) (by omega) (Nat.le_refl _) ?_; intro vw w0 hown0 hgr0 _ hat0)
  have hown1 : w0.ownsRow w.heap.size 3 1 vw n cs := by simpa using hown0
  have HW : Hid (w0.ownsRow w.heap.size 3 1 vw n cs) := hown1
  have HB : Hid (w0.ownsRow B2 3 1 (.slice (some ⟨gb, 0, none⟩) n capb) n cs) := HB0.out.kept hgr0 (.inr (fun h => by cases h))
  have HA : Hid (∃ xs, w0.ownsRow B1 3 1 (.slice p n capa) n xs ∧ full (-9) 0 xs) := ⟨_, HA0.out.kept hgr0 (by
    cases hq : (Value.slice p n capa).ownBlock with
    | none => exact .inl rfl
    | some g => exact .inr (fun h => by cases h)), fun i hi => by omega⟩
  have hbw : Below B1 w w0 := Below.grown (Below.refl _ _) hgr0 (by omega) (fun j hj => by cases hj)
  have HBL : Hid (∀ g, (Value.slice (some ⟨gb, 0, none⟩) n capb).ownBlock = some g → B2 ≤ g ∧ g < w0.heap.size) := fun g hg => HB.out.lt g hg
  have HWL : Hid (∀ g, vw.ownBlock = some g → w.heap.size ≤ g ∧ g < w0.heap.size) := fun g hg => hown1.lt g hg
  have hw0 : w.heap.size ≤ w0.heap.size := hgr0.size
  have HBW : Hid (Below B1 w w0) := hbw
  clear hown0 hown1 hgr0 hat0 HA0 HB0 hcells hbw
  go_loopw [6] (fun i wi => ∃ j : Nat, j ≤ n ∧ i = .int .i64 j ∧ Hid (wi.ownsRow B2 3 1 (.slice (some ⟨gb, 0, none⟩) n capb) n cs) ∧ Hid (wi.ownsRow w.heap.size 3 1 vw n cs) ∧ Hid (∃ xs, wi.ownsRow B1 3 1 (.slice p n capa) n xs ∧ full (-9) j xs) ∧ Below B1 w0 wi) (fun i _ => n - (intOf i).toNat)
  case atStart => exact ⟨0, by omega, rfl, HB.out, HW.out, HA.out, Below.refl _ _⟩
  case round =>
    obtain ⟨j, hj, rfl, HB1, HW1, HA1, hb1⟩ := hrel
    by_cases hlt : j < n
    · obtain ⟨xs, hx1, hx2⟩ := HA1.out
      obtain ⟨ga, rfl, hga, hga2, hca, -⟩ := row_some hx1 (by omega)
      have hgB : ga < B2 := HAB.out ga rfl
      have hl : xs.length = n * 1 := hx1.1
      obtain ⟨v0, e0⟩ : ∃ v0, xs[j]? = some v0 := ⟨_, List.getElem?_eq_getElem (by omega)⟩
      have c0 := (hx1.cellAt j (by omega)).trans e0
      have f1 := hx1.frozenAt j
      have i1 : (j : Int) < n := by omega
      have HX1 : Hid (wr.ownsRow B1 3 1 (.slice (some ⟨ga, 0, none⟩) n capa) n xs) := hx1
      have HX2 : Hid (full (-9) j xs) := hx2
      clear hx1 hx2 HA1 e0
      go_wp2_with fail
      have hs1 := HX1.out.stored j (.int .i64 (-9))
      have hne : (Value.slice (some ⟨gb, 0, none⟩) n capb).ownBlock ≠ some (⟨ga, j, none⟩ : Addr).block := fun h => by have := (HBL.out ga h).1; omega
      have hnw : vw.ownBlock ≠ some (⟨ga, j, none⟩ : Addr).block := fun h => by have := (HWL.out ga h).1; omega
      have hob := ownsRow_setCell_other HB1.out (a := ⟨ga, j, none⟩) hne (.int .i64 (-9))
      have how := ownsRow_setCell_other HW1.out (a := ⟨ga, j, none⟩) hnw (.int .i64 (-9))
      have hbn := hb1.setCell (p := ⟨ga, j, none⟩) hga (.int .i64 (-9))
      exact ⟨⟨j + 1, by omega, by go_num, hob, how, ⟨_, hs1.1, full_set HX2.out hlt hl⟩, hbn⟩, by simp [intOf]; omega⟩
    · obtain rfl : j = n := by omega
      have HX : Hid (∃ xs, wr.ownsRow B1 3 1 (.slice p j capa) (j + 0) xs ∧ full (-9) (j + 0) xs) := HA1.out
      have HQ : Hid (∀ g, (Value.slice (some ⟨gb, 0, none⟩) j capb).ownBlock = some g → (Value.slice p j capa).ownBlock ≠ some g) := fun g hg h => by have := (HBL.out g hg).1; have := HAB.out g h; omega
      have HQw : Hid (∀ g, vw.ownBlock = some g → (Value.slice p j capa).ownBlock ≠ some g) := fun g hg h => by have := (HWL.out g hg).1; have := HAB.out g h; omega
      have hz1' := hb1.size
      clear HA1 HA HB HW hlt
      go_wp2_with fail
      go_loopw [7, 8] (fun x i wi => ∃ m : Nat, m ≤ 20 ∧ i = .int .i64 m ∧ Hid (wi.ownsRow B2 3 1 (.slice (some ⟨gb, 0, none⟩) j capb) j cs) ∧ Hid (wi.ownsRow w.heap.size 3 1 vw j cs) ∧ Hid (∃ xs, wi.ownsRow B1 3 1 x (j + m) xs ∧ full (-9) (j + m) xs) ∧ Hid (∀ g, (Value.slice (some ⟨gb, 0, none⟩) j capb).ownBlock = some g → x.ownBlock ≠ some g) ∧ Hid (∀ g, vw.ownBlock = some g → x.ownBlock ≠ some g) ∧ Below B1 w0 wi) (fun _ i _ => 20 - (intOf i).toNat)
      case atStart => exact ⟨0, by omega, rfl, HB1.out, HW1.out, HX.out, HQ.out, HQw.out, hb1⟩
      case round =>
        obtain ⟨m, hm, rfl, HB2, HW2, HX2, HQ2, HQw2, hb2⟩ := hrel
        have hz2' := hb2.size
        by_cases hlt : m < 20
        · have i1 : (m : Int) < 20 := by omega
          obtain ⟨xs, hx1, hx2⟩ := HX2.out
          have HK : Hid (full (-9) (j + m) xs) := hx2
          clear hx2 HX2
          go_wp2_with (at_builtin; refine wpList_append_own_at _ rfl _ _ 23 rfl B1 3 i0 (.int .i64 0) 1 8 Tryd.underlying23 hi hz0 hz1 hz2 rfl (by decide) _ _ _ rfl (hx1.alloc _) ⟨wr.heap.size, 0, none⟩ 1 1 [.int .i64 (-9)] rfl rfl (cell_one_new _ _ _) (fun x hx => by simp at hx; subst hx; rfl) (by unfold maxLen; omega) (by omega) (by simp; omega) ?_; intro v' w4 hown4 hgr4 _ hat4)
          have hl : xs.length = (j + m) * 1 := hx1.1
          have hob := (HB2.out.alloc (Obj.cells #[.int .i64 (-9)] 3)).kept hgr4 (by
            cases hq : (Value.slice (some ⟨gb, 0, none⟩) j capb).ownBlock with
            | none => exact .inl rfl
            | some g => exact .inr fun h => HQ2.out g hq h.symm)
          have how := (HW2.out.alloc (Obj.cells #[.int .i64 (-9)] 3)).kept hgr4 (by
            cases hq : vw.ownBlock with
            | none => exact .inl rfl
            | some g => exact .inr fun h => HQw2.out g hq h.symm)
          have hq4 : ∀ g, (Value.slice (some ⟨gb, 0, none⟩) j capb).ownBlock = some g → v'.ownBlock ≠ some g := fun g hg h => by
            have h1 := (HBL.out g hg).2
            rcases hat4 with e | e
            · exact HQ2.out g hg (e.symm.trans h)
            · rw [e] at h
              have := Option.some.inj h
              simp at this; omega
          have hqw4 : ∀ g, vw.ownBlock = some g → v'.ownBlock ≠ some g := fun g hg h => by
            have h1 := (HWL.out g hg).2
            rcases hat4 with e | e
            · exact HQw2.out g hg (e.symm.trans h)
            · rw [e] at h
              have := Option.some.inj h
              simp at this; omega
          have hbn : Below B1 w0 w4 := Below.grown (hb2.alloc (by omega) _) hgr4 (by simp; omega) (fun j hj => (hx1.lt _ hj).1)
          exact ⟨⟨m + 1, by omega, by go_num, hob, how, ⟨_, hown4, full_app HK.out hl⟩, hq4, hqw4, hbn⟩, by simp [intOf]; omega⟩
        · have hm20 : m = 20 := by omega
          have i20 : ¬ (m : Int) < 20 := by omega
          rw [hm20] at HX2
          clear HB1 HW1 HX HQ HQw hb1 hlt hm HAB hm20
          go_wp2_with fail
          obtain ⟨pw, cw, rfl⟩ := row_form HW2.out
          obtain ⟨gw, rfl, hgw1, hgw2, hcw, -⟩ := row_some HW2.out hpos
          obtain ⟨W3, hW3⟩ : ∃ W3, W3 = wr := ⟨_, rfl⟩
          rw [← hW3] at HB2 HW2 HX2 hb2 hz2' ⊢
          clear hW3
          go_loopw [9] (fun i wi => ∃ k : Nat, k ≤ j ∧ i = .int .i64 k ∧ ∃ nd, wi = W3.drewN nd) (fun i _ => j - (intOf i).toNat)
          case atStart => exact ⟨0, by omega, rfl, 0, rfl⟩
          case round =>
            obtain ⟨k, hk, rfl, nd, rfl⟩ := hrel
            by_cases hlt : k < j
            · obtain ⟨z, hz⟩ : ∃ z, cs[k]? = some (.int .i64 z) := by
                have hkl : k < zs.length := by have := hcl; rw [HZ.out] at this; simp at this; omega
                exact ⟨zs[k], by rw [HZ.out, List.getElem?_map, List.getElem?_eq_getElem hkl]; rfl⟩
              have c1 := (HB2.out.cellAt k (by omega)).trans hz
              have c2 := (HW2.out.cellAt k (by omega)).trans hz
              have i1 : (k : Int) < j := by omega
              clear hz
              go_wp2_with fail
              go_quiet (fail)
              go_wp2
              refine ⟨⟨k + 1, by omega, by go_num, ⟨_, by first | rfl | simp⟩⟩, by simp [intOf]; omega⟩
            · obtain rfl : k = j := by omega
              have HB3 : Hid (∃ ys, (W3.drewN nd).ownsRow B2 3 1 (.slice (some ⟨gb, 0, none⟩) k capb) k ys) := ⟨_, HB2.out⟩
              have HX3 : Hid (∃ xs, (W3.drewN nd).ownsRow B1 3 1 u7 (k + 20) xs ∧ full (-9) (k + 20) xs) := HX2.out
              have hb3 : Below B1 w0 (W3.drewN nd) := hb2.trans ⟨rfl, rfl, rfl, Nat.le_refl _, fun _ _ => rfl⟩
              obtain ⟨W, hW⟩ : ∃ W, W = W3.drewN nd := ⟨_, rfl⟩
              rw [← hW] at HB3 HX3 hb3 ⊢
              clear hW HB2 HX2 hb2 HW2 HQw2 hlt
              go_wp2_with fail
              go_loopw [10] (fun i wi => ∃ l : Nat, l ≤ k ∧ i = .int .i64 l ∧ Hid (∃ ys, wi.ownsRow B2 3 1 (.slice (some ⟨gb, 0, none⟩) k capb) k ys) ∧ Hid (∃ xs, wi.ownsRow B1 3 1 u7 (k + 20) xs ∧ full (-9) (k + 20) xs) ∧ Below B1 w0 wi) (fun i _ => k - (intOf i).toNat)
              case atStart => exact ⟨0, by omega, rfl, HB3.out, HX3.out, hb3⟩
              case round =>
                obtain ⟨l, hll, rfl, HB4, HX4, hb4⟩ := hrel
                clear HB3 HX3 hb3
                by_cases hlt : l < k
                · obtain ⟨ys, hy1⟩ := HB4.out
                  have hyl : ys.length = k * 1 := hy1.1
                  obtain ⟨v0, e0⟩ : ∃ v0, ys[l]? = some v0 := ⟨_, List.getElem?_eq_getElem (by omega)⟩
                  have c0 := (hy1.cellAt l (by omega)).trans e0
                  have f1 := hy1.frozenAt l
                  have i1 : (l : Int) < k := by omega
                  have HY : Hid (wr.ownsRow B2 3 1 (.slice (some ⟨gb, 0, none⟩) k capb) k ys) := hy1
                  clear hy1 HB4 e0
                  go_wp2_with fail
                  have hs1 := HY.out.stored l (.int .i64 (-8))
                  obtain ⟨xs, hx1, hx2⟩ := HX4.out
                  have hne : u7.ownBlock ≠ some (⟨gb, l, none⟩ : Addr).block := fun h => HQ2.out gb rfl h
                  have hox := ownsRow_setCell_other hx1 (a := ⟨gb, l, none⟩) hne (.int .i64 (-8))
                  have hgb' : B1 ≤ gb := by omega
                  have hbn := hb4.setCell (p := ⟨gb, l, none⟩) hgb' (.int .i64 (-8))
                  exact ⟨⟨l + 1, by omega, by go_num, ⟨_, hs1.1⟩, ⟨_, hox, hx2⟩, hbn⟩, by simp [intOf]; omega⟩
                · obtain rfl : l = k := by omega
                  have HY5 : Hid (∃ ys, wr.ownsRow B2 3 1 (.slice (some ⟨gb, 0, none⟩) l capb) (l + 0) ys) := HB4.out
                  have HQ5 : Hid (∀ g, (Value.slice (some ⟨gb, 0, none⟩) l capb).ownBlock = some g → u7.ownBlock ≠ some g) := HQ2.out
                  clear hlt HB4 HQ2
                  go_wp2_with fail
                  go_loopw [11, 12] (fun y i wi => ∃ m : Nat, m ≤ 20 ∧ i = .int .i64 m ∧ Hid (∃ ys, wi.ownsRow B2 3 1 y (l + m) ys) ∧ Hid (∃ xs, wi.ownsRow B1 3 1 u7 (l + 20) xs ∧ full (-9) (l + 20) xs) ∧ Hid (∀ g, y.ownBlock = some g → u7.ownBlock ≠ some g) ∧ Below B1 w0 wi) (fun _ i _ => 20 - (intOf i).toNat)
                  case atStart => exact ⟨0, by omega, rfl, HY5.out, HX4.out, HQ5.out, hb4⟩
                  case round =>
                    obtain ⟨m, hm, rfl, HY6, HX6, HQ6, hb6⟩ := hrel
                    have hz6 := hb6.size
                    by_cases hlt : m < 20
                    · have i1 : (m : Int) < 20 := by omega
                      obtain ⟨ys, hy1⟩ := HY6.out
                      clear HY5 HX4 HQ5 hb4
                      go_wp2_with (at_builtin; refine wpList_append_own_at _ rfl _ _ 23 rfl B2 3 i0 (.int .i64 0) 1 8 Tryd.underlying23 hi hz0 hz1 hz2 rfl (by decide) _ _ _ rfl (hy1.alloc _) ⟨wr.heap.size, 0, none⟩ 1 1 [.int .i64 (-8)] rfl rfl (cell_one_new _ _ _) (fun x hx => by simp at hx; subst hx; rfl) (by unfold maxLen; omega) (by omega) (by simp; omega) ?_; intro v' w4 hown4 hgr4 _ hat4)
                      obtain ⟨xs, hx1, hx2⟩ := HX6.out
                      have hox := (hx1.alloc (Obj.cells #[.int .i64 (-8)] 3)).kept hgr4 (by
                        cases hq : u7.ownBlock with
                        | none => exact .inl rfl
                        | some g => exact .inr fun h => HQ6.out g h.symm hq)
                      have hq4 : ∀ g, v'.ownBlock = some g → u7.ownBlock ≠ some g := fun g hg h => by
                        have h1 := (hx1.lt g h).2
                        rcases hat4 with e | e
                        · exact HQ6.out g (e.symm.trans hg) h
                        · rw [e] at hg
                          have := Option.some.inj hg
                          simp at this; omega
                      have hbn : Below B1 w0 w4 := Below.grown (hb6.alloc (by omega) _) hgr4 (by simp; omega) (fun j hj => by have := (hy1.lt _ hj).1; omega)
                      exact ⟨⟨m + 1, by omega, by go_num, ⟨_, hown4⟩, ⟨_, hox, hx2⟩, hq4, hbn⟩, by simp [intOf]; omega⟩
                    · have i21 : ¬ (m : Int) < 20 := by omega
                      obtain ⟨ys, hy1⟩ := HY6.out
                      obtain ⟨xs, hx1, hx2⟩ := HX6.out
                      obtain ⟨py, cy, rfl⟩ := row_form hy1
                      obtain ⟨px, cx, rfl⟩ := row_form hx1
                      have HX7 : Hid (wr.ownsRow B1 3 1 (.slice px (l + 20) cx) (l + 20) xs) := hx1
                      have HK7 : Hid (full (-9) (l + 20) xs) := hx2
                      clear hlt hm HY6 HX6 hy1 hx1 hx2 HQ6 HQ5 HY5 HX4
                      go_wp2_with fail
                      go_loop [13] (fun i => ∃ o : Nat, o ≤ l + 20 ∧ i = .int .i64 o) (fun i => l + 20 - (intOf i).toNat)
                      case atStart => exact ⟨0, by omega, rfl⟩
                      case round =>
                        obtain ⟨o, hk2, rfl⟩ := hrel
                        by_cases hlt : o < l + 20
                        · obtain ⟨gx, rfl, -, hgx, hcx, -⟩ := row_some HX7.out (by omega)
                          have c0 := (HX7.out.cellAt o (by omega)).trans (HK7.out o hlt)
                          have i1 : (o : Int) < (l : Int) + 20 := by omega
                          go_wp2_with fail
                          exact ⟨⟨o + 1, by omega, by go_num⟩, by simp [intOf]; omega⟩
                        · go_wp2
                          go_ret
                          exact ⟨rfl, HBW.out.trans hb6⟩

set_option maxRecDepth 100000 in
set_option maxHeartbeats 4000000 in
/-- Of two that are none. -/
theorem owns_nil (w : World) :
    Calls Tryd.prog 21 #[.slice none 0 0, .slice none 0 0] w fun e w' => e = .returned (.bool true) ∧ Below w.heap.size w w' := by
  obtain ⟨i0, hi, hz0, hz1, hz2⟩ := info_parts info3
  go_enter Tryd.func21, Tryd.ntmps21
  go_wp2
  go_loop [6] (fun i => i = .int .i64 0) (fun _ => 0)
  case atStart => rfl
  case round =>
    obtain rfl := hrel
    go_wp2_with fail
    go_loopw [7, 8] (fun x i wi => ∃ m : Nat, m ≤ 20 ∧ i = .int .i64 m ∧ Hid (∃ xs, wi.ownsRow w.heap.size 3 1 x m xs ∧ full (-9) m xs) ∧ Below w.heap.size w wi) (fun _ i _ => 20 - (intOf i).toNat)
    case atStart => exact ⟨0, by omega, rfl, ⟨_, World.ownsRow_nil _ _ _ _, fun i hi => by omega⟩, Below.refl _ _⟩
    case round =>
      obtain ⟨m, hm, rfl, HX2, hb2⟩ := hrel
      have hz2' := hb2.size
      by_cases hlt : m < 20
      · have i1 : (m : Int) < 20 := by omega
        obtain ⟨xs, hx1, hx2⟩ := HX2.out
        have HK : Hid (full (-9) m xs) := hx2
        clear hx2 HX2
        go_wp2_with (at_builtin; refine wpList_append_own_at _ rfl _ _ 23 rfl w.heap.size 3 i0 (.int .i64 0) 1 8 Tryd.underlying23 hi hz0 hz1 hz2 rfl (by decide) _ _ _ rfl (hx1.alloc _) ⟨wr.heap.size, 0, none⟩ 1 1 [.int .i64 (-9)] rfl rfl (cell_one_new _ _ _) (fun x hx => by simp at hx; subst hx; rfl) (by unfold maxLen; omega) (by omega) (by simp; omega) ?_; intro v' w4 hown4 hgr4 _ hat4)
        have hl : xs.length = m * 1 := hx1.1
        have hbn : Below w.heap.size w w4 := Below.grown (hb2.alloc (by omega) _) hgr4 (by simp; omega) (fun j hj => (hx1.lt _ hj).1)
        exact ⟨⟨m + 1, by omega, by go_num, ⟨_, hown4, full_app HK.out hl⟩, hbn⟩, by simp [intOf]; omega⟩
      · have hm20 : m = 20 := by omega
        have i20 : ¬ (m : Int) < 20 := by omega
        rw [hm20] at HX2
        clear hlt hm hm20
        go_wp2_with fail
        go_loop [9] (fun i => i = .int .i64 0) (fun _ => 0)
        case atStart => rfl
        case round =>
          obtain rfl := hrel
          go_wp2_with fail
          go_loop [10] (fun i => i = .int .i64 0) (fun _ => 0)
          case atStart => rfl
          case round =>
            obtain rfl := hrel
            obtain ⟨W, hW⟩ : ∃ W, W = wr := ⟨_, rfl⟩
            go_wp2_with fail
            go_loopw [11, 12] (fun y i wi => ∃ o : Nat, o ≤ 20 ∧ i = .int .i64 o ∧ Hid (∃ ys, wi.ownsRow w.heap.size 3 1 y o ys) ∧ Hid (∃ xs, wi.ownsRow w.heap.size 3 1 u7 20 xs ∧ full (-9) 20 xs) ∧ Hid (∀ g, y.ownBlock = some g → u7.ownBlock ≠ some g) ∧ Below w.heap.size w wi) (fun _ i _ => 20 - (intOf i).toNat)
            case atStart => exact ⟨0, by omega, rfl, ⟨_, World.ownsRow_nil _ _ _ _⟩, HX2.out, (fun g hg => by cases hg), hb2⟩
            case round =>
              clear hW
              obtain ⟨o, ho, rfl, HY6, HX6, HQ6, hb6⟩ := hrel
              have hz6 := hb6.size
              by_cases hlt : o < 20
              · have i1 : (o : Int) < 20 := by omega
                obtain ⟨ys, hy1⟩ := HY6.out
                clear HX2 hb2
                go_wp2_with (at_builtin; refine wpList_append_own_at _ rfl _ _ 23 rfl w.heap.size 3 i0 (.int .i64 0) 1 8 Tryd.underlying23 hi hz0 hz1 hz2 rfl (by decide) _ _ _ rfl (hy1.alloc _) ⟨wr.heap.size, 0, none⟩ 1 1 [.int .i64 (-8)] rfl rfl (cell_one_new _ _ _) (fun x hx => by simp at hx; subst hx; rfl) (by unfold maxLen; omega) (by omega) (by simp; omega) ?_; intro v' w4 hown4 hgr4 _ hat4)
                obtain ⟨xs, hx1, hx2⟩ := HX6.out
                have hox := (hx1.alloc (Obj.cells #[.int .i64 (-8)] 3)).kept hgr4 (by
                  cases hq : u7.ownBlock with
                  | none => exact .inl rfl
                  | some g => exact .inr fun h => HQ6.out g h.symm hq)
                have hq4 : ∀ g, v'.ownBlock = some g → u7.ownBlock ≠ some g := fun g hg h => by
                  have h1 := (hx1.lt g h).2
                  rcases hat4 with e | e
                  · exact HQ6.out g (e.symm.trans hg) h
                  · rw [e] at hg
                    have := Option.some.inj hg
                    simp at this; omega
                have hbn : Below w.heap.size w w4 := Below.grown (hb6.alloc (by omega) _) hgr4 (by simp; omega) (fun j hj => (hy1.lt _ hj).1)
                exact ⟨⟨o + 1, by omega, by go_num, ⟨_, hown4⟩, ⟨_, hox, hx2⟩, hq4, hbn⟩, by simp [intOf]; omega⟩
              · have i21 : ¬ (o : Int) < 20 := by omega
                obtain ⟨ys, hy1⟩ := HY6.out
                obtain ⟨xs, hx1, hx2⟩ := HX6.out
                obtain ⟨py, cy, rfl⟩ := row_form hy1
                obtain ⟨px, cx, rfl⟩ := row_form hx1
                have HX7 : Hid (wr.ownsRow w.heap.size 3 1 (.slice px 20 cx) 20 xs) := hx1
                have HK7 : Hid (full (-9) 20 xs) := hx2
                clear hlt ho HY6 HX6 hy1 hx1 hx2 HQ6 HX2
                go_wp2_with fail
                go_loop [13] (fun i => ∃ e : Nat, e ≤ 20 ∧ i = .int .i64 e) (fun i => 20 - (intOf i).toNat)
                case atStart => exact ⟨0, by omega, rfl⟩
                case round =>
                  obtain ⟨e, hk2, rfl⟩ := hrel
                  by_cases hlt : e < 20
                  · obtain ⟨gx, rfl, -, hgx, hcx, -⟩ := row_some HX7.out (by omega)
                    have c0 := (HX7.out.cellAt e (by omega)).trans (HK7.out e hlt)
                    have i1 : (e : Int) < 20 := by omega
                    go_wp2_with fail
                    exact ⟨⟨e + 1, by omega, by go_num⟩, by simp [intOf]; omega⟩
                  · go_wp2
                    go_ret
                    exact ⟨rfl, hb6⟩
end Go.Proofs.YtoplmbboaobahaaDoor
