/-
  The walk of the law LexWords: it answers true at every text, in every memory that holds the two tables.
-/
import Derived.Test.YtnpiicceafgioaaDoorP
namespace Go.Proofs.YtnpiicceafgioaaDoor
open Go.RowKit

def mine : Value := .string ⟨#[109, 105, 110, 101]⟩

/-- A row below a number stays while only blocks from that number on are written. -/
theorem ownsRow_keep {w w' : World} {base B : Nat} {e : TypeId} {size g : Nat} {n cap : Nat} {xs : List Value} (h : w.ownsRow base e size (.slice (some ⟨g, 0, none⟩) n cap) n xs) (hb : Below B w w') (hg : g < B) : w'.ownsRow base e size (.slice (some ⟨g, 0, none⟩) n cap) n xs := by
  obtain ⟨h1, h2⟩ := h
  refine ⟨h1, ?_⟩
  rcases h2 with ⟨h2, _⟩ | ⟨g', cap', cur, hv, hg', hh, r⟩
  · cases h2
  · cases hv
    exact .inr ⟨g, cap, cur, rfl, hg', by rw [hb.block g hg]; exact hh, r⟩

theorem ownsRow_other {w : World} {base : Nat} {e : TypeId} {size g : Nat} {n cap : Nat} {xs : List Value} (h : w.ownsRow base e size (.slice (some ⟨g, 0, none⟩) n cap) n xs) {a : Addr} (ha : a.block ≠ g) (u : Value) : (w.setCell a u).ownsRow base e size (.slice (some ⟨g, 0, none⟩) n cap) n xs := by
  obtain ⟨h1, h2⟩ := h
  refine ⟨h1, ?_⟩
  rcases h2 with ⟨h2, _⟩ | ⟨g', cap', cur, hv, hg', hh, r⟩
  · cases h2
  · cases hv
    exact .inr ⟨g, cap, cur, rfl, hg', by rw [Below.heap_setCell _ _ _ _ (Ne.symm ha)]; exact hh, r⟩
theorem ownsRow_drewN {w : World} {base : Nat} {e : TypeId} {size : Nat} {v : Value} {n : Nat} {xs : List Value} (h : w.ownsRow base e size v n xs) (k : Nat) : (w.drewN k).ownsRow base e size v n xs := h
theorem ownsRow_grown {w w' : World} {base : Nat} {e : TypeId} {size g : Nat} {n cap : Nat} {xs : List Value} {row : Option Nat} (h : w.ownsRow base e size (.slice (some ⟨g, 0, none⟩) n cap) n xs) (hg : w.grownBy w' row) (hne : some g ≠ row) : w'.ownsRow base e size (.slice (some ⟨g, 0, none⟩) n cap) n xs :=
  h.kept hg (.inr hne)

def mineRow (j : Nat) : List Value := List.replicate j mine ++ wordVals.drop j
theorem mineRow_get (j : Nat) (h : j < 22) : (mineRow j)[j]? = some (.string (wordS j)) := by
  rw [mineRow, List.getElem?_append_right (by simp), List.length_replicate, Nat.sub_self, List.getElem?_drop, Nat.add_zero]
  exact wordVals_get j h
theorem mineRow_set (j : Nat) (h : j < 22) : (mineRow j).set j mine = mineRow (j + 1) := by
  rw [mineRow, List.set_append_right _ _ (by simp), List.length_replicate, Nat.sub_self, mineRow, List.replicate_succ', List.append_assoc]
  congr 1
  rw [List.drop_eq_getElem_cons (show j < wordVals.length by rw [wordVals_length]; exact h)]
  rfl

set_option maxRecDepth 100000 in
set_option maxHeartbeats 4000000 in
theorem lexWords_any {gw ow gs os : Nat} (s : ByteArray) (w : World) (ht : TabsAt gw ow gs os w) :
    Calls Tryd.prog 5 #[.string s] w fun e w' => e = .returned (.bool true) ∧ Below w.heap.size w w' := by
  obtain ⟨i0, hi, hz0, hz1, hz2⟩ := info_parts info9
  go_enter Tryd.func5, Tryd.ntmps5
  go_wp2_with fail
  refine (known_any _ ht).mono ?_
  rintro r w1 ⟨rfl, hb1⟩
  have ht1 := ht.below (Nat.le_refl _) hb1
  have hz1' := hb1.size
  go_wp2_with fail
  refine (refWords_any _).mono ?_
  rintro r w2 ⟨rfl, hown2, hb2⟩
  have hz2' := hb2.size
  have ht2 := ht1.below (Nat.le_refl _) hb2
  have hw1 : w1.heap.size < w2.heap.size := by
    rcases hown2.2 with ⟨h, _⟩ | ⟨g, cap, cur, hv, _, hh, _⟩
    · cases h
    · cases hv; exact (Array.getElem?_eq_some_iff.1 hh).1
  have HX2 : Hid (Below w.heap.size w w2) := hb1.trans (hb2.mono hz1')
  have HO2 : Hid (w2.ownsRow w1.heap.size 9 1 (.slice (some ⟨w1.heap.size, 0, none⟩) 22 22) 22 wordVals) := hown2
  have HT2 : Hid (TabsAt gw ow gs os w2) := ht2
  clear hb1 hb2 ht1 ht hown2 ht2
  go_wp2_with fail
  go_loopw [5] (fun t wr => ∃ k : Nat, k ≤ 2 ∧ t = .int .i64 k ∧ Below w2.heap.size w2 wr) (fun t _ => 2 - (intOf t).toNat)
  case atStart => exact ⟨0, by omega, rfl, Below.refl _ _⟩
  case round =>
    obtain ⟨k, hk, rfl, hbr⟩ := hrel
    obtain ⟨wo, hwo⟩ : ∃ wo, wo = wr := ⟨_, rfl⟩
    subst hwo
    by_cases hlt : k < 2
    · have htr := HT2.out.below (Nat.le_refl _) hbr
      have hzr := hbr.size
      have HOr : Hid (wo.ownsRow w1.heap.size 9 1 (.slice (some ⟨w1.heap.size, 0, none⟩) 22 22) 22 wordVals) := ownsRow_below HO2.out hbr
      go_wp2_with fail
      refine (words_any _ htr).mono ?_
      rintro r w3 ⟨ga, ca, rfl, hga, hownA, hb3⟩
      have ht3 := htr.below (Nat.le_refl _) hb3
      have hz3 := hb3.size
      have HB3 : Hid (Below w2.heap.size w2 w3) := hbr.trans (hb3.mono hzr)
      have HOW : Hid (w3.ownsRow w1.heap.size 9 1 (.slice (some ⟨w1.heap.size, 0, none⟩) 22 22) 22 wordVals) := ownsRow_below HOr.out hb3
      have hga3 : ga < w3.heap.size := (hownA.lt ga rfl).2
      have HA3 : Hid (w3.ownsRow wo.heap.size 9 1 (.slice (some ⟨ga, 0, none⟩) 22 ca) 22 wordVals) := hownA
      clear hb3 htr hownA HOr
      go_wp2_with fail
      refine (words_any _ ht3).mono ?_
      rintro r w4 ⟨gb, cb, rfl, hgb, hownB, hb4⟩
      have hz4 := hb4.size
      have HB4 : Hid (Below w2.heap.size w2 w4) := HB3.out.trans (hb4.mono (by omega))
      have HW4 : Hid (w4.ownsRow w1.heap.size 9 1 (.slice (some ⟨w1.heap.size, 0, none⟩) 22 22) 22 wordVals) := ownsRow_below HOW.out hb4
      have HA4 : Hid (w4.ownsRow wo.heap.size 9 1 (.slice (some ⟨ga, 0, none⟩) 22 ca) 22 wordVals) := ownsRow_below HA3.out hb4
      have HBB4 : Hid (w4.ownsRow w3.heap.size 9 1 (.slice (some ⟨gb, 0, none⟩) 22 cb) 22 wordVals) := hownB
      have hgb4 : gb < w4.heap.size := (hownB.lt gb rfl).2
      clear hb4 ht3 HOW HA3 hownB HB3
      go_wp2_with fail
      have hne1 : w1.heap.size ≠ ga := by omega
      have hne2 : gb ≠ ga := by omega
      go_loopw [8] (fun i wi => ∃ j : Nat, j ≤ 22 ∧ i = .int .i64 j ∧ Hid (wi.ownsRow w1.heap.size 9 1 (.slice (some ⟨w1.heap.size, 0, none⟩) 22 22) 22 wordVals) ∧ Hid (wi.ownsRow w3.heap.size 9 1 (.slice (some ⟨gb, 0, none⟩) 22 cb) 22 wordVals) ∧ Hid (wi.ownsRow wo.heap.size 9 1 (.slice (some ⟨ga, 0, none⟩) 22 ca) 22 (mineRow j)) ∧ Below w2.heap.size w2 wi ∧ w4.heap.size ≤ wi.heap.size) (fun i _ => 22 - (intOf i).toNat)
      case atStart => exact ⟨0, by omega, rfl, HW4.out, HBB4.out, HA4.out, HB4.out, Nat.le_refl _⟩
      case round =>
        obtain ⟨j, hj, rfl, HW5, HBB5, HA5, hb5, hz5⟩ := hrel
        by_cases hjl : j < 22
        · have a1 := (HA5.out.cellAt j (by omega)).trans (mineRow_get j hjl)
          have a2 := (HW5.out.cellAt j (by omega)).trans (wordVals_get j hjl)
          have f1 := HA5.out.frozenAt j
          have i1 : (j : Int) < 22 := by omega
          go_wp2_with fail
          go_quiet (fail)
          go_wp2
          have hbn : Below w2.heap.size w2 (((wr.drewN nq).setCell ⟨ga, j, none⟩ mine)) := (below_drewN hb5 nq).setCell (show w2.heap.size ≤ ga by omega) _
          have hoA : ((wr.drewN nq).setCell ⟨ga, j, none⟩ mine).ownsRow wo.heap.size 9 1 (.slice (some ⟨ga, 0, none⟩) 22 ca) 22 (mineRow (j + 1)) := by
            have := ((ownsRow_drewN HA5.out nq).stored j mine).1
            rw [mineRow_set j hjl] at this
            exact this
          have hoW := ownsRow_other (ownsRow_drewN HW5.out nq) (a := ⟨ga, j, none⟩) (Ne.symm hne1) mine
          have hoB := ownsRow_other (ownsRow_drewN HBB5.out nq) (a := ⟨ga, j, none⟩) (Ne.symm hne2) mine
          have hzn : w4.heap.size ≤ ((wr.drewN nq).setCell ⟨ga, j, none⟩ mine).heap.size := by simpa [World.setCell] using hz5
          go_roundw
          case rel => exact ⟨j + 1, by omega, by go_num, hoW, hoB, hoA, hbn, hzn⟩
          case measure => simp [intOf]; omega
        · obtain rfl : j = 22 := by omega
          have ha5 := HA5.out
          go_wp2_with (at_builtin; refine wpList_append_own _ rfl _ _ 43 rfl wo.heap.size 9 i0 (.string ⟨#[]⟩) 1 16 Tryd.underlying43 hi hz0 hz1 hz2 rfl (by decide) _ _ _ rfl (ha5.alloc _) ⟨wr.heap.size, 0, none⟩ 2 2 [mine, mine] rfl rfl (cell_two_new _ _ _ _) (fun x hx => by simp [mine] at hx; subst hx; rfl) (by unfold maxLen; omega) (by omega) (by simp; omega) ?_; intro v6 w6 hown6 hgr6 _)
          have hrow : ∀ x, x ≠ ga → w6.heap[x]? = (wr.alloc (.cells #[mine, mine] 9)).heap[x]? ∨ ¬ x < (wr.alloc (.cells #[mine, mine] 9)).heap.size := fun x hx => by
            by_cases h : x < (wr.alloc (.cells #[mine, mine] 9)).heap.size
            · exact .inl (hgr6.block x h (fun e => hx (Option.some.inj e)))
            · exact .inr h
          have HW6 : Hid (w6.ownsRow w1.heap.size 9 1 (.slice (some ⟨w1.heap.size, 0, none⟩) 22 22) 22 wordVals) := ownsRow_grown (HW5.out.alloc _) hgr6 (fun e => hne1 (Option.some.inj e))
          have HBB6 : Hid (w6.ownsRow w3.heap.size 9 1 (.slice (some ⟨gb, 0, none⟩) 22 cb) 22 wordVals) := ownsRow_grown (HBB5.out.alloc _) hgr6 (fun e => hne2 (Option.some.inj e))
          have HB6 : Hid (Below w2.heap.size w2 w6) := Below.grown (hb5.alloc (by omega) _) hgr6 (by simp; omega) (fun x hx => by have := (ha5.lt _ hx).1; omega)
          clear hrow hgr6 hown6 ha5
          go_loopw [9] (fun i wi => ∃ j : Nat, j ≤ 22 ∧ i = .int .i64 j ∧ ∃ nd, wi = w6.drewN nd) (fun i _ => 22 - (intOf i).toNat)
          case atStart => exact ⟨0, by omega, rfl, 0, rfl⟩
          case round =>
            obtain ⟨j, hj, rfl, nd, rfl⟩ := hrel
            by_cases hjl : j < 22
            · have a1 := (HBB6.out.cellAt j (by omega)).trans (wordVals_get j hjl)
              have a2 := (HW6.out.cellAt j (by omega)).trans (wordVals_get j hjl)
              have i1 : (j : Int) < 22 := by omega
              go_wp2_with fail
              go_quiet (fail)
              go_wp2
              go_roundw
              case rel => exact ⟨j + 1, by omega, by go_num, nd + nq, by first | rfl | simp [World.drewN_drewN] | skip⟩
              case measure => simp [intOf]; omega
            · go_wp2
              go_roundw
              case rel => exact ⟨k + 1, by omega, by go_num, below_drewN HB6.out _⟩
              case measure => simp [intOf]; omega
    · have htr := HT2.out.below (Nat.le_refl _) hbr
      have hzr := hbr.size
      have HX : Hid (Below w.heap.size w wo) := HX2.out.trans (hbr.mono (by omega))
      obtain ⟨wv, hwv⟩ : ∃ wv, wv = isWord s.data.toList := ⟨_, rfl⟩
      obtain ⟨nv, hnv⟩ : ∃ nv, nv = isName s.data.toList := ⟨_, rfl⟩
      have HWV : Hid (wv = isWord s.data.toList) := hwv
      have HNV : Hid (nv = isName s.data.toList) := hnv
      clear hwv hnv
      go_wp2_with fail
      refine (word_any _ _ htr).mono ?_
      rw [ByteArray.toList_eq, ← HWV.out]
      rintro r w3 ⟨rfl, hb3⟩
      have ht3 := htr.below (Nat.le_refl _) hb3
      have hz3 := hb3.size
      go_wp2_with fail
      refine (name_any _ _ ht3).mono ?_
      rw [← HNV.out]
      rintro r w4 ⟨rfl, hb4⟩
      have hz4 := hb4.size
      have HX4 : Hid (Below w.heap.size w w4) := (HX.out.trans (hb3.mono (by have := HX.out.size; omega))).trans (hb4.mono (by have := HX.out.size; omega))
      clear ht3 htr hb3 hb4
      go_wp2_with fail
      refine (refWord_any _ _).mono ?_
      rw [← HWV.out]
      rintro r w5 ⟨rfl, hb5⟩
      have hz5 := hb5.size
      go_wp2_with fail
      refine (refName_any _ _).mono ?_
      rw [← HNV.out]
      rintro r w6 ⟨rfl, hb6⟩
      have hz6 := hb6.size
      go_wp2
      go_ret
      exact ⟨by first | rfl | simp, (HX4.out.trans (hb5.mono (by have := HX4.out.size; omega))).trans (hb6.mono (by have := HX4.out.size; omega))⟩
end Go.Proofs.YtnpiicceafgioaaDoor
