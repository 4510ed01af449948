/-
  The document's own digits of a number.
-/
import Derived.Test.YtapakbibofnhkaaDoorS
import Derived.Lib.AppendStr
import Derived.Lib.BufferRead
import Derived.Lib.OthersKept
import Derived.Maps.AppendAt
namespace Go.Proofs.YtapakbibofnhkaaDoor
open Go.RowKit

/-- The digits of a number, none of nought. -/
def dd (m : Nat) : List UInt8 := if m = 0 then [] else Lib.decDigits m
theorem dd_zero : dd 0 = [] := rfl
theorem dd_dec (m : Nat) (h : m ≠ 0) : dd m = Lib.decDigits m := by unfold dd; rw [if_neg h]
theorem dd_pos (m : Nat) (h : m ≠ 0) : dd m = dd (m / 10) ++ [UInt8.ofNat (48 + m % 10)] := by
  rw [dd_dec m h, Lib.decDigits]
  by_cases h1 : m < 10
  · rw [dif_pos h1, show m / 10 = 0 by omega, dd_zero, show m % 10 = m by omega]; rfl
  · rw [dif_neg h1, dd_dec _ (by omega)]
/-- So far turned round from both ends. -/
def Turn (l bs : List UInt8) (k : Nat) : Prop := bs.length = l.length ∧ ∀ j, j < l.length → bs[j]? = if j < k ∨ l.length ≤ j + k then l[l.length - 1 - j]? else l[j]?

theorem Turn.start (l : List UInt8) : Turn l l 0 := ⟨rfl, fun j hj => by rw [if_neg (by omega)]⟩
theorem Turn.done {l bs : List UInt8} {k : Nat} (h : Turn l bs k) (hk : l.length / 2 ≤ k) : bs = l.reverse := by
  apply List.ext_getElem?
  intro j
  by_cases hj : j < l.length
  · rw [h.2 j hj, List.getElem?_reverse hj]
    split
    · rfl
    · have : j = l.length - 1 - j := by omega
      rw [← this]
  · rw [List.getElem?_eq_none (by rw [h.1]; omega), List.getElem?_eq_none (by rw [List.length_reverse]; omega)]
theorem Turn.step {l bs : List UInt8} {k : Nat} (h : Turn l bs k) (hk : k < l.length / 2) (x y : UInt8) (hx : bs[k]? = some x) (hy : bs[l.length - 1 - k]? = some y) :
    Turn l ((bs.set k y).set (l.length - 1 - k) x) (k + 1) := by
  have ex := h.2 k (by omega)
  have ey := h.2 (l.length - 1 - k) (by omega)
  rw [if_neg (by omega), hx] at ex
  rw [if_neg (by omega), hy] at ey
  refine ⟨by simp [h.1], fun j hj => ?_⟩
  rw [List.getElem?_set, List.getElem?_set]
  by_cases h1 : l.length - 1 - k = j
  · rw [if_pos h1, if_pos (by rw [List.length_set, h.1]; omega), if_pos (by omega), ex, ← h1, show l.length - 1 - (l.length - 1 - k) = k by omega]
  · rw [if_neg h1]
    by_cases h2 : k = j
    · rw [if_pos h2, if_pos (by rw [h.1]; omega), if_pos (by omega), ey, h2]
    · rw [if_neg h2, h.2 j hj]
      by_cases h3 : j < k ∨ l.length ≤ j + k
      · rw [if_pos h3, if_pos (by omega)]
      · rw [if_neg h3, if_neg (by omega)]

theorem byteCells_set (bs : List UInt8) (j : Nat) (x : UInt8) : (Lib.byteCells bs).set j (.int .u8 x.toNat) = Lib.byteCells (bs.set j x) := by
  simp [Lib.byteCells, List.map_set]
theorem byteCells_get (bs : List UInt8) (j : Nat) (x : UInt8) (h : bs[j]? = some x) : (Lib.byteCells bs)[j]? = some (.int .u8 x.toNat) := by
  simp [Lib.byteCells, h]

theorem dd_len (k : Nat) : ∀ m, m < 10 ^ k → (dd m).length ≤ k := by
  induction k with
  | zero => intro m h; rw [show m = 0 by simpa using h, dd_zero]; exact Nat.le_refl _
  | succ k ih =>
    intro m h
    by_cases h0 : m = 0
    · rw [h0, dd_zero]; exact Nat.zero_le _
    · rw [dd_pos m h0, List.length_append]
      have := ih (m / 10) (by rw [Nat.pow_succ] at h; omega)
      simp; omega

theorem conv_own' {w : World} {base : Nat} {v : Value} {n : Nat} {t : List UInt8} (h : w.ownsRow base 5 1 v n (Lib.byteCells t)) : (convert 57 9 v).run Tryd.prog w = .ok (.string ⟨t.toArray⟩) w := by
  obtain ⟨h1, h2⟩ := h
  rw [Lib.byteCells_length, Nat.mul_one] at h1
  rcases h2 with ⟨rfl, h0⟩ | ⟨g, cap, cur, rfl, hg, hh, hn, hm, hs, ht⟩
  · obtain rfl : t = [] := List.eq_nil_of_length_eq_zero (by omega)
    exact Lib.run_convert_nil_bytes w 57 9 5 0 Tryd.underlying57 Tryd.underlying5 Tryd.underlying9
  · subst h1
    exact run_convert_bytes_back w 57 9 5 ⟨g, 0, none⟩ cap t Tryd.underlying57 Tryd.underlying5 Tryd.underlying9 (Lib.bytes_of_row hh (by rw [← ht, Nat.mul_one]))


/-! ### Rows that the call owns -/
section
variable {w : World} {base : Nat} {e : TypeId} {size n : Nat} {g cap : Nat} {xs : List Value}
theorem ownD_cell (h : w.ownsRow base e size (.slice (some ⟨g, 0, none⟩) n cap) n xs) (j : Nat) (v : Value) (hj : xs[j]? = some v) : w.cell? ⟨g, j, none⟩ = some v ∧ w.frozen? ⟨g, j, none⟩ = false := by
  rcases h.2 with ⟨h0, _⟩ | ⟨g', cap', cur, hv, hb, hg, hn, hm, hs, ht⟩
  · cases h0
  · cases hv
    have hjl : j < xs.length := (List.getElem?_eq_some_iff.1 hj).1
    have hc : cur[j]? = some v := by
      rw [← ht] at hj
      rw [List.getElem?_take_of_lt (by rw [h.1] at hjl; exact hjl)] at hj
      simpa using hj
    refine ⟨?_, ?_⟩
    · simp [World.cell?, hg, hc]
    · simp [World.frozen?, hg]
theorem ownD_set (h : w.ownsRow base e size (.slice (some ⟨g, 0, none⟩) n cap) n xs) (j : Nat) (v : Value) : (w.setCell ⟨g, j, none⟩ v).ownsRow base e size (.slice (some ⟨g, 0, none⟩) n cap) n (xs.set j v) := by
  rcases h.2 with ⟨h0, _⟩ | ⟨g', cap', cur, hv, hb, hg, hn, hm, hs, ht⟩
  · cases h0
  · cases hv
    refine ⟨by simpa using h.1, .inr ⟨g, cap, cur.setIfInBounds j v, rfl, hb, ?_, hn, hm, by simpa using hs, ?_⟩⟩
    · have hlt := (Array.getElem?_eq_some_iff.1 hg).1
      show (w.heap.modify g _)[g]? = _
      rw [Array.getElem?_eq_getElem (by rw [Array.size_modify]; exact hlt), Array.getElem_modify_self]
      have := (Array.getElem?_eq_some_iff.1 hg).2
      rw [this]
      rfl
    · rw [Array.toList_setIfInBounds, List.take_set, ht]
theorem ownD_form {v : Value} (h : w.ownsRow base e size v n xs) (hn : 0 < n) : ∃ g cap, v = .slice (some ⟨g, 0, none⟩) n cap ∧ base ≤ g ∧ n ≤ cap := by
  rcases h.2 with ⟨_, h0⟩ | ⟨g, cap, cur, hv, hb, hg, hc, hm, hs, ht⟩
  · omega
  · exact ⟨g, cap, hv, hb, hc⟩
end

theorem byteCells_append' (a b : List UInt8) : Lib.byteCells (a ++ b) = Lib.byteCells a ++ Lib.byteCells b := by simp [Lib.byteCells]

set_option maxRecDepth 100000 in
set_option maxHeartbeats 1000000 in
theorem digits_one (n : Int) (w : World) (h0 : 0 ≤ n) (h1 : n < 10) :
    Calls Tryd.prog 27 #[.int .i64 n] w fun r w' => r = .returned (.string ⟨(Lib.itoa n).toArray⟩) ∧ Below w.heap.size w w' := by
  have hcv : (convert 57 9 (.slice (some ⟨w.heap.size, 0, none⟩) 1 1)).run Tryd.prog (w.alloc (.cells #[.int .u8 (48 + n)] 5)) = .ok (.string ⟨(Lib.itoa n).toArray⟩) (w.alloc (.cells #[.int .u8 (48 + n)] 5)) := by
    have ho : (w.alloc (.cells #[.int .u8 (48 + n)] 5)).ownsRow w.heap.size 5 1 (.slice (some ⟨w.heap.size, 0, none⟩) 1 1) 1 (Lib.byteCells [UInt8.ofNat (48 + n.toNat)]) := by
      have h := World.ownsRow_lit (base := w.heap.size) (e := 5) (size := 1) w #[.int .u8 (48 + n)] 1 (Nat.le_refl _) (by unfold maxLen; omega) rfl
      have e : Lib.byteCells [UInt8.ofNat (48 + n.toNat)] = [Value.int .u8 (48 + n)] := by simp [Lib.byteCells]; omega
      rw [e]
      exact h
    have h := conv_own' ho
    rw [h, Lib.itoa, if_neg (by omega), Lib.decDigits_one (by omega)]
  generalize Lib.itoa n = R at hcv ⊢
  go_enter Tryd.func27, Tryd.ntmps27
  go_wp2
  go_ret
  exact ⟨rfl, (Below.refl _ _).alloc (Nat.le_refl _) _⟩

set_option maxRecDepth 100000 in
set_option maxHeartbeats 4000000 in
theorem digits_pos (n : Int) (w : World) (h1 : n ≤ 9223372036854775807) (hpos : 10 ≤ n) :
    Calls Tryd.prog 27 #[.int .i64 n] w fun r w' => r = .returned (.string ⟨(Lib.itoa n).toArray⟩) ∧ Below w.heap.size w w' := by
  obtain ⟨i0, hi, hz0, hz1, hz2⟩ := info_parts info5
  obtain ⟨T, hT⟩ : ∃ T, T = dd n.natAbs := ⟨_, rfl⟩
  have hTl : T.length ≤ 19 := by rw [hT]; exact dd_len 19 _ (by omega)
  have HT : Hid (T = dd n.natAbs) := hT
  have HR : Hid (Lib.itoa n = T) := by show _ = _; rw [Lib.itoa, if_neg (by omega), hT, show n.toNat = n.natAbs by omega, dd_dec _ (by omega)]
  generalize Lib.itoa n = R at HR ⊢
  clear hT
  go_enter Tryd.func27, Tryd.ntmps27
  go_wp2
  go_loopw [0, 4] (fun nv v wr => ∃ (M : Nat) (acc : List UInt8), nv = .int .i64 (M : Int) ∧ M ≤ 9223372036854775808 ∧ acc.length ≤ 19 ∧ Hid (dd M ++ acc.reverse = T) ∧ Below w.heap.size w wr ∧ Hid (wr.ownsRow w.heap.size 5 1 v acc.length (Lib.byteCells acc))) (fun nv _ _ => (intOf nv).natAbs)
  case atStart => exact ⟨n.natAbs, [], by congr 1; omega, by omega, by simp, by show _ = _; rw [HT.out]; simp, Below.refl _ _, World.ownsRow_nil _ _ _ _⟩
  case round =>
    obtain ⟨M, acc, rfl, hM, hal, HD, hb, HO⟩ := hrel
    have hown := HO.out
    have hbs := hb.size
    by_cases hz : M = 0
    · subst hz
      have HA : Hid (acc.reverse = T) := by have := HD.out; rw [dd_zero] at this; exact this
      clear HD
      have hXl : 0 < acc.length := by
        rw [← List.length_reverse, HA.out, HT.out, dd_pos _ (by omega)]; simp
      have HXR : Hid (acc.reverse = R) := by show _ = _; rw [HR.out, ← HA.out]
      obtain ⟨g, cap, rfl, hg, hcap⟩ := ownD_form hown hXl
      have HO3 : Hid (wr.ownsRow w.heap.size 5 1 (.slice (some ⟨g, 0, none⟩) acc.length cap) acc.length (Lib.byteCells acc)) := hown
      have HB3 : Hid (Below w.heap.size w wr) := hb
      clear hown HO
      generalize acc = X at *
      go_wp2
      go_loopw [6] (fun iv wl => ∃ (k : Nat) (bs : List UInt8), iv = .int .i64 k ∧ k ≤ X.length / 2 ∧ Hid (Turn X bs k) ∧ Below w.heap.size w wl ∧ Hid (wl.ownsRow w.heap.size 5 1 (.slice (some ⟨g, 0, none⟩) X.length cap) X.length (Lib.byteCells bs))) (fun iv _ => X.length / 2 - (intOf iv).toNat)
      case atStart => exact ⟨0, X, rfl, Nat.zero_le _, Turn.start X, HB3.out, HO3.out⟩
      case round =>
        obtain ⟨k, bs, rfl, hk, HK, hbl, HOl⟩ := hrel
        by_cases hlt : k < X.length / 2
        · have hlI : (k : Int) < (X.length : Int) / 2 := by omega
          have hownl := HOl.out
          obtain ⟨x, hx⟩ : ∃ x, bs[k]? = some x := ⟨_, List.getElem?_eq_getElem (by rw [HK.out.1]; omega)⟩
          obtain ⟨y, hy⟩ : ∃ y, bs[X.length - 1 - k]? = some y := ⟨_, List.getElem?_eq_getElem (by rw [HK.out.1]; omega)⟩
          obtain ⟨c1, f1⟩ := ownD_cell hownl k _ (byteCells_get bs k x hx)
          obtain ⟨c2, f2⟩ := ownD_cell hownl _ _ (byteCells_get bs _ y hy)
          obtain ⟨m, hm⟩ : ∃ m, m = X.length - 1 - k := ⟨_, rfl⟩
          have hmI : (X.length : Int) - 1 - (k : Int) = m := by omega
          have hml : m < X.length := by omega
          have hkm : k ≠ m := by omega
          rw [← hm] at c2 f2 hy
          have HX : Hid (bs[k]? = some x) := hx
          have HY : Hid (bs[m]? = some y) := hy
          have HM : Hid (m = X.length - 1 - k) := hm
          clear hx hy hownl hm
          go_wp2
          refine ⟨⟨k + 1, (bs.set k y).set m x, by go_num, by omega, ?_, ?_, ?_⟩, by simp [intOf]; omega⟩
          · have h := HK.out.step hlt x y HX.out (by rw [← HM.out]; exact HY.out)
            rw [← HM.out] at h
            exact h
          · exact (hbl.setCell (by show _ ≤ _; exact hg) _).setCell (by show _ ≤ _; exact hg) _
          · show World.ownsRow _ _ _ _ _ _ _
            rw [← byteCells_set, ← byteCells_set]
            exact ownD_set (ownD_set HOl.out k _) m _
        · have hlI : ¬ (k : Int) < (X.length : Int) / 2 := by omega
          have HE : Hid (bs = R) := by show _ = _; rw [HK.out.done (by omega)]; exact HXR.out
          have hcv := conv_own' HOl.out
          go_wp2
          go_ret
          exact ⟨by rw [HE.out]; rfl, hbl⟩
    · have hne : ((M : Int) != 0) = true := by simp; omega
      have HL : Hid (acc.length + 1 ≤ 19) := by
        have := congrArg List.length HD.out
        rw [dd_pos M hz] at this
        simp at this
        show _ ≤ _
        omega
      · go_wp2_with (at_builtin; refine wpList_append_own _ rfl _ _ 57 rfl w.heap.size 5 i0 (.int .u8 0) 1 1 Tryd.underlying57 hi hz0 hz1 hz2 rfl (by decide) _ _ _ rfl (hown.alloc _) ⟨wr.heap.size, 0, none⟩ 1 1 [.int .u8 _] rfl rfl (cell_one_new _ _ _) (fun x hx => by simp at hx; subst hx; rfl) (by unfold maxLen; omega) (by omega) (by simp; omega) ?_; intro v' w3 hown3 hgr3 _; have HB3 : Hid (Below w.heap.size w w3) := (Below.grown (hb.alloc (by omega) _) hgr3 (by simp; omega) (fun j hj => by have := (hown.lt _ hj).1; omega)); have HO3 : Hid (w3.ownsRow w.heap.size 5 1 v' _ _) := hown3; clear hown3 hgr3)
        go_roundw
        case rel =>
          refine ⟨M / 10, acc ++ [UInt8.ofNat (48 + M % 10)], by go_num, by omega, ?_, ?_, HB3.out, ?_⟩
          · have := HL.out; rw [List.length_append]; simp; omega
          · show _ = _
            rw [List.reverse_append, ← HD.out, dd_pos M hz, List.append_assoc]; rfl
          · show World.ownsRow _ _ _ _ _ _ _
            rw [byteCells_append', List.length_append]
            refine cast ?_ HO3.out
            congr 1
            simp [Lib.byteCells]
            omega
        case measure => simp [intOf]; omega

theorem refDigits_any (n : Int) (w : World) (h0 : 0 ≤ n) (h1 : n ≤ 9223372036854775807) :
    Calls Tryd.prog 27 #[.int .i64 n] w fun r w' => r = .returned (.string ⟨(Lib.itoa n).toArray⟩) ∧ Below w.heap.size w w' := by
  by_cases h : n < 10
  · exact digits_one n w h0 h
  · exact digits_pos n w h1 (by omega)
end Go.Proofs.YtapakbibofnhkaaDoor
