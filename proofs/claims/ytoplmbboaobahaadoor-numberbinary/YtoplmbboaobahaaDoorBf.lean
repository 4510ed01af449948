/-
  How two data of one kind stand to each other, by the document; its own Binary where there is a fault.
-/
import Derived.Test.YtoplmbboaobahaaDoorQ
import Derived.Test.YtoplmbboaobahaaDoorBb
import Derived.BigQuiet
namespace Go.Proofs.YtoplmbboaobahaaDoor
open Go.RowKit
attribute [local go_sem] refold2 cell3_0 cell3_1 b28_0 b28_01 b28_012 b28_013 b28_014 b35_01 b35_0 b35 mkI69 x56 x57

theorem below_dn {B : Nat} {a w : World} (h : Below B a w) (n : Nat) : Below B a (w.drewN n) := h.trans ⟨rfl, rfl, rfl, Nat.le_refl _, fun _ _ => rfl⟩

theorem fromB_any (f : Int) (w : World) : Calls Tryd.prog 52 #[.int .u64 f] w fun r w' => r = .returned (.float .f64 f.toNat) ∧ w' = w := by
  go_enter Tryd.func52, Tryd.ntmps52
  go_wp2
  go_ret
  exact ⟨rfl, rfl⟩

set_option maxRecDepth 100000 in
set_option maxHeartbeats 1000000 in
theorem order_int (t : ByteArray) (a b f f' : Int) (s s' : ByteArray) (r0 r1 r2 r3 : Int) (p i : Value) (q0 q1 q2 q3 : Int) (p' i' : Value) (w : World) :
    Calls Tryd.prog 47 #[D 2 t a f s r0 r1 r2 r3 p i, D 2 t b f' s' q0 q1 q2 q3 p' i'] w fun r w' => r = .returned (.tuple #[.bool (decide (a < b)), .bool (decide (b < a)), .bool true]) ∧ Below w.heap.size w w' := by
  simp only [D]
  go_enter Tryd.func47, Tryd.ntmps47
  go_wp2
  go_quiet (fail)
  go_wp2
  refine bodyPost_ret (v := .tuple #[.bool (decide (a < b)), .bool (decide (b < a)), .bool true]) (by simp [results, Tryd.results47, go_sem]) rfl ⟨rfl, ?_⟩
  exact below_dn (below2 _ _ _) _

set_option maxRecDepth 100000 in
set_option maxHeartbeats 1000000 in
theorem order_flt (t : ByteArray) (a b f f' : Int) (s s' : ByteArray) (r0 r1 r2 r3 : Int) (p i : Value) (q0 q1 q2 q3 : Int) (p' i' : Value) (w : World) :
    Calls Tryd.prog 47 #[D 3 t a f s r0 r1 r2 r3 p i, D 3 t b f' s' q0 q1 q2 q3 p' i'] w fun r w' => r = .returned (.tuple #[.bool (Ieee.double.order f.toNat f'.toNat == some .lt), .bool (Ieee.double.order f.toNat f'.toNat == some .gt), .bool ((Ieee.double.order f.toNat f.toNat == some .eq) && (Ieee.double.order f'.toNat f'.toNat == some .eq))]) ∧ Below w.heap.size w w' := by
  simp only [D]
  have e : (Ieee.double.order f.toNat f.toNat == some .eq) = (FloatKind.f64.format.order f.toNat f.toNat == some .eq) := rfl
  rw [e]
  cases h : (FloatKind.f64.format.order f.toNat f.toNat == some Ordering.eq)
  all_goals
    clear e
    go_enter Tryd.func47, Tryd.ntmps47
    go_wp2_with fail
    refine (fromB_any _ _).mono ?_
    rintro r w1 ⟨rfl, rfl⟩
    go_wp2_with fail
    refine (fromB_any _ _).mono ?_
    rintro r w1 ⟨rfl, rfl⟩
    go_wp2_with fail
  · refine bodyPost_ret (v := .tuple #[.bool (Ieee.double.order f.toNat f'.toNat == some .lt), .bool (Ieee.double.order f.toNat f'.toNat == some .gt), .bool false]) (by simp [results, Tryd.results47, go_sem]; exact ⟨rfl, rfl⟩) rfl ⟨by simp, below2 _ _ _⟩
  · refine bodyPost_ret (v := .tuple #[.bool (Ieee.double.order f.toNat f'.toNat == some .lt), .bool (Ieee.double.order f.toNat f'.toNat == some .gt), .bool (Ieee.double.order f'.toNat f'.toNat == some .eq)]) (by simp [results, Tryd.results47, go_sem]; exact ⟨rfl, rfl, rfl⟩) rfl ⟨by simp, below2 _ _ _⟩

theorem less_drop : ∀ (k : Nat) (l l' : List UInt8), (∀ j, j < k → l[j]? = l'[j]?) → k ≤ l.length → k ≤ l'.length → Op.bytesLess l l' = Op.bytesLess (l.drop k) (l'.drop k)
  | 0, _, _, _, _, _ => rfl
  | k + 1, [], _, _, h, _ => by simp at h
  | k + 1, _ :: _, [], _, _, h => by simp at h
  | k + 1, x :: xs, y :: ys, h, h1, h2 => by
    have e : x = y := by simpa using h 0 (by omega)
    subst e
    have ih := less_drop k xs ys (fun j hj => by simpa using h (j + 1) (by omega)) (by simpa using h1) (by simpa using h2)
    simp [Op.bytesLess, ih]

theorem drop_cons (l : List UInt8) (k : Nat) (x : UInt8) (h : l[k]? = some x) : l.drop k = x :: l.drop (k + 1) := by
  obtain ⟨h1, h2⟩ := List.getElem?_eq_some_iff.1 h
  rw [List.drop_eq_getElem_cons h1, h2]

theorem less_at (l l' : List UInt8) (k : Nat) (x y : UInt8) (he : ∀ j, j < k → l[j]? = l'[j]?) (hx : l[k]? = some x) (hy : l'[k]? = some y) (hne : x ≠ y) : Op.bytesLess l l' = decide (x.toNat < y.toNat) := by
  have h1 := (List.getElem?_eq_some_iff.1 hx).1
  have h2 := (List.getElem?_eq_some_iff.1 hy).1
  rw [less_drop k l l' he (by omega) (by omega), drop_cons l k x hx, drop_cons l' k y hy]
  have : (x == y) = false := by simpa using hne
  simp only [Op.bytesLess, this, Bool.false_and, Bool.or_false]
  exact decide_eq_decide.2 (UInt8.lt_iff_toNat_lt ..)

theorem less_end (l l' : List UInt8) (k : Nat) (he : ∀ j, j < k → l[j]? = l'[j]?) (h1 : k ≤ l.length) (h2 : k ≤ l'.length) (hk : k = l.length ∨ k = l'.length) : Op.bytesLess l l' = decide (l.length < l'.length) := by
  rw [less_drop k l l' he h1 h2]
  rcases hk with rfl | rfl
  · rw [List.drop_length]
    cases h : l'.drop l.length with
    | nil => rw [List.drop_eq_nil_iff] at h; simp [Op.bytesLess]; omega
    | cons y ys =>
      have : l.length < l'.length := by
        rcases Nat.lt_or_ge l.length l'.length with h3 | h3
        · exact h3
        · rw [List.drop_eq_nil_iff.2 h3] at h; cases h
      simp [Op.bytesLess, this]
  · rw [List.drop_length, show decide (l.length < l'.length) = false by simp; omega]
    cases l.drop l'.length <;> rfl

theorem toList_len (s : ByteArray) : s.toList.length = s.size := by rw [ByteArray.toList_eq, Array.length_toList]; rfl
theorem toList_get (s : ByteArray) (k : Nat) (h : k < s.size) : s.toList[k]? = some (s[k]'h) := by
  rw [ByteArray.toList_eq, List.getElem?_eq_getElem (by rw [Array.length_toList]; exact h)]; rfl

set_option maxRecDepth 100000 in
set_option maxHeartbeats 2000000 in
theorem order_txt (t : ByteArray) (a b f f' : Int) (s s' : ByteArray) (r0 r1 r2 r3 : Int) (p i : Value) (q0 q1 q2 q3 : Int) (p' i' : Value) (w : World) (hs : s.size ≤ 140737488351232) :
    Calls Tryd.prog 47 #[D 4 t a f s r0 r1 r2 r3 p i, D 4 t b f' s' q0 q1 q2 q3 p' i'] w fun r w' => r = .returned (.tuple #[.bool (Op.bytesLess s.toList s'.toList), .bool (Op.bytesLess s'.toList s.toList), .bool true]) ∧ Below w.heap.size w w' := by
  simp only [D]
  obtain ⟨X, hX⟩ : ∃ X, Hid (X = Op.bytesLess s.toList s'.toList) := ⟨_, rfl⟩
  obtain ⟨Y, hY⟩ : ∃ Y, Hid (Y = Op.bytesLess s'.toList s.toList) := ⟨_, rfl⟩
  rw [← hX.out, ← hY.out]
  obtain ⟨W, hW⟩ : ∃ W, W = (w.alloc (.cells #[.int .i64 4, .string t, .int .i64 a, .int .u64 f, .string s, .int .i64 r0, .int .i64 r1, .int .i64 r2, .int .i64 r3, p, i] 28)).alloc (.cells #[.int .i64 4, .string t, .int .i64 b, .int .u64 f', .string s', .int .i64 q0, .int .i64 q1, .int .i64 q2, .int .i64 q3, p', i'] 28) := ⟨_, rfl⟩
  have HB : Hid (Below w.heap.size w W) := by rw [hW]; exact below2 _ _ _
  have hc1 : W.cell? ⟨w.heap.size, 4, none⟩ = some (.string s) := by rw [hW]; simp
  have hc2 : W.cell? ⟨w.heap.size + 1, 4, none⟩ = some (.string s') := by rw [hW]; simp
  go_enter Tryd.func47, Tryd.ntmps47
  go_wp2
  rw [← hW]
  clear hW
  go_loopw [9] (fun iv wr => ∃ k : Nat, iv = .int .i64 k ∧ k ≤ s.size ∧ k ≤ s'.size ∧ (∃ nd, wr = W.drewN nd) ∧ Hid (∀ j, j < k → s.toList[j]? = s'.toList[j]?)) (fun iv _ => s.size - (intOf iv).toNat)
  case atStart => exact ⟨0, rfl, Nat.zero_le _, Nat.zero_le _, ⟨0, rfl⟩, fun j hj => absurd hj (Nat.not_lt_zero _)⟩
  case round =>
    obtain ⟨k, rfl, hk1, hk2, ⟨nd, rfl⟩, HE⟩ := hrel
    by_cases g1 : k < s.size
    · by_cases g2 : k < s'.size
      · have HG1 := toList_get s k g1
        have HG2 := toList_get s' k g2
        have hG1 : Hid _ := HG1
        have hG2 : Hid _ := HG2
        clear HG1 HG2
        by_cases he : (s[k]'g1) = (s'[k]'g2)
        · have he' : (((s[k]'g1).toNat : Int) != ((s'[k]'g2).toNat : Int)) = false := by rw [he]; simp
          have HEQ : Hid _ := he
          clear he
          go_wp2_with fail
          go_quiet (fail)
          go_wp2
          go_roundw
          case rel =>
            refine ⟨k + 1, by go_num, by omega, by omega, ⟨_, by first | rfl | simp⟩, fun j hj => ?_⟩
            by_cases hjk : j = k
            · rw [hjk, hG1.out, hG2.out, HEQ.out]
            · exact HE.out j (by omega)
          case measure => simp [intOf]; omega
        · have he' : (((s[k]'g1).toNat : Int) != ((s'[k]'g2).toNat : Int)) = true := by
            simp only [bne_iff_ne]
            intro h
            exact he (UInt8.toNat_inj.1 (by omega))
          have HNE : Hid _ := he
          clear he
          go_wp2_with fail
          go_quiet (fail)
          go_wp2_with fail
          go_quiet (fail)
          go_wp2
          refine bodyPost_ret (v := .tuple #[.bool X, .bool Y, .bool true]) (by simp [results, Tryd.results47, go_sem]; rw [hX.out, hY.out, less_at _ _ k _ _ HE.out hG1.out hG2.out HNE.out, less_at _ _ k _ _ (fun j hj => (HE.out j hj).symm) hG2.out hG1.out (fun e => HNE.out e.symm)]; simp) rfl ⟨rfl, ?_⟩
          exact below_dn (below_dn (below_dn HB.out _) _) _
      · go_wp2_with fail
        go_quiet (fail)
        go_wp2
        refine bodyPost_ret (v := .tuple #[.bool X, .bool Y, .bool true]) (by simp [results, Tryd.results47, go_sem]; rw [hX.out, hY.out, less_end _ _ k HE.out (by rw [toList_len]; omega) (by rw [toList_len]; omega) (by rw [toList_len, toList_len]; omega), less_end _ _ k (fun j hj => (HE.out j hj).symm) (by rw [toList_len]; omega) (by rw [toList_len]; omega) (by rw [toList_len, toList_len]; omega), toList_len, toList_len]; simp) rfl ⟨rfl, ?_⟩
        exact below_dn (below_dn HB.out _) _
    · go_wp2_with fail
      go_quiet (fail)
      go_wp2
      refine bodyPost_ret (v := .tuple #[.bool X, .bool Y, .bool true]) (by simp [results, Tryd.results47, go_sem]; rw [hX.out, hY.out, less_end _ _ k HE.out (by rw [toList_len]; omega) (by rw [toList_len]; omega) (by rw [toList_len, toList_len]; omega), less_end _ _ k (fun j hj => (HE.out j hj).symm) (by rw [toList_len]; omega) (by rw [toList_len]; omega) (by rw [toList_len, toList_len]; omega), toList_len, toList_len]; simp) rfl ⟨rfl, ?_⟩
      exact below_dn (below_dn HB.out _) _
end Go.Proofs.YtoplmbboaobahaaDoor
