/-
  The walks of the laws' own between and length.
-/
import Derived.Test.YtnpiicceafgioaaDoorSu
import Derived.Test.YtnpiicceafgioaaDoorP
import Derived.Test.YtnpiicceafgioaaDoorU
namespace Go.Proofs.YtnpiicceafgioaaDoor
open Go.RowKit

theorem tokCells_in (ts : List Tok) (j : Nat) (h : j < ts.length) (i : Nat) (hi : i < 3) : (tokCells ts)[j * 3 + i]? = (tokCell ts[j])[i]? := by
  induction ts generalizing j with
  | nil => simp at h
  | cons t ts ih =>
    have e : tokCells (t :: ts) = tokCell t ++ tokCells ts := by simp [tokCells]
    rw [e]
    cases j with
    | zero =>
      rw [List.getElem?_append_left (by simp [tokCell]; omega)]
      simp
    | succ j =>
      rw [List.getElem?_append_right (by simp [tokCell]; omega)]
      have : (j + 1) * 3 + i - (tokCell t).length = j * 3 + i := by simp [tokCell]; omega
      rw [this]
      simpa using ih j (by simpa using h)

theorem row_form {w : World} {base : Nat} {e : TypeId} {size : Nat} {v : Value} {n : Nat} {xs : List Value} (h : w.ownsRow base e size v n xs) : ∃ p cap, v = .slice p n cap := by
  rcases h.2 with ⟨h', h0⟩ | ⟨g, cap, cur, hv, _⟩
  · exact ⟨none, 0, by rw [h', h0]⟩
  · exact ⟨_, _, hv⟩
theorem row_some {w : World} {base : Nat} {e : TypeId} {size : Nat} {p : Option Addr} {n cap : Nat} {xs : List Value} (h : w.ownsRow base e size (.slice p n cap) n xs) (hn : 0 < n) : ∃ g, p = some ⟨g, 0, none⟩ ∧ base ≤ g ∧ g < w.heap.size ∧ n ≤ cap ∧ cap ≤ maxLen := by
  rcases h.2 with ⟨h', h0⟩ | ⟨g, cap', cur, hv, hg, hh, hnc, hcm, _⟩
  · omega
  · cases hv; exact ⟨g, rfl, hg, (Array.getElem?_eq_some_iff.1 hh).1, hnc, hcm⟩

theorem gap_tail (m : Bytes) (h : Gap m) (hm : m = [] ∨ ∃ m', m = 10 :: m') : Gap (m.drop 1) := by
  rcases hm with rfl | ⟨m', rfl⟩
  · exact .nil
  · cases h with
    | blank _ _ _ h => exact h

theorem gap_cases (l : Bytes) (k : Nat) (h : k < l.length) (g : Gap (l.drop k)) :
    (((l.getD k 0).toNat = 32 ∨ (l.getD k 0).toNat = 9 ∨ (l.getD k 0).toNat = 10) ∧ Gap (l.drop (k + 1))) ∨
    (∃ n, 2 ≤ n ∧ k + n ≤ l.length ∧ (l.getD k 0).toNat = 47 ∧ (l.getD (k + 1) 0).toNat = 47 ∧ (∀ j, j < n → (l.getD (k + j) 0).toNat ≠ 10) ∧ (k + n < l.length → (l.getD (k + n) 0).toNat = 10) ∧ Gap (l.drop (k + n + 1))) := by
  have hb : ∀ j, (l.drop k).getD j 0 = l.getD (k + j) 0 := fun j => getD_drop l k j
  have hl : (l.drop k).length = l.length - k := List.length_drop
  have hd : ∀ j, (l.drop k).drop j = l.drop (k + j) := fun j => by rw [List.drop_drop]
  generalize l.drop k = D at g hb hl hd
  cases g with
  | nil => simp at hl; omega
  | blank b r hbb h =>
    refine .inl ⟨?_, ?_⟩
    · have := hb 0
      simp only [Nat.add_zero] at this
      rw [← this]; exact hbb
    · rw [← hd 1]; exact h
  | remark r m hr hm h =>
    have e0 := hb 0
    have e1 := hb 1
    simp only [Nat.add_zero] at e0
    refine .inr ⟨2 + r.length, by omega, by simp at hl; omega, by rw [← e0]; rfl, by rw [← e1]; rfl, ?_, ?_, ?_⟩
    · intro j hj
      rw [← hb j]
      match j with
      | 0 => simp
      | 1 => simp
      | j + 2 =>
        show ((r ++ m).getD j 0).toNat ≠ 10
        rw [List.getD_eq_getElem?_getD, List.getElem?_append_left (by omega), List.getElem?_eq_getElem (by omega)]
        exact hr _ (List.getElem_mem _)
    · intro hlt
      rw [← hb (2 + r.length)]
      rcases hm with rfl | ⟨m', rfl⟩
      · simp at hl; omega
      · rw [Nat.add_comm 2 r.length]
        show ((r ++ 10 :: m').getD r.length 0).toNat = 10
        rw [List.getD_eq_getElem?_getD, List.getElem?_append_right (Nat.le_refl _)]; simp
    · have e : l.drop (k + (2 + r.length) + 1) = m.drop 1 := by
        rw [show k + (2 + r.length) + 1 = k + ((r.length + 1) + 2) by omega, ← hd]
        show (r ++ m).drop (r.length + 1) = _
        rw [← List.drop_drop, List.drop_left]
      rw [e]
      exact gap_tail m h hm

set_option maxHeartbeats 1000000 in
theorem between_gap (s : ByteArray) (w : World) (hlim : s.size ≤ 60000) (hg : Gap s.data.toList) :
    Calls Tryd.prog 27 #[.string s] w fun e w' => e = .returned (.bool true) ∧ w' = w := by
  have HLs : Hid (s.data.toList.length = s.size) := by show _ = _; simp
  have HG0 : Hid (Gap (s.data.toList.drop 0)) := hg
  clear hg
  go_enter Tryd.func27, Tryd.ntmps27
  go_wp2
  go_loop [3] (fun i => ∃ k : Nat, k ≤ s.size + 1 ∧ i = .int .i64 k ∧ Hid (Gap (s.data.toList.drop k))) (fun i => s.size + 1 - (intOf i).toNat)
  case atStart => exact ⟨0, by omega, rfl, HG0.out⟩
  case round =>
    obtain ⟨k, hk, rfl, HG⟩ := hrel
    by_cases hlt : k < s.size
    · have HB : Hid (∀ j, (h : k + j < s.size) → s.data.toList.getD (k + j) 0 = s[k + j]'h) := fun j h => getD_byte s (k + j) h
      have hb0 : s.data.toList.getD k 0 = s[k]'hlt := getD_byte s k hlt
      rcases gap_cases s.data.toList k (by rw [HLs.out]; exact hlt) HG.out with ⟨hb, hg⟩ | ⟨n, hn2, hkn, h0, h1, hall, hend, hg⟩
      · have HG2 : Hid (Gap (s.data.toList.drop (k + 1))) := hg
        rw [hb0] at hb
        clear hg hb0
        rcases hb with hb | hb | hb
        · have p32 : ((s[k]'hlt).toNat : Int) = 32 := by omega
          clear hb
          go_wp2_with fail
          exact ⟨⟨k + 1, by omega, by go_num, HG2⟩, by simp [intOf]; omega⟩
        · have p9 : ((s[k]'hlt).toNat : Int) = 9 := by omega
          clear hb
          go_wp2_with fail
          exact ⟨⟨k + 1, by omega, by go_num, HG2⟩, by simp [intOf]; omega⟩
        · have p10 : ((s[k]'hlt).toNat : Int) = 10 := by omega
          clear hb
          go_wp2_with fail
          exact ⟨⟨k + 1, by omega, by go_num, HG2⟩, by simp [intOf]; omega⟩
      · rw [HLs.out] at hkn hend
        have hlt1 : k + 1 < s.size := by omega
        have q47 : (((s[k]'hlt).toNat : Int) == 47) = true := by rw [← hb0, h0]; rfl
        have q47' : (((s[k + 1]'hlt1).toNat : Int) == 47) = true := by rw [← HB.out 1 hlt1, h1]; rfl
        have HALL : Hid (∀ j, j < n → (s.data.toList.getD (k + j) 0).toNat ≠ 10) := hall
        have HEND : Hid (k + n < s.size → (s.data.toList.getD (k + n) 0).toNat = 10) := hend
        have HG2 : Hid (Gap (s.data.toList.drop (k + n + 1))) := hg
        clear hg h0 h1 hall hend hb0
        go_wp2_with fail
        go_loop [3] (fun i => ∃ j : Nat, j ≤ n ∧ i = .int .i64 (k + j : Nat)) (fun i => s.size + 1 - (intOf i).toNat)
        case atStart => exact ⟨0, by omega, rfl⟩
        case round =>
          obtain ⟨j, hj, rfl⟩ := hrel
          by_cases hjn : j < n
          · have hlj : k + j < s.size := by omega
            have r10 : (((s[k + j]'hlj).toNat : Int) == 10) = false := beq_of_ne (by rw [← HB.out j hlj]; exact HALL.out j hjn)
            go_wp2_with fail
            exact ⟨⟨j + 1, by omega, by go_num⟩, by simp [intOf]; omega⟩
          · obtain rfl : j = n := by omega
            by_cases hlj : k + j < s.size
            · have r10 : (((s[k + j]'hlj).toNat : Int) == 10) = true := by rw [← HB.out j hlj, HEND.out hlj]; rfl
              go_wp2_with fail
              exact ⟨⟨k + j + 1, by omega, by go_num, HG2⟩, by simp [intOf]; omega⟩
            · go_wp2_with fail
              exact ⟨⟨k + j + 1, by omega, by go_num, HG2⟩, by simp [intOf]; omega⟩
    · go_wp2
      go_ret
      exact ⟨rfl, rfl⟩

theorem unqS_ok (s : ByteArray) (w : World) (hlim : s.size ≤ 70368744177664) (t : Bytes) (h : unqSpec s.data.toList = .ok t) :
    Calls Tryd.prog 17 #[.string s] w fun e w' => e = .returned (.tuple #[.string ⟨t.toArray⟩, .nilIface]) ∧ Below w.heap.size w w' :=
  (unquote_any s w hlim).mono fun _ _ hr => by
    rw [h] at hr
    cases hr with
    | ok _ he hb => exact ⟨he, hb⟩
theorem unqS_wrong (s : ByteArray) (w : World) (hlim : s.size ≤ 70368744177664) (c p : Nat) (h : unqSpec s.data.toList = .error (c, p)) :
    Calls Tryd.prog 17 #[.string s] w fun e w' => ∃ b, e = .returned (.tuple #[.string ⟨#[]⟩, .iface 59 (.pointer (some ⟨b, 0, none⟩))]) ∧ Below w.heap.size w w' :=
  (unquote_any s w hlim).mono fun _ _ hr => by
    rw [h] at hr
    cases hr with
    | error _ _ b he hlo hw hb => exact ⟨b, he, hb⟩

set_option maxHeartbeats 1000000 in
theorem length_lit (s : ByteArray) (a n : Nat) (t : Bytes) (w : World) (ha : a < s.size) (hlim : s.size ≤ 60000) (hq : (s.data.toList.getD a 0).toNat = 34) (hl : lit s.data.toList a (a + 1) [] = .ok (t, a + n)) :
    Calls Tryd.prog 28 #[.string s, .int .i64 a, .string ⟨t.toArray⟩] w fun e w' => e = .returned (.int .i64 n) ∧ Below w.heap.size w w' := by
  have hls : s.data.toList.length = s.size := by simp
  obtain ⟨h2, han, h34, hok, hno⟩ := piece_ok s.data.toList a n t (by omega) (by omega) hq hl
  rw [hls] at han
  have H34 : Hid (∀ h : a + n - 1 < s.size, (s[a + n - 1]'h).toNat = 34) := fun h => by rw [← getD_byte s _ h]; exact h34
  have HOK : Hid (unqSpec (s.extract a (a + n)).data.toList = .ok t) := by
    show _ = _
    rw [extract_add]; exact hok
  have HNO : Hid (∀ j, a ≤ j → j + 1 < a + n → ∃ e, unqSpec (s.extract a (j + 1)).data.toList = .error e) := fun j h1 h2 => by
    obtain ⟨m, rfl⟩ : ∃ m, j = a + m := ⟨j - a, by omega⟩
    rw [Nat.add_assoc, extract_add]; exact hno (m + 1) (by omega)
  clear hok hno h34 hq hl hls
  go_enter Tryd.func28, Tryd.ntmps28
  go_wp2
  go_loopw [7] (fun i wr => ∃ j : Nat, a + 1 ≤ j ∧ j < a + n ∧ i = .int .i64 ((j : Int) + 1) ∧ Below w.heap.size w wr) (fun i _ => a + n + 1 - (intOf i).toNat)
  case atStart => exact ⟨a + 1, by omega, by omega, by go_num, Below.refl _ _⟩
  case round =>
    obtain ⟨j, hj1, hj2, rfl, hbw⟩ := hrel
    have hjs : j < s.size := by omega
    have i1 : (j : Int) + 1 ≤ s.size := by omega
    have hwr : IntKind.i64.wrap (j : Int) = (j : Int) := by rw [IntKind.wrap_i64]; omega
    have hzw := hbw.size
    by_cases hj : j + 1 < a + n
    · obtain ⟨e, he⟩ := HNO.out j (by omega) hj
      obtain ⟨c, p⟩ := e
      have HE : Hid (unqSpec (s.extract a (j + 1)).data.toList = .error (c, p)) := he
      clear he
      by_cases h34 : (s[j]'hjs).toNat = 34
      · have q34 : (((s[j]'hjs).toNat : Int) == 34) = true := by rw [h34]; rfl
        clear h34
        go_wp2_with fail
        refine (unqS_wrong _ _ (by simp; omega) c p HE.out).mono ?_
        rintro r w2 ⟨b, rfl, hb2⟩
        go_wp2_with fail
        exact ⟨⟨j + 1, by omega, by omega, by go_num, hbw.trans (hb2.mono hzw)⟩, by simp [intOf]; omega⟩
      · have q34 : (((s[j]'hjs).toNat : Int) == 34) = false := beq_of_ne h34
        clear h34
        go_wp2_with fail
        exact ⟨⟨j + 1, by omega, by omega, by go_num, hbw⟩, by simp [intOf]; omega⟩
    · have hjn : a + n = j + 1 := by omega
      have q34 : (((s[j]'hjs).toNat : Int) == 34) = true := by
        have := H34.out (by omega)
        simp only [show a + n - 1 = j by omega] at this
        rw [this]; rfl
      have HE : Hid (unqSpec (s.extract a (j + 1)).data.toList = .ok t) := by show _ = _; rw [← hjn]; exact HOK.out
      have HJN : Hid (a + n = j + 1) := hjn
      clear hjn
      go_wp2_with fail
      refine (unqS_ok _ _ (by simp; omega) t HE.out).mono ?_
      rintro r w2 ⟨rfl, hb2⟩
      go_wp2_with fail
      go_ret
      have := HJN.out
      exact ⟨by go_num, hbw.trans (hb2.mono hzw)⟩
end Go.Proofs.YtnpiicceafgioaaDoor
