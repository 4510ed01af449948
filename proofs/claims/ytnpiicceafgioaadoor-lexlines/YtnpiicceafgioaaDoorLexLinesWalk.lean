/-
  The walk of the law LexLines: it answers true at every two texts, in every memory that holds the two tables.
-/
import Derived.Test.YtnpiicceafgioaaDoorLn
import Derived.Test.YtnpiicceafgioaaDoorP
namespace Go.Proofs.YtnpiicceafgioaaDoor
open Go.RowKit

theorem scan_ok_form {gw ow gs os : Nat} (s : ByteArray) (w : World) (ht : TabsAt gw ow gs os w) (ts : List Tok) (h : scanSpec s.data.toList = .ok ts) :
    Calls Tryd.prog 11 #[.string s] w fun e w' => ∃ p cap, e = .returned (.tuple #[.slice p ts.length cap, .nilIface]) ∧ Hid (w'.ownsRow w.heap.size 48 3 (.slice p ts.length cap) ts.length (tokCells ts)) ∧ Below w.heap.size w w' :=
  (scan_any s w ht).mono fun _ _ hr => by
    rw [h] at hr
    cases hr with
    | ok _ v he ho hn hb =>
      rcases ho.2 with ⟨hv, h0⟩ | ⟨g, cap, cur, hv, _⟩
      · subst hv
        refine ⟨none, 0, ?_, ?_, hb⟩
        · rw [h0]; exact he
        · have e : Value.slice none ts.length 0 = Value.slice none 0 0 := by rw [h0]
          show World.ownsRow _ _ _ _ _ _ _
          rw [e]; exact ho
      · subst hv
        exact ⟨_, cap, he, ho, hb⟩
theorem scan_err_form {gw ow gs os : Nat} (s : ByteArray) (w : World) (ht : TabsAt gw ow gs os w) (c p : Nat) (h : scanSpec s.data.toList = .error (c, p)) :
    Calls Tryd.prog 11 #[.string s] w fun e w' => ∃ b, e = .returned (.tuple #[.slice none 0 0, .iface 59 (.pointer (some ⟨b, 0, none⟩))]) ∧ Hid (WrongAt w' b c p) ∧ Below w.heap.size w w' :=
  (scan_any s w ht).mono fun _ _ hr => by
    rw [h] at hr
    cases hr with
    | error _ _ b he hlo hw hb => exact ⟨b, he, hw, hb⟩

/-- Some scan, of whatever outcome: a list and an error, in new memory. -/
theorem scan_some {gw ow gs os : Nat} (s : ByteArray) (w : World) (ht : TabsAt gw ow gs os w) :
    Calls Tryd.prog 11 #[.string s] w fun e w' => ∃ v x, e = .returned (.tuple #[v, x]) ∧ Below w.heap.size w w' :=
  (scan_any s w ht).mono fun _ _ hr => by
    generalize scanSpec s.data.toList = y at hr
    cases hr with
    | ok _ v he ho hn hb => exact ⟨v, _, he, hb⟩
    | error _ _ b he hlo hw hb => exact ⟨_, _, he, hb⟩

theorem join_list (s t : ByteArray) : (s ++ (⟨#[10]⟩ : ByteArray) ++ t).data.toList = s.data.toList ++ 10 :: t.data.toList := by simp

theorem tokCells_get (ts : List Tok) (j : Nat) (i : Nat) (hi : i < 3) : (tokCells ts)[j * 3 + i]? = (ts[j]?).bind fun t => (tokCell t)[i]? := by
  induction ts generalizing j with
  | nil => simp [tokCells]
  | cons t ts ih =>
    have hc : (tokCell t).length = 3 := rfl
    rw [tokCells, List.flatMap_cons]
    cases j with
    | zero => rw [List.getElem?_append_left (by rw [hc]; omega)]; simp
    | succ j =>
      rw [List.getElem?_append_right (by rw [hc]; omega), hc, show (j + 1) * 3 + i - 3 = j * 3 + i by omega]
      have := ih j
      rw [tokCells] at this
      rw [this]
      simp

set_option maxRecDepth 100000 in
set_option maxHeartbeats 2000000 in
theorem lines_wrong1 {gw ow gs os : Nat} (s t : ByteArray) (w : World) (ht : TabsAt gw ow gs os w) (hlim : s.size + 1 + t.size ≤ 60000) (c p : Nat) (h : scanSpec s.data.toList = .error (c, p)) :
    Calls Tryd.prog 8 #[.string s, .string t] w fun e w' => e = .returned (.bool true) ∧ Below w.heap.size w w' := by
  have HS : Hid (scanSpec s.data.toList = .error (c, p)) := h
  have HJ : Hid (scanSpec (s ++ (⟨#[10]⟩ : ByteArray) ++ t).data.toList = .error (c, p)) := by
    show _ = _
    rw [join_list]; exact lines_first _ _ _ (by simpa using hlim) h
  have hm1 : ((c : Int) != -1) = true := by simp
  clear h
  go_enter Tryd.func8, Tryd.ntmps8
  go_wp2_with fail
  refine (known_any _ ht).mono ?_
  rintro r w1 ⟨rfl, hb1⟩
  have ht1 := ht.below (Nat.le_refl _) hb1
  have hz1 := hb1.size
  go_wp2_with fail
  refine (scan_err_form s _ ht1 c p HS.out).mono ?_
  rintro r w2 ⟨b, rfl, HW2, hb2⟩
  have ht2 := ht1.below (Nat.le_refl _) hb2
  have hz2 := hb2.size
  have HX2 : Hid (Below w.heap.size w w2) := hb1.trans (hb2.mono (by omega))
  have hbl := HW2.out.lt
  clear hb1 hb2 ht1
  go_wp2_with fail
  refine (scan_some t _ ht2).mono ?_
  rintro r w3 ⟨v, x, rfl, hb3⟩
  have ht3 := ht2.below (Nat.le_refl _) hb3
  have hz3 := hb3.size
  have HX3 : Hid (Below w.heap.size w w3) := HX2.out.trans (hb3.mono (by omega))
  have HW3 : Hid (WrongAt w3 b c p) := HW2.out.below (B := w2.heap.size) hbl hb3
  clear hb3 ht2 HX2 HW2
  go_wp2_with fail
  refine (scan_err_form _ _ ht3 c p HJ.out).mono ?_
  rintro r w4 ⟨b', rfl, HV4, hb4⟩
  have hz4 := hb4.size
  have HX4 : Hid (Below w.heap.size w w4) := HX3.out.trans (hb4.mono (by omega))
  have HW4 : Hid (WrongAt w4 b c p) := HW3.out.below (B := w3.heap.size) (by omega) hb4
  have hbl' := HV4.out.lt
  clear hb4 ht3 HX3 HW3
  go_wp2_with fail
  refine (code_wrong _ _ _ _ HW4.out).mono ?_
  rintro r w5 ⟨rfl, hb5⟩
  have hz5 := hb5.size
  have HX5 : Hid (Below w.heap.size w w5) := HX4.out.trans (hb5.mono (by omega))
  have HV5 : Hid (WrongAt w5 b' c p) := HV4.out.below (B := w4.heap.size) hbl' hb5
  clear hb5 HX4 HW4 HV4
  go_wp2_with fail
  refine (code_wrong _ _ _ _ HV5.out).mono ?_
  rintro r w6 ⟨rfl, hb6⟩
  have HX6 : Hid (Below w.heap.size w w6) := HX5.out.trans (hb6.mono (by omega))
  clear hb6
  go_wp2
  go_ret
  exact ⟨by first | rfl | simp, HX6.out⟩

set_option maxRecDepth 100000 in
set_option maxHeartbeats 2000000 in
theorem lines_wrong2 {gw ow gs os : Nat} (s t : ByteArray) (w : World) (ht : TabsAt gw ow gs os w) (hlim : s.size + 1 + t.size ≤ 60000) (us : List Tok) (c p : Nat) (h : scanSpec s.data.toList = .ok us) (h2 : scanSpec t.data.toList = .error (c, p)) :
    Calls Tryd.prog 8 #[.string s, .string t] w fun e w' => e = .returned (.bool true) ∧ Below w.heap.size w w' := by
  have HS : Hid (scanSpec s.data.toList = .ok us) := h
  have HT : Hid (scanSpec t.data.toList = .error (c, p)) := h2
  obtain ⟨q, hq⟩ : ∃ q : Nat, q = s.size + 1 + p := ⟨_, rfl⟩
  have HJ : Hid (scanSpec (s ++ (⟨#[10]⟩ : ByteArray) ++ t).data.toList = .error (c, q)) := by
    show _ = _
    rw [join_list, lines_rest _ _ us (by simpa using hlim) h, h2, hq]
    simp [shS]
  have hq1 : (q : Int) = (p : Int) + s.size + 1 := by omega
  have hpl := spec_place t.data.toList c p (by simp; omega) h2
  have hts : t.data.toList.length = t.size := by simp
  rw [hts] at hpl
  clear hts
  have hm1 : ((c : Int) != -1) = true := by simp
  clear h h2 hq
  go_enter Tryd.func8, Tryd.ntmps8
  go_wp2_with fail
  refine (known_any _ ht).mono ?_
  rintro r w1 ⟨rfl, hb1⟩
  have ht1 := ht.below (Nat.le_refl _) hb1
  have hz1 := hb1.size
  go_wp2_with fail
  refine (scan_ok_form s _ ht1 us HS.out).mono ?_
  rintro r w2 ⟨pa, ca, rfl, _, hb2⟩
  have ht2 := ht1.below (Nat.le_refl _) hb2
  have hz2 := hb2.size
  have HX2 : Hid (Below w.heap.size w w2) := hb1.trans (hb2.mono (by omega))
  clear hb1 hb2 ht1
  go_wp2_with fail
  refine (scan_err_form t _ ht2 c p HT.out).mono ?_
  rintro r w3 ⟨b, rfl, HW3, hb3⟩
  have ht3 := ht2.below (Nat.le_refl _) hb3
  have hz3 := hb3.size
  have HX3 : Hid (Below w.heap.size w w3) := HX2.out.trans (hb3.mono (by omega))
  have hbl := HW3.out.lt
  clear hb3 ht2 HX2
  go_wp2_with fail
  refine (scan_err_form _ _ ht3 c q HJ.out).mono ?_
  rintro r w4 ⟨b', rfl, HV4, hb4⟩
  have hz4 := hb4.size
  have HX4 : Hid (Below w.heap.size w w4) := HX3.out.trans (hb4.mono (by omega))
  have HW4 : Hid (WrongAt w4 b c p) := HW3.out.below (B := w3.heap.size) hbl hb4
  have hbl' := HV4.out.lt
  clear hb4 ht3 HX3 HW3
  go_wp2_with fail
  refine (code_nil _).mono ?_
  rintro r w5 ⟨rfl, hw5⟩
  have hw5' := hw5.symm
  subst hw5'
  clear hw5
  go_wp2_with fail
  refine (code_wrong _ _ _ _ HW4.out).mono ?_
  rintro r w5 ⟨rfl, hb5⟩
  have hz5 := hb5.size
  have HX5 : Hid (Below w.heap.size w w5) := HX4.out.trans (hb5.mono (by omega))
  have HV5 : Hid (WrongAt w5 b' c q) := HV4.out.below (B := w4.heap.size) hbl' hb5
  clear hb5 HX4 HW4 HV4
  go_wp2_with fail
  refine (code_wrong _ _ _ _ HV5.out).mono ?_
  rintro r w6 ⟨rfl, hb6⟩
  have HX6 : Hid (Below w.heap.size w w6) := HX5.out.trans (hb6.mono (by omega))
  clear hb6
  go_wp2
  go_ret
  exact ⟨by first | rfl | simp, HX6.out⟩
end Go.Proofs.YtnpiicceafgioaaDoor
