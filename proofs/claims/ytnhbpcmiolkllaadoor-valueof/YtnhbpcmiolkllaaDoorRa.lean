/-
  The document's declared names.
-/
import Derived.Test.YtnhbpcmiolkllaaDoorEdJ
import Derived.Laws.AppendOwn
namespace Go.Proofs.YtnhbpcmiolkllaaDoor
open Go.RowKit
attribute [local go_sem] refold2 cell3_0 cell3_1 b28_0 b28_01

/-- The names that are taken. -/
def names11 : List (List UInt8) := [[98, 111, 111, 108], [105, 110, 116], [102, 108, 111, 97, 116], [116, 101, 120, 116], [108, 105, 115, 116], [109, 97, 112], [102, 117, 110, 99], [97, 110, 121], [110, 105, 108], [115, 116, 114, 117, 99, 116], [112, 111, 105, 110, 116, 101, 114]]
set_option maxRecDepth 100000 in
theorem refOwn_any (w : World) : Calls Tryd.prog 74 #[] w fun r w' => r = .returned (.slice (some ⟨w.heap.size, 0, none⟩) 7 7) ∧ w' = w.alloc (.cells #[.string ⟨#[98, 111, 111, 108]⟩, .string ⟨#[105, 110, 116]⟩, .string ⟨#[102, 108, 111, 97, 116]⟩, .string ⟨#[116, 101, 120, 116]⟩, .string ⟨#[108, 105, 115, 116]⟩, .string ⟨#[109, 97, 112]⟩, .string ⟨#[102, 117, 110, 99]⟩] 9) := by
  go_enter Tryd.func74, Tryd.ntmps74
  go_wp2
  go_ret
  exact ⟨rfl, rfl⟩

/-- Is a byte a letter or a digit? -/
def ldAt (t : ByteArray) (j : Nat) : Bool := isLetter ((t.data[j]?.getD 0).toNat : Int) || isDigit ((t.data[j]?.getD 0).toNat : Int)
def ldUpto (t : ByteArray) : Nat → Bool
  | 0 => true
  | j + 1 => ldUpto t j && ldAt t j
theorem ldUpto_mono (t : ByteArray) : ∀ (m j : Nat), ldUpto t j = false → ldUpto t (j + m) = false
  | 0, _, h => h
  | m + 1, j, h => by
    have := ldUpto_mono t m j h
    show (ldUpto t (j + m) && _) = false
    rw [this]; rfl
theorem letters_ld (t : ByteArray) : ∀ (m j : Nat), 1 ≤ j → (ldUpto t j && lettersFrom t j m) = ldUpto t (j + m)
  | 0, j, _ => by simp [lettersFrom]
  | m + 1, j, h => by
    have e : letterAt t j = ldAt t j := by
      unfold letterAt ldAt
      have : (j != 0) = true := by simp; omega
      rw [this, Bool.true_and]
    have := letters_ld t m (j + 1) (by omega)
    rw [show j + (m + 1) = j + 1 + m by omega, ← this]
    show (ldUpto t j && (letterAt t j && lettersFrom t (j + 1) m)) = ((ldUpto t j && ldAt t j) && lettersFrom t (j + 1) m)
    rw [e, Bool.and_assoc]
theorem bytes_eq (x : List UInt8) : ((⟨x.toArray⟩ : ByteArray).toList) = x := by rw [Lib.toList_data]
/-- declB as the document has it. -/
theorem declB_ref (t : ByteArray) : declB t = (decide (t.size ≠ 0) && decide (t.size ≤ 40) && !isDigit ((t.data[0]?.getD 0).toNat : Int) && ldUpto t t.size && !names11.any (fun x => t.toList == x)) := by
  unfold declB
  by_cases h0 : t.size = 0
  · simp [h0]
  · have hne : ¬ t.toList = [] := fun e => h0 (by rw [Lib.size_eq]; rw [Lib.toList_data] at e; rw [e]; rfl)
    have hne' : t.toList.isEmpty = false := by simpa using hne
    have e1 : (takenB t) = names11.any (fun x => t.toList == x) := by
      unfold takenB names11
      rw [hne']
      simp [Bool.or_assoc]
    have e2 : lettersFrom t 0 t.size = (!isDigit ((t.data[0]?.getD 0).toNat : Int) && ldUpto t t.size) := by
      obtain ⟨m, hm⟩ : ∃ m, t.size = m + 1 := ⟨t.size - 1, by omega⟩
      have h1 := letters_ld t m 1 (Nat.le_refl _)
      rw [hm, show m + 1 = 1 + m by omega, ← h1, show 1 + m = m + 1 by omega]
      show (letterAt t 0 && lettersFrom t 1 m) = (_ && ((true && ldAt t 0) && lettersFrom t 1 m))
      have : letterAt t 0 = (!isDigit ((t.data[0]?.getD 0).toNat : Int) && ldAt t 0) := by
        unfold letterAt ldAt
        have hx : ∀ c : Int, (isLetter c || ((0 : Nat) != 0 && isDigit c)) = (!isDigit c && (isLetter c || isDigit c)) := by
          intro c
          cases hd : isDigit c with
          | false => simp
          | true =>
            have : isLetter c = false := by
              unfold isDigit at hd; unfold isLetter
              simp at hd ⊢
              omega
            rw [this]; rfl
        exact hx _
      rw [this, Bool.true_and, Bool.and_assoc]
    rw [e1, e2]
    generalize decide (t.size ≠ 0) = a
    generalize decide (t.size ≤ 40) = b
    generalize isDigit _ = c
    generalize ldUpto t t.size = d
    generalize names11.any _ = e
    cases a <;> cases b <;> cases c <;> cases d <;> cases e <;> rfl

theorem info9 : (Tryd.prog.info? 9).map (fun i => (i.zero, i.size, i.bytes)) = some (some (.string ⟨#[]⟩), 1, 16) := by kernel_rfl

theorem own_cell {w : World} {base g n cap size : Nat} {e : TypeId} {xs : List Value} (h : w.ownsRow base e size (.slice (some ⟨g, 0, none⟩) n cap) n xs) (j : Nat) (hs1 : size = 1) (v : Value) (hj : xs[j]? = some v) : w.cell? ⟨g, j, none⟩ = some v := by
  subst hs1
  rcases h.2 with ⟨h0, _⟩ | ⟨g', cap', cur, hv, hb, hg, hn, hm, hs, ht⟩
  · cases h0
  · cases hv
    have hjl : j < xs.length := (List.getElem?_eq_some_iff.1 hj).1
    have hc : cur[j]? = some v := by
      rw [← ht] at hj
      rw [List.getElem?_take_of_lt (by rw [h.1] at hjl; exact hjl)] at hj
      simpa using hj
    unfold World.cell?
    rw [hg]
    exact hc
theorem own_form {w : World} {base n size : Nat} {e : TypeId} {xs : List Value} {v : Value} (h : w.ownsRow base e size v n xs) (hn : 0 < n) : ∃ g cap, v = .slice (some ⟨g, 0, none⟩) n cap ∧ base ≤ g ∧ n ≤ cap ∧ cap ≤ maxLen ∧ g < w.heap.size := by
  rcases h.2 with ⟨_, h0⟩ | ⟨g, cap, cur, hv, hb, hg, hc, hm, hs, ht⟩
  · omega
  · exact ⟨g, cap, hv, hb, hc, hm, (Array.getElem?_eq_some_iff.1 hg).1⟩

theorem lit7 (w : World) : (w.alloc (.cells #[.string ⟨#[98, 111, 111, 108]⟩, .string ⟨#[105, 110, 116]⟩, .string ⟨#[102, 108, 111, 97, 116]⟩, .string ⟨#[116, 101, 120, 116]⟩, .string ⟨#[108, 105, 115, 116]⟩, .string ⟨#[109, 97, 112]⟩, .string ⟨#[102, 117, 110, 99]⟩] 9)).ownsRow w.heap.size 9 1 (.slice (some ⟨w.heap.size, 0, none⟩) 7 7) 7 #[.string ⟨#[98, 111, 111, 108]⟩, .string ⟨#[105, 110, 116]⟩, .string ⟨#[102, 108, 111, 97, 116]⟩, .string ⟨#[116, 101, 120, 116]⟩, .string ⟨#[108, 105, 115, 116]⟩, .string ⟨#[109, 97, 112]⟩, .string ⟨#[102, 117, 110, 99]⟩].toList := World.ownsRow_lit (base := w.heap.size) (e := 9) (size := 1) w #[.string ⟨#[98, 111, 111, 108]⟩, .string ⟨#[105, 110, 116]⟩, .string ⟨#[102, 108, 111, 97, 116]⟩, .string ⟨#[116, 101, 120, 116]⟩, .string ⟨#[108, 105, 115, 116]⟩, .string ⟨#[109, 97, 112]⟩, .string ⟨#[102, 117, 110, 99]⟩] 7 (Nat.le_refl _) (by unfold maxLen; omega) rfl

def DeclRel (t : ByteArray) (is0 : Bool) (w : World) (x i : Value) (wr : World) : Prop := ∃ (j : Nat) (b : Bool), j ≤ t.size ∧ i = .int .i64 j ∧ x = .bool b ∧ wr = w ∧ b = (is0 && ldUpto t j)
def DeclRel2 (t : ByteArray) (b : Bool) (x i : Value) : Prop := ∃ (j : Nat) (c : Bool), j ≤ 11 ∧ i = .int .i64 j ∧ x = .bool c ∧ c = (b && !(names11.take j).any (fun x => t.toList == x))
theorem at_add {w : World} {b j : Nat} {v : Value} {o : Option Value} (h : w.cell? ⟨b, j, none⟩ = o) (e : o = some v) : w.cell? ((⟨b, 0, none⟩ : Addr).add j) = some v := by
  have e2 : (⟨b, 0, none⟩ : Addr).add j = ⟨b, j, none⟩ := by unfold Addr.add; split <;> simp_all
  rw [e2, h, e]
def nameB (j : Nat) : ByteArray := ⟨(names11[j]?.getD []).toArray⟩
theorem nameB_list (j : Nat) (hj : j < 11) : (nameB j).toList = names11[j]'hj := by
  unfold nameB
  rw [bytes_eq, List.getElem?_eq_getElem (show j < names11.length from hj)]; rfl
theorem names_get (j : Nat) (hj : j < 11) : (#[.string ⟨#[98, 111, 111, 108]⟩, .string ⟨#[105, 110, 116]⟩, .string ⟨#[102, 108, 111, 97, 116]⟩, .string ⟨#[116, 101, 120, 116]⟩, .string ⟨#[108, 105, 115, 116]⟩, .string ⟨#[109, 97, 112]⟩, .string ⟨#[102, 117, 110, 99]⟩].toList ++ #[.string ⟨#[97, 110, 121]⟩, .string ⟨#[110, 105, 108]⟩, .string ⟨#[115, 116, 114, 117, 99, 116]⟩, .string ⟨#[112, 111, 105, 110, 116, 101, 114]⟩].toList)[j]? = some (Value.string (nameB j)) := by
  match j, hj with
  | 0, _ => rfl
  | 1, _ => rfl
  | 2, _ => rfl
  | 3, _ => rfl
  | 4, _ => rfl
  | 5, _ => rfl
  | 6, _ => rfl
  | 7, _ => rfl
  | 8, _ => rfl
  | 9, _ => rfl
  | 10, _ => rfl

set_option maxRecDepth 100000 in
set_option maxHeartbeats 4000000 in
theorem refDecl_empty (t : ByteArray) (w : World) (h0 : t.size = 0) : Calls Tryd.prog 65 #[.string t] w fun r w' => r = .returned (.bool (declB t)) ∧ Below w.heap.size w w' := by
  obtain ⟨i0, hi, hz0, hz1, hz2⟩ := info_parts info9
  obtain ⟨fin, hfin⟩ : ∃ fin, fin = declB t := ⟨_, rfl⟩
  rw [← hfin]
  rw [declB_ref] at hfin
  have hsz : (t.size : Int) = 0 := by omega
  have HF : Hid (fin = ((false && ldUpto t t.size) && !names11.any (fun x => t.toList == x))) := by
    show _ = _
    rw [hfin]; simp [h0]
  clear hfin
  have he : t.toList = [] := by
    have e1 := Lib.size_eq t
    rw [Lib.toList_data]
    exact List.eq_nil_of_length_eq_zero (by omega)
  have he' : t.toList.isEmpty = true := by rw [he]; rfl
  go_enter Tryd.func65, Tryd.ntmps65
  go_wp2
  go_loopw [3, 4, 5] (fun x i _ wr => DeclRel t false w x i wr) (fun _ i _ _ => t.size - (intOf i).toNat)
  case atStart => exact ⟨0, false, Nat.zero_le _, rfl, rfl, rfl, rfl⟩
  case round =>
    obtain ⟨j, b, hj, rfl, rfl, hw, hb'⟩ := hrel
    obtain rfl : w = wr := hw.symm
    clear hw
    have hb : Hid (b = (false && ldUpto t j)) := hb'
    clear hb'
    by_cases hgo : j < t.size ∧ b = true
    · obtain ⟨hlt, rfl⟩ := hgo
      have i1 : (j : Int) < t.size := by omega
      have hb' : t.data[j]?.getD 0 = t[j] := by rw [Array.getElem?_eq_getElem (by exact hlt)]; rfl
      have HS : Hid ((false && ldUpto t (j + 1)) = (isLetter (t[j].toNat : Int) || isDigit (t[j].toNat : Int))) := by
        show (false && (ldUpto t j && ldAt t j)) = _
        rw [← Bool.and_assoc, ← hb.out, Bool.true_and, ldAt, hb']
      clear hb'
      go_wp2
      all_goals (refine ⟨⟨j + 1, _, hlt, by go_num, rfl, rfl, ?_⟩, by simp [intOf]; omega⟩; rw [HS.out, isLetter, isDigit, Bool.eq_iff_iff]; generalize (t[j].toNat : Int) = c at *; simp; omega)
    · have HX : Hid (b = (false && ldUpto t t.size)) := by
        show _ = _
        rw [hb.out]
        by_cases hlt : j < t.size
        · have hbf : (false && ldUpto t j) = false := by
            rw [← hb.out]
            cases b with
            | false => rfl
            | true => exact absurd ⟨hlt, rfl⟩ hgo
          rw [hbf]
          rcases (Bool.and_eq_false_iff.1 hbf).symm with h | h
          · have := ldUpto_mono t (t.size - j) j h
            rw [show j + (t.size - j) = t.size by omega] at this
            rw [this, Bool.and_false]
          · rw [h, Bool.false_and]
        · rw [show j = t.size by omega]
      have hstop : ((j : Int) < t.size) → b = false := fun h => by
        cases b with
        | false => rfl
        | true => exact absurd ⟨by omega, rfl⟩ hgo
      clear hgo hb
      by_cases hlt : (j : Int) < t.size
      · exfalso; omega
      · clear hstop
        go_wp2_with (first | (go_at_call 74; refine (refOwn_any _).mono ?_; rintro r w' ⟨rfl, rfl⟩) | (at_builtin; refine wpList_append_own _ rfl _ _ 142 rfl w.heap.size 9 i0 (.string ⟨#[]⟩) 1 16 Tryd.underlying142 hi hz0 hz1 hz2 rfl (by decide) _ 7 #[.string ⟨#[98, 111, 111, 108]⟩, .string ⟨#[105, 110, 116]⟩, .string ⟨#[102, 108, 111, 97, 116]⟩, .string ⟨#[116, 101, 120, 116]⟩, .string ⟨#[108, 105, 115, 116]⟩, .string ⟨#[109, 97, 112]⟩, .string ⟨#[102, 117, 110, 99]⟩].toList rfl ((lit7 w).alloc _) ⟨w.heap.size + 1, 0, none⟩ 4 4 #[.string ⟨#[97, 110, 121]⟩, .string ⟨#[110, 105, 108]⟩, .string ⟨#[115, 116, 114, 117, 99, 116]⟩, .string ⟨#[112, 111, 105, 110, 116, 101, 114]⟩].toList rfl rfl (fun j u hu => at_add (row_at (heap2_1 _ _ _) j) (by rw [Array.getElem?_toList] at hu; exact hu)) (by decide) (by unfold maxLen; omega) (by omega) (by simp; omega) ?_; intro v' w3 hown3 hgr3 _; have HB3 : Hid (Below w.heap.size w w3) := (Below.grown (below2 _ _ _) hgr3 (by simp; omega) (fun j hj => by have := ((lit7 w).lt _ hj).1; omega)); obtain ⟨g, cap, rfl, hg, hcap, hcm, hgl⟩ := own_form hown3 (by omega); have HC : Hid (∀ (j : Nat) (hj : j < 11), w3.cell? ⟨g, j, none⟩ = some (.string (nameB j))) := (fun j hj => own_cell hown3 j rfl _ (names_get j hj)); clear hown3 hgr3; unfold maxLen at hcm))
        go_loop [3, 7] (fun x i => DeclRel2 t b x i) (fun _ i => 11 - (intOf i).toNat)
        case atStart => exact ⟨0, b, by omega, rfl, rfl, by simp⟩
        case round =>
          obtain ⟨j, c, hj, rfl, rfl, hc'⟩ := hrel
          have hc : Hid (c = (b && !(names11.take j).any (fun x => t.toList == x))) := hc'
          clear hc'
          by_cases hlt : j < 11
          · have hcell := HC.out j hlt
            have i1 : (j : Int) < 11 := by omega
            have i2 : (0 : Int) ≤ j := by omega
            have HS : Hid ((b && !(names11.take (j + 1)).any (fun x => t.toList == x)) = (c && !(t.toList == (nameB j).toList))) := by
              show _ = _
              rw [hc.out, List.take_succ_eq_append_getElem (by exact hlt), List.any_append, nameB_list j hlt]
              simp [Bool.and_assoc]
            generalize nameB j = nb at hcell HS
            cases c with
            | false =>
              go_wp2
              all_goals (refine ⟨⟨j + 1, false, by omega, by go_num, rfl, ?_⟩, by simp [intOf]; omega⟩; rw [HS.out]; rfl)
            | true =>
              go_wp2
              all_goals (refine ⟨⟨j + 1, !(t.toList == nb.toList), by omega, by go_num, by simp_all, ?_⟩, by simp [intOf]; omega⟩; rw [HS.out]; rfl)
          · obtain rfl : j = 11 := by omega
            go_wp2
            go_ret
            refine ⟨?_, HB3.out⟩
            rw [HF.out, ← HX.out, hc.out]; rfl

set_option maxRecDepth 100000 in
set_option maxHeartbeats 4000000 in
theorem refDecl_long (t : ByteArray) (w : World) (h40 : ¬ t.size ≤ 40) : Calls Tryd.prog 65 #[.string t] w fun r w' => r = .returned (.bool (declB t)) ∧ Below w.heap.size w w' := by
  obtain ⟨i0, hi, hz0, hz1, hz2⟩ := info_parts info9
  obtain ⟨fin, hfin⟩ : ∃ fin, fin = declB t := ⟨_, rfl⟩
  rw [← hfin]
  rw [declB_ref] at hfin
  have h40' : ¬ (t.size : Int) ≤ 40 := by omega
  have hne : ¬ t.toList = [] := fun e => by have : t.size = 0 := (by rw [Lib.size_eq]; rw [Lib.toList_data] at e; rw [e]; rfl); omega
  have hne' : t.toList.isEmpty = false := by simpa using hne
  have HF : Hid (fin = ((false && ldUpto t t.size) && !names11.any (fun x => t.toList == x))) := by
    show _ = _
    rw [hfin]; simp [h40]
  clear hfin
  go_enter Tryd.func65, Tryd.ntmps65
  go_wp2
  go_loopw [3, 4, 5] (fun x i _ wr => DeclRel t false w x i wr) (fun _ i _ _ => t.size - (intOf i).toNat)
  case atStart => exact ⟨0, false, Nat.zero_le _, rfl, rfl, rfl, rfl⟩
  case round =>
    obtain ⟨j, b, hj, rfl, rfl, hw, hb'⟩ := hrel
    obtain rfl : w = wr := hw.symm
    clear hw
    have hb : Hid (b = (false && ldUpto t j)) := hb'
    clear hb'
    by_cases hgo : j < t.size ∧ b = true
    · obtain ⟨hlt, rfl⟩ := hgo
      have i1 : (j : Int) < t.size := by omega
      have hb' : t.data[j]?.getD 0 = t[j] := by rw [Array.getElem?_eq_getElem (by exact hlt)]; rfl
      have HS : Hid ((false && ldUpto t (j + 1)) = (isLetter (t[j].toNat : Int) || isDigit (t[j].toNat : Int))) := by
        show (false && (ldUpto t j && ldAt t j)) = _
        rw [← Bool.and_assoc, ← hb.out, Bool.true_and, ldAt, hb']
      clear hb'
      go_wp2
      all_goals (refine ⟨⟨j + 1, _, hlt, by go_num, rfl, rfl, ?_⟩, by simp [intOf]; omega⟩; rw [HS.out, isLetter, isDigit, Bool.eq_iff_iff]; generalize (t[j].toNat : Int) = c at *; simp; omega)
    · have HX : Hid (b = (false && ldUpto t t.size)) := by
        show _ = _
        rw [hb.out]
        by_cases hlt : j < t.size
        · have hbf : (false && ldUpto t j) = false := by
            rw [← hb.out]
            cases b with
            | false => rfl
            | true => exact absurd ⟨hlt, rfl⟩ hgo
          rw [hbf]
          rcases (Bool.and_eq_false_iff.1 hbf).symm with h | h
          · have := ldUpto_mono t (t.size - j) j h
            rw [show j + (t.size - j) = t.size by omega] at this
            rw [this, Bool.and_false]
          · rw [h, Bool.false_and]
        · rw [show j = t.size by omega]
      have hstop : ((j : Int) < t.size) → b = false := fun h => by
        cases b with
        | false => rfl
        | true => exact absurd ⟨by omega, rfl⟩ hgo
      clear hgo hb
      by_cases hlt : (j : Int) < t.size
      · obtain rfl := hstop hlt
        clear hstop
        obtain ⟨b, hbb⟩ : ∃ b, b = false := ⟨_, rfl⟩
        have HX2 : Hid (b = (false && ldUpto t t.size)) := by show _ = _; rw [hbb]; exact HX.out
        have HBB : Hid (b = false) := hbb
        clear hbb HX
        have HX : Hid (b = (false && ldUpto t t.size)) := HX2.out
        clear HX2
        go_wp2_with (first | (go_at_call 74; refine (refOwn_any _).mono ?_; rintro r w' ⟨rfl, rfl⟩) | (at_builtin; refine wpList_append_own _ rfl _ _ 142 rfl w.heap.size 9 i0 (.string ⟨#[]⟩) 1 16 Tryd.underlying142 hi hz0 hz1 hz2 rfl (by decide) _ 7 #[.string ⟨#[98, 111, 111, 108]⟩, .string ⟨#[105, 110, 116]⟩, .string ⟨#[102, 108, 111, 97, 116]⟩, .string ⟨#[116, 101, 120, 116]⟩, .string ⟨#[108, 105, 115, 116]⟩, .string ⟨#[109, 97, 112]⟩, .string ⟨#[102, 117, 110, 99]⟩].toList rfl ((lit7 w).alloc _) ⟨w.heap.size + 1, 0, none⟩ 4 4 #[.string ⟨#[97, 110, 121]⟩, .string ⟨#[110, 105, 108]⟩, .string ⟨#[115, 116, 114, 117, 99, 116]⟩, .string ⟨#[112, 111, 105, 110, 116, 101, 114]⟩].toList rfl rfl (fun j u hu => at_add (row_at (heap2_1 _ _ _) j) (by rw [Array.getElem?_toList] at hu; exact hu)) (by decide) (by unfold maxLen; omega) (by omega) (by simp; omega) ?_; intro v' w3 hown3 hgr3 _; have HB3 : Hid (Below w.heap.size w w3) := (Below.grown (below2 _ _ _) hgr3 (by simp; omega) (fun j hj => by have := ((lit7 w).lt _ hj).1; omega)); obtain ⟨g, cap, rfl, hg, hcap, hcm, hgl⟩ := own_form hown3 (by omega); have HC : Hid (∀ (j : Nat) (hj : j < 11), w3.cell? ⟨g, j, none⟩ = some (.string (nameB j))) := (fun j hj => own_cell hown3 j rfl _ (names_get j hj)); clear hown3 hgr3; unfold maxLen at hcm))
        go_loop [3, 7] (fun x i => DeclRel2 t b x i) (fun _ i => 11 - (intOf i).toNat)
        case atStart => exact ⟨0, b, by omega, rfl, by rw [HBB.out], by simp⟩
        case round =>
          obtain ⟨j, c, hj, rfl, rfl, hc'⟩ := hrel
          have hc : Hid (c = (b && !(names11.take j).any (fun x => t.toList == x))) := hc'
          clear hc'
          by_cases hlt : j < 11
          · have hcell := HC.out j hlt
            have i1 : (j : Int) < 11 := by omega
            have i2 : (0 : Int) ≤ j := by omega
            have HS : Hid ((b && !(names11.take (j + 1)).any (fun x => t.toList == x)) = (c && !(t.toList == (nameB j).toList))) := by
              show _ = _
              rw [hc.out, List.take_succ_eq_append_getElem (by exact hlt), List.any_append, nameB_list j hlt]
              simp [Bool.and_assoc]
            generalize nameB j = nb at hcell HS
            cases c with
            | false =>
              go_wp2
              all_goals (refine ⟨⟨j + 1, false, by omega, by go_num, rfl, ?_⟩, by simp [intOf]; omega⟩; rw [HS.out]; rfl)
            | true =>
              go_wp2
              all_goals (refine ⟨⟨j + 1, !(t.toList == nb.toList), by omega, by go_num, by simp_all, ?_⟩, by simp [intOf]; omega⟩; rw [HS.out]; rfl)
          · obtain rfl : j = 11 := by omega
            go_wp2
            go_ret
            refine ⟨?_, HB3.out⟩
            rw [HF.out, ← HX.out, hc.out]; rfl
      · clear hstop
        go_wp2_with (first | (go_at_call 74; refine (refOwn_any _).mono ?_; rintro r w' ⟨rfl, rfl⟩) | (at_builtin; refine wpList_append_own _ rfl _ _ 142 rfl w.heap.size 9 i0 (.string ⟨#[]⟩) 1 16 Tryd.underlying142 hi hz0 hz1 hz2 rfl (by decide) _ 7 #[.string ⟨#[98, 111, 111, 108]⟩, .string ⟨#[105, 110, 116]⟩, .string ⟨#[102, 108, 111, 97, 116]⟩, .string ⟨#[116, 101, 120, 116]⟩, .string ⟨#[108, 105, 115, 116]⟩, .string ⟨#[109, 97, 112]⟩, .string ⟨#[102, 117, 110, 99]⟩].toList rfl ((lit7 w).alloc _) ⟨w.heap.size + 1, 0, none⟩ 4 4 #[.string ⟨#[97, 110, 121]⟩, .string ⟨#[110, 105, 108]⟩, .string ⟨#[115, 116, 114, 117, 99, 116]⟩, .string ⟨#[112, 111, 105, 110, 116, 101, 114]⟩].toList rfl rfl (fun j u hu => at_add (row_at (heap2_1 _ _ _) j) (by rw [Array.getElem?_toList] at hu; exact hu)) (by decide) (by unfold maxLen; omega) (by omega) (by simp; omega) ?_; intro v' w3 hown3 hgr3 _; have HB3 : Hid (Below w.heap.size w w3) := (Below.grown (below2 _ _ _) hgr3 (by simp; omega) (fun j hj => by have := ((lit7 w).lt _ hj).1; omega)); obtain ⟨g, cap, rfl, hg, hcap, hcm, hgl⟩ := own_form hown3 (by omega); have HC : Hid (∀ (j : Nat) (hj : j < 11), w3.cell? ⟨g, j, none⟩ = some (.string (nameB j))) := (fun j hj => own_cell hown3 j rfl _ (names_get j hj)); clear hown3 hgr3; unfold maxLen at hcm))
        go_loop [3, 7] (fun x i => DeclRel2 t b x i) (fun _ i => 11 - (intOf i).toNat)
        case atStart => exact ⟨0, b, by omega, rfl, rfl, by simp⟩
        case round =>
          obtain ⟨j, c, hj, rfl, rfl, hc'⟩ := hrel
          have hc : Hid (c = (b && !(names11.take j).any (fun x => t.toList == x))) := hc'
          clear hc'
          by_cases hlt : j < 11
          · have hcell := HC.out j hlt
            have i1 : (j : Int) < 11 := by omega
            have i2 : (0 : Int) ≤ j := by omega
            have HS : Hid ((b && !(names11.take (j + 1)).any (fun x => t.toList == x)) = (c && !(t.toList == (nameB j).toList))) := by
              show _ = _
              rw [hc.out, List.take_succ_eq_append_getElem (by exact hlt), List.any_append, nameB_list j hlt]
              simp [Bool.and_assoc]
            generalize nameB j = nb at hcell HS
            cases c with
            | false =>
              go_wp2
              all_goals (refine ⟨⟨j + 1, false, by omega, by go_num, rfl, ?_⟩, by simp [intOf]; omega⟩; rw [HS.out]; rfl)
            | true =>
              go_wp2
              all_goals (refine ⟨⟨j + 1, !(t.toList == nb.toList), by omega, by go_num, by simp_all, ?_⟩, by simp [intOf]; omega⟩; rw [HS.out]; rfl)
          · obtain rfl : j = 11 := by omega
            go_wp2
            go_ret
            refine ⟨?_, HB3.out⟩
            rw [HF.out, ← HX.out, hc.out]; rfl

set_option maxRecDepth 100000 in
set_option maxHeartbeats 4000000 in
theorem refDecl_low (t : ByteArray) (w : World) (h40 : t.size ≤ 40) (hp : 0 < t.size) (hc : (t[0].toNat : Int) < 48) : Calls Tryd.prog 65 #[.string t] w fun r w' => r = .returned (.bool (declB t)) ∧ Below w.heap.size w w' := by
  obtain ⟨i0, hi, hz0, hz1, hz2⟩ := info_parts info9
  obtain ⟨fin, hfin⟩ : ∃ fin, fin = declB t := ⟨_, rfl⟩
  rw [← hfin]
  rw [declB_ref] at hfin
  have h40' : (t.size : Int) ≤ 40 := by omega
  have hne : ¬ t.toList = [] := fun e => by have : t.size = 0 := (by rw [Lib.size_eq]; rw [Lib.toList_data] at e; rw [e]; rfl); omega
  have hne' : t.toList.isEmpty = false := by simpa using hne
  have hpi : (0 : Int) < t.size := by omega
  have hb' : t.data[0]?.getD 0 = t[0] := by rw [Array.getElem?_eq_getElem (by exact hp)]; rfl
  rw [hb'] at hfin
  clear hb'
  have HF : Hid (fin = ((true && ldUpto t t.size) && !names11.any (fun x => t.toList == x))) := by
    show _ = _
    rw [hfin]; have hd : isDigit (t[0].toNat : Int) = false := by unfold isDigit; simp; omega
    rw [hd]; simp [show t.size ≠ 0 by omega, h40]
  clear hfin
  go_enter Tryd.func65, Tryd.ntmps65
  go_wp2
  go_loopw [3, 4, 5] (fun x i _ wr => DeclRel t true w x i wr) (fun _ i _ _ => t.size - (intOf i).toNat)
  case atStart => exact ⟨0, true, Nat.zero_le _, rfl, rfl, rfl, rfl⟩
  case round =>
    obtain ⟨j, b, hj, rfl, rfl, hw, hb'⟩ := hrel
    obtain rfl : w = wr := hw.symm
    clear hw
    have hb : Hid (b = (true && ldUpto t j)) := hb'
    clear hb'
    by_cases hgo : j < t.size ∧ b = true
    · obtain ⟨hlt, rfl⟩ := hgo
      have i1 : (j : Int) < t.size := by omega
      have hb' : t.data[j]?.getD 0 = t[j] := by rw [Array.getElem?_eq_getElem (by exact hlt)]; rfl
      have HS : Hid ((true && ldUpto t (j + 1)) = (isLetter (t[j].toNat : Int) || isDigit (t[j].toNat : Int))) := by
        show (true && (ldUpto t j && ldAt t j)) = _
        rw [← Bool.and_assoc, ← hb.out, Bool.true_and, ldAt, hb']
      clear hb'
      go_wp2
      all_goals (refine ⟨⟨j + 1, _, hlt, by go_num, rfl, rfl, ?_⟩, by simp [intOf]; omega⟩; rw [HS.out, isLetter, isDigit, Bool.eq_iff_iff]; generalize (t[j].toNat : Int) = c at *; simp; omega)
    · have HX : Hid (b = (true && ldUpto t t.size)) := by
        show _ = _
        rw [hb.out]
        by_cases hlt : j < t.size
        · have hbf : (true && ldUpto t j) = false := by
            rw [← hb.out]
            cases b with
            | false => rfl
            | true => exact absurd ⟨hlt, rfl⟩ hgo
          rw [hbf]
          rcases (Bool.and_eq_false_iff.1 hbf).symm with h | h
          · have := ldUpto_mono t (t.size - j) j h
            rw [show j + (t.size - j) = t.size by omega] at this
            rw [this, Bool.and_false]
          · rw [h, Bool.false_and]
        · rw [show j = t.size by omega]
      have hstop : ((j : Int) < t.size) → b = false := fun h => by
        cases b with
        | false => rfl
        | true => exact absurd ⟨by omega, rfl⟩ hgo
      clear hgo hb
      by_cases hlt : (j : Int) < t.size
      · obtain rfl := hstop hlt
        clear hstop
        obtain ⟨b, hbb⟩ : ∃ b, b = false := ⟨_, rfl⟩
        have HX2 : Hid (b = (true && ldUpto t t.size)) := by show _ = _; rw [hbb]; exact HX.out
        have HBB : Hid (b = false) := hbb
        clear hbb HX
        have HX : Hid (b = (true && ldUpto t t.size)) := HX2.out
        clear HX2
        go_wp2_with (first | (go_at_call 74; refine (refOwn_any _).mono ?_; rintro r w' ⟨rfl, rfl⟩) | (at_builtin; refine wpList_append_own _ rfl _ _ 142 rfl w.heap.size 9 i0 (.string ⟨#[]⟩) 1 16 Tryd.underlying142 hi hz0 hz1 hz2 rfl (by decide) _ 7 #[.string ⟨#[98, 111, 111, 108]⟩, .string ⟨#[105, 110, 116]⟩, .string ⟨#[102, 108, 111, 97, 116]⟩, .string ⟨#[116, 101, 120, 116]⟩, .string ⟨#[108, 105, 115, 116]⟩, .string ⟨#[109, 97, 112]⟩, .string ⟨#[102, 117, 110, 99]⟩].toList rfl ((lit7 w).alloc _) ⟨w.heap.size + 1, 0, none⟩ 4 4 #[.string ⟨#[97, 110, 121]⟩, .string ⟨#[110, 105, 108]⟩, .string ⟨#[115, 116, 114, 117, 99, 116]⟩, .string ⟨#[112, 111, 105, 110, 116, 101, 114]⟩].toList rfl rfl (fun j u hu => at_add (row_at (heap2_1 _ _ _) j) (by rw [Array.getElem?_toList] at hu; exact hu)) (by decide) (by unfold maxLen; omega) (by omega) (by simp; omega) ?_; intro v' w3 hown3 hgr3 _; have HB3 : Hid (Below w.heap.size w w3) := (Below.grown (below2 _ _ _) hgr3 (by simp; omega) (fun j hj => by have := ((lit7 w).lt _ hj).1; omega)); obtain ⟨g, cap, rfl, hg, hcap, hcm, hgl⟩ := own_form hown3 (by omega); have HC : Hid (∀ (j : Nat) (hj : j < 11), w3.cell? ⟨g, j, none⟩ = some (.string (nameB j))) := (fun j hj => own_cell hown3 j rfl _ (names_get j hj)); clear hown3 hgr3; unfold maxLen at hcm))
        go_loop [3, 7] (fun x i => DeclRel2 t b x i) (fun _ i => 11 - (intOf i).toNat)
        case atStart => exact ⟨0, b, by omega, rfl, by rw [HBB.out], by simp⟩
        case round =>
          obtain ⟨j, c, hj, rfl, rfl, hc'⟩ := hrel
          have hc : Hid (c = (b && !(names11.take j).any (fun x => t.toList == x))) := hc'
          clear hc'
          by_cases hlt : j < 11
          · have hcell := HC.out j hlt
            have i1 : (j : Int) < 11 := by omega
            have i2 : (0 : Int) ≤ j := by omega
            have HS : Hid ((b && !(names11.take (j + 1)).any (fun x => t.toList == x)) = (c && !(t.toList == (nameB j).toList))) := by
              show _ = _
              rw [hc.out, List.take_succ_eq_append_getElem (by exact hlt), List.any_append, nameB_list j hlt]
              simp [Bool.and_assoc]
            generalize nameB j = nb at hcell HS
            cases c with
            | false =>
              go_wp2
              all_goals (refine ⟨⟨j + 1, false, by omega, by go_num, rfl, ?_⟩, by simp [intOf]; omega⟩; rw [HS.out]; rfl)
            | true =>
              go_wp2
              all_goals (refine ⟨⟨j + 1, !(t.toList == nb.toList), by omega, by go_num, by simp_all, ?_⟩, by simp [intOf]; omega⟩; rw [HS.out]; rfl)
          · obtain rfl : j = 11 := by omega
            go_wp2
            go_ret
            refine ⟨?_, HB3.out⟩
            rw [HF.out, ← HX.out, hc.out]; rfl
      · clear hstop
        go_wp2_with (first | (go_at_call 74; refine (refOwn_any _).mono ?_; rintro r w' ⟨rfl, rfl⟩) | (at_builtin; refine wpList_append_own _ rfl _ _ 142 rfl w.heap.size 9 i0 (.string ⟨#[]⟩) 1 16 Tryd.underlying142 hi hz0 hz1 hz2 rfl (by decide) _ 7 #[.string ⟨#[98, 111, 111, 108]⟩, .string ⟨#[105, 110, 116]⟩, .string ⟨#[102, 108, 111, 97, 116]⟩, .string ⟨#[116, 101, 120, 116]⟩, .string ⟨#[108, 105, 115, 116]⟩, .string ⟨#[109, 97, 112]⟩, .string ⟨#[102, 117, 110, 99]⟩].toList rfl ((lit7 w).alloc _) ⟨w.heap.size + 1, 0, none⟩ 4 4 #[.string ⟨#[97, 110, 121]⟩, .string ⟨#[110, 105, 108]⟩, .string ⟨#[115, 116, 114, 117, 99, 116]⟩, .string ⟨#[112, 111, 105, 110, 116, 101, 114]⟩].toList rfl rfl (fun j u hu => at_add (row_at (heap2_1 _ _ _) j) (by rw [Array.getElem?_toList] at hu; exact hu)) (by decide) (by unfold maxLen; omega) (by omega) (by simp; omega) ?_; intro v' w3 hown3 hgr3 _; have HB3 : Hid (Below w.heap.size w w3) := (Below.grown (below2 _ _ _) hgr3 (by simp; omega) (fun j hj => by have := ((lit7 w).lt _ hj).1; omega)); obtain ⟨g, cap, rfl, hg, hcap, hcm, hgl⟩ := own_form hown3 (by omega); have HC : Hid (∀ (j : Nat) (hj : j < 11), w3.cell? ⟨g, j, none⟩ = some (.string (nameB j))) := (fun j hj => own_cell hown3 j rfl _ (names_get j hj)); clear hown3 hgr3; unfold maxLen at hcm))
        go_loop [3, 7] (fun x i => DeclRel2 t b x i) (fun _ i => 11 - (intOf i).toNat)
        case atStart => exact ⟨0, b, by omega, rfl, rfl, by simp⟩
        case round =>
          obtain ⟨j, c, hj, rfl, rfl, hc'⟩ := hrel
          have hc : Hid (c = (b && !(names11.take j).any (fun x => t.toList == x))) := hc'
          clear hc'
          by_cases hlt : j < 11
          · have hcell := HC.out j hlt
            have i1 : (j : Int) < 11 := by omega
            have i2 : (0 : Int) ≤ j := by omega
            have HS : Hid ((b && !(names11.take (j + 1)).any (fun x => t.toList == x)) = (c && !(t.toList == (nameB j).toList))) := by
              show _ = _
              rw [hc.out, List.take_succ_eq_append_getElem (by exact hlt), List.any_append, nameB_list j hlt]
              simp [Bool.and_assoc]
            generalize nameB j = nb at hcell HS
            cases c with
            | false =>
              go_wp2
              all_goals (refine ⟨⟨j + 1, false, by omega, by go_num, rfl, ?_⟩, by simp [intOf]; omega⟩; rw [HS.out]; rfl)
            | true =>
              go_wp2
              all_goals (refine ⟨⟨j + 1, !(t.toList == nb.toList), by omega, by go_num, by simp_all, ?_⟩, by simp [intOf]; omega⟩; rw [HS.out]; rfl)
          · obtain rfl : j = 11 := by omega
            go_wp2
            go_ret
            refine ⟨?_, HB3.out⟩
            rw [HF.out, ← HX.out, hc.out]; rfl

set_option maxRecDepth 100000 in
set_option maxHeartbeats 4000000 in
theorem refDecl_high (t : ByteArray) (w : World) (h40 : t.size ≤ 40) (hp : 0 < t.size) (hc0 : ¬ (t[0].toNat : Int) < 48) (hc : (57 : Int) < (t[0].toNat : Int)) : Calls Tryd.prog 65 #[.string t] w fun r w' => r = .returned (.bool (declB t)) ∧ Below w.heap.size w w' := by
  obtain ⟨i0, hi, hz0, hz1, hz2⟩ := info_parts info9
  obtain ⟨fin, hfin⟩ : ∃ fin, fin = declB t := ⟨_, rfl⟩
  rw [← hfin]
  rw [declB_ref] at hfin
  have h40' : (t.size : Int) ≤ 40 := by omega
  have hne : ¬ t.toList = [] := fun e => by have : t.size = 0 := (by rw [Lib.size_eq]; rw [Lib.toList_data] at e; rw [e]; rfl); omega
  have hne' : t.toList.isEmpty = false := by simpa using hne
  have hpi : (0 : Int) < t.size := by omega
  have hb' : t.data[0]?.getD 0 = t[0] := by rw [Array.getElem?_eq_getElem (by exact hp)]; rfl
  rw [hb'] at hfin
  clear hb'
  have HF : Hid (fin = ((true && ldUpto t t.size) && !names11.any (fun x => t.toList == x))) := by
    show _ = _
    rw [hfin]; have hd : isDigit (t[0].toNat : Int) = false := by unfold isDigit; simp; omega
    rw [hd]; simp [show t.size ≠ 0 by omega, h40]
  clear hfin
  go_enter Tryd.func65, Tryd.ntmps65
  go_wp2
  go_loopw [3, 4, 5] (fun x i _ wr => DeclRel t true w x i wr) (fun _ i _ _ => t.size - (intOf i).toNat)
  case atStart => exact ⟨0, true, Nat.zero_le _, rfl, by first | rfl | (simp; omega), rfl, rfl⟩
  case round =>
    obtain ⟨j, b, hj, rfl, rfl, hw, hb'⟩ := hrel
    obtain rfl : w = wr := hw.symm
    clear hw
    have hb : Hid (b = (true && ldUpto t j)) := hb'
    clear hb'
    by_cases hgo : j < t.size ∧ b = true
    · obtain ⟨hlt, rfl⟩ := hgo
      have i1 : (j : Int) < t.size := by omega
      have hb' : t.data[j]?.getD 0 = t[j] := by rw [Array.getElem?_eq_getElem (by exact hlt)]; rfl
      have HS : Hid ((true && ldUpto t (j + 1)) = (isLetter (t[j].toNat : Int) || isDigit (t[j].toNat : Int))) := by
        show (true && (ldUpto t j && ldAt t j)) = _
        rw [← Bool.and_assoc, ← hb.out, Bool.true_and, ldAt, hb']
      clear hb'
      go_wp2
      all_goals (refine ⟨⟨j + 1, _, hlt, by go_num, rfl, rfl, ?_⟩, by simp [intOf]; omega⟩; rw [HS.out, isLetter, isDigit, Bool.eq_iff_iff]; generalize (t[j].toNat : Int) = c at *; simp; omega)
    · have HX : Hid (b = (true && ldUpto t t.size)) := by
        show _ = _
        rw [hb.out]
        by_cases hlt : j < t.size
        · have hbf : (true && ldUpto t j) = false := by
            rw [← hb.out]
            cases b with
            | false => rfl
            | true => exact absurd ⟨hlt, rfl⟩ hgo
          rw [hbf]
          rcases (Bool.and_eq_false_iff.1 hbf).symm with h | h
          · have := ldUpto_mono t (t.size - j) j h
            rw [show j + (t.size - j) = t.size by omega] at this
            rw [this, Bool.and_false]
          · rw [h, Bool.false_and]
        · rw [show j = t.size by omega]
      have hstop : ((j : Int) < t.size) → b = false := fun h => by
        cases b with
        | false => rfl
        | true => exact absurd ⟨by omega, rfl⟩ hgo
      clear hgo hb
      by_cases hlt : (j : Int) < t.size
      · obtain rfl := hstop hlt
        clear hstop
        obtain ⟨b, hbb⟩ : ∃ b, b = false := ⟨_, rfl⟩
        have HX2 : Hid (b = (true && ldUpto t t.size)) := by show _ = _; rw [hbb]; exact HX.out
        have HBB : Hid (b = false) := hbb
        clear hbb HX
        have HX : Hid (b = (true && ldUpto t t.size)) := HX2.out
        clear HX2
        go_wp2_with (first | (go_at_call 74; refine (refOwn_any _).mono ?_; rintro r w' ⟨rfl, rfl⟩) | (at_builtin; refine wpList_append_own _ rfl _ _ 142 rfl w.heap.size 9 i0 (.string ⟨#[]⟩) 1 16 Tryd.underlying142 hi hz0 hz1 hz2 rfl (by decide) _ 7 #[.string ⟨#[98, 111, 111, 108]⟩, .string ⟨#[105, 110, 116]⟩, .string ⟨#[102, 108, 111, 97, 116]⟩, .string ⟨#[116, 101, 120, 116]⟩, .string ⟨#[108, 105, 115, 116]⟩, .string ⟨#[109, 97, 112]⟩, .string ⟨#[102, 117, 110, 99]⟩].toList rfl ((lit7 w).alloc _) ⟨w.heap.size + 1, 0, none⟩ 4 4 #[.string ⟨#[97, 110, 121]⟩, .string ⟨#[110, 105, 108]⟩, .string ⟨#[115, 116, 114, 117, 99, 116]⟩, .string ⟨#[112, 111, 105, 110, 116, 101, 114]⟩].toList rfl rfl (fun j u hu => at_add (row_at (heap2_1 _ _ _) j) (by rw [Array.getElem?_toList] at hu; exact hu)) (by decide) (by unfold maxLen; omega) (by omega) (by simp; omega) ?_; intro v' w3 hown3 hgr3 _; have HB3 : Hid (Below w.heap.size w w3) := (Below.grown (below2 _ _ _) hgr3 (by simp; omega) (fun j hj => by have := ((lit7 w).lt _ hj).1; omega)); obtain ⟨g, cap, rfl, hg, hcap, hcm, hgl⟩ := own_form hown3 (by omega); have HC : Hid (∀ (j : Nat) (hj : j < 11), w3.cell? ⟨g, j, none⟩ = some (.string (nameB j))) := (fun j hj => own_cell hown3 j rfl _ (names_get j hj)); clear hown3 hgr3; unfold maxLen at hcm))
        go_loop [3, 7] (fun x i => DeclRel2 t b x i) (fun _ i => 11 - (intOf i).toNat)
        case atStart => exact ⟨0, b, by omega, rfl, by rw [HBB.out], by simp⟩
        case round =>
          obtain ⟨j, c, hj, rfl, rfl, hc'⟩ := hrel
          have hc : Hid (c = (b && !(names11.take j).any (fun x => t.toList == x))) := hc'
          clear hc'
          by_cases hlt : j < 11
          · have hcell := HC.out j hlt
            have i1 : (j : Int) < 11 := by omega
            have i2 : (0 : Int) ≤ j := by omega
            have HS : Hid ((b && !(names11.take (j + 1)).any (fun x => t.toList == x)) = (c && !(t.toList == (nameB j).toList))) := by
              show _ = _
              rw [hc.out, List.take_succ_eq_append_getElem (by exact hlt), List.any_append, nameB_list j hlt]
              simp [Bool.and_assoc]
            generalize nameB j = nb at hcell HS
            cases c with
            | false =>
              go_wp2
              all_goals (refine ⟨⟨j + 1, false, by omega, by go_num, rfl, ?_⟩, by simp [intOf]; omega⟩; rw [HS.out]; rfl)
            | true =>
              go_wp2
              all_goals (refine ⟨⟨j + 1, !(t.toList == nb.toList), by omega, by go_num, by simp_all, ?_⟩, by simp [intOf]; omega⟩; rw [HS.out]; rfl)
          · obtain rfl : j = 11 := by omega
            go_wp2
            go_ret
            refine ⟨?_, HB3.out⟩
            rw [HF.out, ← HX.out, hc.out]; rfl
      · clear hstop
        go_wp2_with (first | (go_at_call 74; refine (refOwn_any _).mono ?_; rintro r w' ⟨rfl, rfl⟩) | (at_builtin; refine wpList_append_own _ rfl _ _ 142 rfl w.heap.size 9 i0 (.string ⟨#[]⟩) 1 16 Tryd.underlying142 hi hz0 hz1 hz2 rfl (by decide) _ 7 #[.string ⟨#[98, 111, 111, 108]⟩, .string ⟨#[105, 110, 116]⟩, .string ⟨#[102, 108, 111, 97, 116]⟩, .string ⟨#[116, 101, 120, 116]⟩, .string ⟨#[108, 105, 115, 116]⟩, .string ⟨#[109, 97, 112]⟩, .string ⟨#[102, 117, 110, 99]⟩].toList rfl ((lit7 w).alloc _) ⟨w.heap.size + 1, 0, none⟩ 4 4 #[.string ⟨#[97, 110, 121]⟩, .string ⟨#[110, 105, 108]⟩, .string ⟨#[115, 116, 114, 117, 99, 116]⟩, .string ⟨#[112, 111, 105, 110, 116, 101, 114]⟩].toList rfl rfl (fun j u hu => at_add (row_at (heap2_1 _ _ _) j) (by rw [Array.getElem?_toList] at hu; exact hu)) (by decide) (by unfold maxLen; omega) (by omega) (by simp; omega) ?_; intro v' w3 hown3 hgr3 _; have HB3 : Hid (Below w.heap.size w w3) := (Below.grown (below2 _ _ _) hgr3 (by simp; omega) (fun j hj => by have := ((lit7 w).lt _ hj).1; omega)); obtain ⟨g, cap, rfl, hg, hcap, hcm, hgl⟩ := own_form hown3 (by omega); have HC : Hid (∀ (j : Nat) (hj : j < 11), w3.cell? ⟨g, j, none⟩ = some (.string (nameB j))) := (fun j hj => own_cell hown3 j rfl _ (names_get j hj)); clear hown3 hgr3; unfold maxLen at hcm))
        go_loop [3, 7] (fun x i => DeclRel2 t b x i) (fun _ i => 11 - (intOf i).toNat)
        case atStart => exact ⟨0, b, by omega, rfl, rfl, by simp⟩
        case round =>
          obtain ⟨j, c, hj, rfl, rfl, hc'⟩ := hrel
          have hc : Hid (c = (b && !(names11.take j).any (fun x => t.toList == x))) := hc'
          clear hc'
          by_cases hlt : j < 11
          · have hcell := HC.out j hlt
            have i1 : (j : Int) < 11 := by omega
            have i2 : (0 : Int) ≤ j := by omega
            have HS : Hid ((b && !(names11.take (j + 1)).any (fun x => t.toList == x)) = (c && !(t.toList == (nameB j).toList))) := by
              show _ = _
              rw [hc.out, List.take_succ_eq_append_getElem (by exact hlt), List.any_append, nameB_list j hlt]
              simp [Bool.and_assoc]
            generalize nameB j = nb at hcell HS
            cases c with
            | false =>
              go_wp2
              all_goals (refine ⟨⟨j + 1, false, by omega, by go_num, rfl, ?_⟩, by simp [intOf]; omega⟩; rw [HS.out]; rfl)
            | true =>
              go_wp2
              all_goals (refine ⟨⟨j + 1, !(t.toList == nb.toList), by omega, by go_num, by simp_all, ?_⟩, by simp [intOf]; omega⟩; rw [HS.out]; rfl)
          · obtain rfl : j = 11 := by omega
            go_wp2
            go_ret
            refine ⟨?_, HB3.out⟩
            rw [HF.out, ← HX.out, hc.out]; rfl

set_option maxRecDepth 100000 in
set_option maxHeartbeats 4000000 in
theorem refDecl_digit (t : ByteArray) (w : World) (h40 : t.size ≤ 40) (hp : 0 < t.size) (hc0 : ¬ (t[0].toNat : Int) < 48) (hc : ¬ (57 : Int) < (t[0].toNat : Int)) : Calls Tryd.prog 65 #[.string t] w fun r w' => r = .returned (.bool (declB t)) ∧ Below w.heap.size w w' := by
  obtain ⟨i0, hi, hz0, hz1, hz2⟩ := info_parts info9
  obtain ⟨fin, hfin⟩ : ∃ fin, fin = declB t := ⟨_, rfl⟩
  rw [← hfin]
  rw [declB_ref] at hfin
  have h40' : (t.size : Int) ≤ 40 := by omega
  have hne : ¬ t.toList = [] := fun e => by have : t.size = 0 := (by rw [Lib.size_eq]; rw [Lib.toList_data] at e; rw [e]; rfl); omega
  have hne' : t.toList.isEmpty = false := by simpa using hne
  have hpi : (0 : Int) < t.size := by omega
  have hb' : t.data[0]?.getD 0 = t[0] := by rw [Array.getElem?_eq_getElem (by exact hp)]; rfl
  rw [hb'] at hfin
  clear hb'
  have HF : Hid (fin = ((false && ldUpto t t.size) && !names11.any (fun x => t.toList == x))) := by
    show _ = _
    rw [hfin]; have hd : isDigit (t[0].toNat : Int) = true := by unfold isDigit; simp; omega
    rw [hd]; simp [show t.size ≠ 0 by omega, h40]
  clear hfin
  go_enter Tryd.func65, Tryd.ntmps65
  go_wp2
  go_loopw [3, 4, 5] (fun x i _ wr => DeclRel t false w x i wr) (fun _ i _ _ => t.size - (intOf i).toNat)
  case atStart => exact ⟨0, false, Nat.zero_le _, rfl, by first | rfl | (simp; omega), rfl, rfl⟩
  case round =>
    obtain ⟨j, b, hj, rfl, rfl, hw, hb'⟩ := hrel
    obtain rfl : w = wr := hw.symm
    clear hw
    have hb : Hid (b = (false && ldUpto t j)) := hb'
    clear hb'
    by_cases hgo : j < t.size ∧ b = true
    · obtain ⟨hlt, rfl⟩ := hgo
      have i1 : (j : Int) < t.size := by omega
      have hb' : t.data[j]?.getD 0 = t[j] := by rw [Array.getElem?_eq_getElem (by exact hlt)]; rfl
      have HS : Hid ((false && ldUpto t (j + 1)) = (isLetter (t[j].toNat : Int) || isDigit (t[j].toNat : Int))) := by
        show (false && (ldUpto t j && ldAt t j)) = _
        rw [← Bool.and_assoc, ← hb.out, Bool.true_and, ldAt, hb']
      clear hb'
      go_wp2
      all_goals (refine ⟨⟨j + 1, _, hlt, by go_num, rfl, rfl, ?_⟩, by simp [intOf]; omega⟩; rw [HS.out, isLetter, isDigit, Bool.eq_iff_iff]; generalize (t[j].toNat : Int) = c at *; simp; omega)
    · have HX : Hid (b = (false && ldUpto t t.size)) := by
        show _ = _
        rw [hb.out]
        by_cases hlt : j < t.size
        · have hbf : (false && ldUpto t j) = false := by
            rw [← hb.out]
            cases b with
            | false => rfl
            | true => exact absurd ⟨hlt, rfl⟩ hgo
          rw [hbf]
          rcases (Bool.and_eq_false_iff.1 hbf).symm with h | h
          · have := ldUpto_mono t (t.size - j) j h
            rw [show j + (t.size - j) = t.size by omega] at this
            rw [this, Bool.and_false]
          · rw [h, Bool.false_and]
        · rw [show j = t.size by omega]
      have hstop : ((j : Int) < t.size) → b = false := fun h => by
        cases b with
        | false => rfl
        | true => exact absurd ⟨by omega, rfl⟩ hgo
      clear hgo hb
      by_cases hlt : (j : Int) < t.size
      · obtain rfl := hstop hlt
        clear hstop
        obtain ⟨b, hbb⟩ : ∃ b, b = false := ⟨_, rfl⟩
        have HX2 : Hid (b = (false && ldUpto t t.size)) := by show _ = _; rw [hbb]; exact HX.out
        have HBB : Hid (b = false) := hbb
        clear hbb HX
        have HX : Hid (b = (false && ldUpto t t.size)) := HX2.out
        clear HX2
        go_wp2_with (first | (go_at_call 74; refine (refOwn_any _).mono ?_; rintro r w' ⟨rfl, rfl⟩) | (at_builtin; refine wpList_append_own _ rfl _ _ 142 rfl w.heap.size 9 i0 (.string ⟨#[]⟩) 1 16 Tryd.underlying142 hi hz0 hz1 hz2 rfl (by decide) _ 7 #[.string ⟨#[98, 111, 111, 108]⟩, .string ⟨#[105, 110, 116]⟩, .string ⟨#[102, 108, 111, 97, 116]⟩, .string ⟨#[116, 101, 120, 116]⟩, .string ⟨#[108, 105, 115, 116]⟩, .string ⟨#[109, 97, 112]⟩, .string ⟨#[102, 117, 110, 99]⟩].toList rfl ((lit7 w).alloc _) ⟨w.heap.size + 1, 0, none⟩ 4 4 #[.string ⟨#[97, 110, 121]⟩, .string ⟨#[110, 105, 108]⟩, .string ⟨#[115, 116, 114, 117, 99, 116]⟩, .string ⟨#[112, 111, 105, 110, 116, 101, 114]⟩].toList rfl rfl (fun j u hu => at_add (row_at (heap2_1 _ _ _) j) (by rw [Array.getElem?_toList] at hu; exact hu)) (by decide) (by unfold maxLen; omega) (by omega) (by simp; omega) ?_; intro v' w3 hown3 hgr3 _; have HB3 : Hid (Below w.heap.size w w3) := (Below.grown (below2 _ _ _) hgr3 (by simp; omega) (fun j hj => by have := ((lit7 w).lt _ hj).1; omega)); obtain ⟨g, cap, rfl, hg, hcap, hcm, hgl⟩ := own_form hown3 (by omega); have HC : Hid (∀ (j : Nat) (hj : j < 11), w3.cell? ⟨g, j, none⟩ = some (.string (nameB j))) := (fun j hj => own_cell hown3 j rfl _ (names_get j hj)); clear hown3 hgr3; unfold maxLen at hcm))
        go_loop [3, 7] (fun x i => DeclRel2 t b x i) (fun _ i => 11 - (intOf i).toNat)
        case atStart => exact ⟨0, b, by omega, rfl, by rw [HBB.out], by simp⟩
        case round =>
          obtain ⟨j, c, hj, rfl, rfl, hc'⟩ := hrel
          have hc : Hid (c = (b && !(names11.take j).any (fun x => t.toList == x))) := hc'
          clear hc'
          by_cases hlt : j < 11
          · have hcell := HC.out j hlt
            have i1 : (j : Int) < 11 := by omega
            have i2 : (0 : Int) ≤ j := by omega
            have HS : Hid ((b && !(names11.take (j + 1)).any (fun x => t.toList == x)) = (c && !(t.toList == (nameB j).toList))) := by
              show _ = _
              rw [hc.out, List.take_succ_eq_append_getElem (by exact hlt), List.any_append, nameB_list j hlt]
              simp [Bool.and_assoc]
            generalize nameB j = nb at hcell HS
            cases c with
            | false =>
              go_wp2
              all_goals (refine ⟨⟨j + 1, false, by omega, by go_num, rfl, ?_⟩, by simp [intOf]; omega⟩; rw [HS.out]; rfl)
            | true =>
              go_wp2
              all_goals (refine ⟨⟨j + 1, !(t.toList == nb.toList), by omega, by go_num, by simp_all, ?_⟩, by simp [intOf]; omega⟩; rw [HS.out]; rfl)
          · obtain rfl : j = 11 := by omega
            go_wp2
            go_ret
            refine ⟨?_, HB3.out⟩
            rw [HF.out, ← HX.out, hc.out]; rfl
      · clear hstop
        go_wp2_with (first | (go_at_call 74; refine (refOwn_any _).mono ?_; rintro r w' ⟨rfl, rfl⟩) | (at_builtin; refine wpList_append_own _ rfl _ _ 142 rfl w.heap.size 9 i0 (.string ⟨#[]⟩) 1 16 Tryd.underlying142 hi hz0 hz1 hz2 rfl (by decide) _ 7 #[.string ⟨#[98, 111, 111, 108]⟩, .string ⟨#[105, 110, 116]⟩, .string ⟨#[102, 108, 111, 97, 116]⟩, .string ⟨#[116, 101, 120, 116]⟩, .string ⟨#[108, 105, 115, 116]⟩, .string ⟨#[109, 97, 112]⟩, .string ⟨#[102, 117, 110, 99]⟩].toList rfl ((lit7 w).alloc _) ⟨w.heap.size + 1, 0, none⟩ 4 4 #[.string ⟨#[97, 110, 121]⟩, .string ⟨#[110, 105, 108]⟩, .string ⟨#[115, 116, 114, 117, 99, 116]⟩, .string ⟨#[112, 111, 105, 110, 116, 101, 114]⟩].toList rfl rfl (fun j u hu => at_add (row_at (heap2_1 _ _ _) j) (by rw [Array.getElem?_toList] at hu; exact hu)) (by decide) (by unfold maxLen; omega) (by omega) (by simp; omega) ?_; intro v' w3 hown3 hgr3 _; have HB3 : Hid (Below w.heap.size w w3) := (Below.grown (below2 _ _ _) hgr3 (by simp; omega) (fun j hj => by have := ((lit7 w).lt _ hj).1; omega)); obtain ⟨g, cap, rfl, hg, hcap, hcm, hgl⟩ := own_form hown3 (by omega); have HC : Hid (∀ (j : Nat) (hj : j < 11), w3.cell? ⟨g, j, none⟩ = some (.string (nameB j))) := (fun j hj => own_cell hown3 j rfl _ (names_get j hj)); clear hown3 hgr3; unfold maxLen at hcm))
        go_loop [3, 7] (fun x i => DeclRel2 t b x i) (fun _ i => 11 - (intOf i).toNat)
        case atStart => exact ⟨0, b, by omega, rfl, rfl, by simp⟩
        case round =>
          obtain ⟨j, c, hj, rfl, rfl, hc'⟩ := hrel
          have hc : Hid (c = (b && !(names11.take j).any (fun x => t.toList == x))) := hc'
          clear hc'
          by_cases hlt : j < 11
          · have hcell := HC.out j hlt
            have i1 : (j : Int) < 11 := by omega
            have i2 : (0 : Int) ≤ j := by omega
            have HS : Hid ((b && !(names11.take (j + 1)).any (fun x => t.toList == x)) = (c && !(t.toList == (nameB j).toList))) := by
              show _ = _
              rw [hc.out, List.take_succ_eq_append_getElem (by exact hlt), List.any_append, nameB_list j hlt]
              simp [Bool.and_assoc]
            generalize nameB j = nb at hcell HS
            cases c with
            | false =>
              go_wp2
              all_goals (refine ⟨⟨j + 1, false, by omega, by go_num, rfl, ?_⟩, by simp [intOf]; omega⟩; rw [HS.out]; rfl)
            | true =>
              go_wp2
              all_goals (refine ⟨⟨j + 1, !(t.toList == nb.toList), by omega, by go_num, by simp_all, ?_⟩, by simp [intOf]; omega⟩; rw [HS.out]; rfl)
          · obtain rfl : j = 11 := by omega
            go_wp2
            go_ret
            refine ⟨?_, HB3.out⟩
            rw [HF.out, ← HX.out, hc.out]; rfl

theorem refDeclared_any (t : ByteArray) (w : World) : Calls Tryd.prog 65 #[.string t] w fun r w' => r = .returned (.bool (declB t)) ∧ Below w.heap.size w w' := by
  by_cases h0 : t.size = 0
  · exact refDecl_empty t w h0
  · by_cases h40 : t.size ≤ 40
    · by_cases h1 : (t[0].toNat : Int) < 48
      · exact refDecl_low t w h40 (by omega) h1
      · by_cases h2 : (57 : Int) < (t[0].toNat : Int)
        · exact refDecl_high t w h40 (by omega) h1 h2
        · exact refDecl_digit t w h40 (by omega) h1 h2
    · exact refDecl_long t w h40
end Go.Proofs.YtnhbpcmiolkllaaDoor
