/-
  Every right tree has its writers.
  Print at every tree.
-/
import Derived.Test.YthbnegggohegkaaGreatDoorWj
import Derived.Test.YthbnegggohegkaaGreatDoorWk
import Derived.Test.YthbnegggohegkaaGreatDoorWl
import Derived.Test.YthbnegggohegkaaGreatDoorGs
import Derived.Test.YthbnegggohegkaaGreatDoorScJ
namespace Go.Proofs.YthbnegggohegkaaGreatDoor
open Go.RowKit
theorem chkK_few {F : MT → Nat → Nat → Except (Nat × MT) Nat} (hF : ∀ T rl a b, F T rl a = .ok b → a + 1 ≤ b ∧ a < 20000) (rs : Nat → Nat) : ∀ (xs : List MT) (i a b : Nat), chkK F rs i xs a = .ok b → a + xs.length ≤ b ∧ (xs = [] ∨ a + xs.length ≤ 20000)
  | [], i, a, b, h => by
    rw [chkK] at h
    obtain rfl : a = b := by simpa using h
    exact ⟨by simp, .inl rfl⟩
  | x :: xs, i, a, b, h => by
    rw [chkK] at h
    cases hx : F x (rs i) a with
    | error e => rw [hx] at h; cases h
    | ok c =>
      rw [hx] at h
      obtain ⟨h1, h2⟩ := hF _ _ _ _ hx
      obtain ⟨h3, h4⟩ := chkK_few hF rs xs (i + 1) c b h
      refine ⟨by simp only [List.length_cons]; omega, .inr ?_⟩
      simp only [List.length_cons]
      rcases h4 with rfl | h4
      · simp; omega
      · omega
theorem chk_few : ∀ (f : Nat) (T : MT) (rl a b : Nat), chk f T rl a = .ok b → a + 1 ≤ b ∧ a < 20000
  | 0, T, rl, a, b, h => absurd h (chk_zero T rl a b)
  | f + 1, T, rl, a, b, h => by
    obtain ⟨h1, h2⟩ := (chk_ok f T rl a b).1 h
    have h3 := ((nf_zero T rl a).1 h1).1
    have h4 := (chkK_few (chk_few f) _ _ _ _ _ h2).1
    exact ⟨by omega, h3⟩
theorem nameLen {s : Bytes} (h : nameB s = true) : s.length ≤ 40 ∧ s ≠ [] := by
  unfold nameB isName at h
  simp only [Bool.and_eq_true, decide_eq_true_eq] at h
  exact ⟨h.1.1.1.1.2, h.1.1.1.1.1⟩
theorem memLen {s : Bytes} {l : List Bytes} {m : Nat} (h : l.contains s = true) (hl : ∀ x ∈ l, x.length ≤ m) : s.length ≤ m := hl s (by simpa using h)
theorem wordsLen (rl : Nat) : ∀ x ∈ wordsN rl, x.length ≤ 5 := by
  unfold wordsN
  repeat' split
  all_goals decide
theorem tokLen {s : Bytes} {k : Nat} (h : tokB s k = true) : s.length ≤ 60000 := by
  unfold tokB scanSpec at h
  by_cases hc : 60000 < s.length
  · rw [if_pos hc] at h; cases h
  · omega
theorem textLen {k : Int} {s : Bytes} {rl : Nat} (h : textB k s rl = true) : s.length ≤ 65536 := by
  unfold textB at h
  repeat' split at h
  · have := nameLen h; omega
  · rcases Bool.or_eq_true _ _ ▸ h with h | h
    · simp at h; rw [h]; simp
    · have := nameLen h; omega
  · rcases Bool.or_eq_true _ _ ▸ h with h | h
    · have := nameLen h; omega
    · have := memLen h (wordsLen rl); omega
  · rcases Bool.or_eq_true _ _ ▸ h with h | h
    · simp at h; rw [h.2]; simp
    · simp only [Bool.and_eq_true] at h; have := nameLen h.2; omega
  · have := memLen h (m := 3) (by decide); omega
  · simp at h; rcases h with h | h <;> rw [h] <;> simp
  · have := tokLen h; omega
  · have := tokLen h; omega
  · simpa using h
  · simp only [Bool.and_eq_true] at h; have := memLen h.1 (m := 1) (by decide); omega
  · have := memLen h (m := 2) (by decide); omega
  · simp at h; rw [h]; simp
theorem nonemptyOf {t : ByteArray} (h : t.data.toList ≠ []) : t.toList.isEmpty = false := by
  rw [ByteArray.toList_eq]
  simpa using h
theorem kp_of (f : Nat) (IH : ∀ T rl a b, chk f T rl a = .ok b → PP f rl T) (T : MT) (rl a b : Nat) (h : chkK (chk f) (rolesOf T rl) 0 T.kids a = .ok b) : KP f (shOf T.kind T.kids rl) T.kids := by
  intro i hi
  obtain ⟨a1, b1, e⟩ := chkK_mem (chk f) (rolesOf T rl) T.kids 0 a b h i T.kids[i] (List.getElem?_eq_getElem hi)
  rw [Nat.zero_add] at e
  cases f with
  | zero => exact absurd e (chk_zero _ _ _ _)
  | succ f =>
    unfold rolesOf at e
    by_cases hs : (i : Int) = secDef T.kids 0 0
    · rw [if_pos hs] at e
      have := ((nf_zero _ 1 a1).1 ((chk_ok f _ 1 a1 b1).1 e).1).2.1
      rw [takes_none] at this; cases this
    · rw [if_neg hs] at e
      exact ⟨IH _ _ _ _ e, ((nf_zero _ _ a1).1 ((chk_ok f _ _ a1 b1).1 e).1).2.1⟩
set_option maxRecDepth 20000 in
set_option maxHeartbeats 2000000 in
theorem pp_node (f : Nat) (k : Int) (t : ByteArray) (n a : Int) (p : Option Addr) (c : Nat) (ks : List MT) (rl : Nat) (htk : takesB rl k = true) (htx : textB k t.data.toList rl = true) (hnm : numB k n = true) (hsm : t.size ≤ 65536) (hfew : ks.length ≤ 20000) (hsh : faultSh (shOf k ks rl) ks.length = 0) (hk : KP f (shOf k ks rl) ks) : PP (f + 1) rl (.node k t n a p c ks) := by
  obtain ⟨r1, r2, _⟩ := takes_range htk
  have hal : k = 1 ∨ k = 2 ∨ k = 3 ∨ k = 4 ∨ k = 5 ∨ k = 6 ∨ k = 7 ∨ k = 8 ∨ k = 9 ∨ k = 10 ∨ k = 11 ∨ k = 12 ∨ k = 13 ∨ k = 14 ∨ k = 15 ∨ k = 16 ∨ k = 17 ∨ k = 18 ∨ k = 19 ∨ k = 20 ∨ k = 21 ∨ k = 22 ∨ k = 23 ∨ k = 24 ∨ k = 25 ∨ k = 26 ∨ k = 27 ∨ k = 28 ∨ k = 29 ∨ k = 30 ∨ k = 31 ∨ k = 32 ∨ k = 33 ∨ k = 34 ∨ k = 35 ∨ k = 36 ∨ k = 37 ∨ k = 38 ∨ k = 39 ∨ k = 40 ∨ k = 41 ∨ k = 42 ∨ k = 43 ∨ k = 44 ∨ k = 45 ∨ k = 46 ∨ k = 47 ∨ k = 48 ∨ k = 49 ∨ k = 50 ∨ k = 51 := by omega
  rcases hal with rfl | rfl | rfl | rfl | rfl | rfl | rfl | rfl | rfl | rfl | rfl | rfl | rfl | rfl | rfl | rfl | rfl | rfl | rfl | rfl | rfl | rfl | rfl | rfl | rfl | rfl | rfl | rfl | rfl | rfl | rfl | rfl | rfl | rfl | rfl | rfl | rfl | rfl | rfl | rfl | rfl | rfl | rfl | rfl | rfl | rfl | rfl | rfl | rfl | rfl | rfl
  · exact pp_1 hsm hfew hsh hk
  · exact pp_2 hsm hfew hsh hk
  · exact pp_3 hsm hfew hsh hk
  · exact pp_4 hsm hfew hsh hk
  · exact pp_5 hsm hfew hsh hk
  · exact pp_6 hsm hfew hsh hk
  · exact pp_7 hsm hfew hsh hk
  · exact pp_8 hsm hfew hsh hk
  · exact pp_9 hsm hfew hsh hk
  · exact pp_10 hsm hfew hsh hk
  · have hn : 0 ≤ n ∧ n ≤ 12 := by
      unfold numB at hnm
      simp at hnm
      omega
    exact pp_11 hsm hfew hsh hk hn.1 hn.2
  · exact pp_12 hsm hfew hsh hk
  · exact pp_13 hsm hfew hsh hk
  · exact pp_14 hsm hfew hsh hk
  · exact pp_15 hsm hfew hsh hk
  · exact pp_16 hsm hfew hsh hk
  · exact pp_17 hsm hfew hsh hk
  · exact pp_18 hsm hfew hsh hk
  · exact pp_19 hsm hfew hsh hk
  · exact pp_20 hsm hfew hsh hk
  · exact pp_21 hsm hfew hsh hk
  · exact pp_22 hsm hfew hsh hk
  · exact pp_23 hsm hfew hsh hk
  · exact pp_24 hsm hfew hsh hk
  · exact pp_25 hsm hfew hsh hk
  · exact pp_26 hsm hfew hsh hk
  · rw [sh_27] at hsh hk
    by_cases hr : (rl == 22) = true
    · rw [if_pos hr] at hsh hk; exact pp_27 hsm hfew hsh hk (.inr rfl)
    · rw [if_neg hr] at hsh hk; exact pp_27 hsm hfew hsh hk (.inl rfl)
  · exact pp_28 hsm hfew hsh hk
  · exact pp_29 hsm hfew hsh hk
  · exact pp_30 hsm hfew hsh hk
  · exact pp_31 hsm hfew hsh hk
  · exact pp_32 hsm hfew hsh hk
  · exact pp_33 hsm hfew hsh hk
  · exact pp_34 hsm hfew hsh hk
  · exact pp_35 hsm hfew hsh hk
  · exact pp_36 hsm hfew hsh hk
  · exact pp_37 hsm hfew hsh hk
  · rw [sh_38] at hsh hk
    by_cases h23 : (rl == 23) = true
    · rw [if_pos h23] at hsh hk; exact pp_38b hsm hfew hsh hk
    · rw [if_neg h23] at hsh hk
      by_cases h24 : (rl == 24) = true
      · rw [if_pos h24] at hsh hk; exact pp_38t hsm hfew hsh hk (by simpa using h24)
      · rw [if_neg h24] at hsh hk; exact pp_38a hsm hfew hsh hk
  · exact pp_39 hsm hfew hsh hk
  · have e40 : shOf 40 ks rl = if rl == 29 then shEx [18] else shEx [18, 18] := rfl
    rw [e40] at hsh hk
    have x40 : ((rl == 28 && t.data.toList == []) || (rl == 29 && nameB t.data.toList)) = true := htx
    by_cases hr : (rl == 29) = true
    · rw [if_pos hr] at hsh hk
      have hrl : rl = 29 := by simpa using hr
      subst hrl
      have hn : nameB t.data.toList = true := by simpa using x40
      exact pp_40n hsm hfew hsh hk (nonemptyOf (nameLen hn).2)
    · rw [if_neg hr] at hsh hk
      have hf : (rl == 29) = false := by simpa using hr
      rw [hf] at x40
      have hn : t.data.toList = [] := by simp at x40; simpa using x40.2
      exact pp_40p hsm hfew hsh hk (text_eq (l := []) hn)
  · exact pp_41 hsm hfew hsh hk
  · exact pp_42 hsm hfew hsh hk
  · exact pp_43 hsm hfew hsh hk
  · exact pp_44 hsm hfew hsh hk
  · exact pp_45 hsm hfew hsh hk
  · exact pp_46 hsm hfew hsh hk
  · have e47 : shOf 47 ks rl = shEx [18, 19, 19, if noneAt ks 2 then 20 else 19] := rfl
    rw [e47] at hsh hk
    by_cases hn : noneAt ks 2 = true
    · rw [if_pos hn] at hsh hk; exact pp_47 hsm hfew hsh hk (.inr rfl)
    · rw [if_neg hn] at hsh hk; exact pp_47 hsm hfew hsh hk (.inl rfl)
  · exact pp_48 hsm hfew hsh hk
  · exact pp_49 hsm hfew hsh hk
  · exact pp_50 hsm hfew hsh hk
  · exact pp_51 hsm hfew hsh hk

theorem pp_all : ∀ (f : Nat) (T : MT) (rl a b : Nat), chk f T rl a = .ok b → PP f rl T
  | 0, T, rl, a, b, h => absurd h (chk_zero T rl a b)
  | f + 1, T, rl, a, b, h => by
    obtain ⟨h1, h2⟩ := (chk_ok f T rl a b).1 h
    obtain ⟨n1, n2, n3, n4, n5⟩ := (nf_zero T rl a).1 h1
    have hkp := kp_of f (pp_all f) T rl (a + 1) b h2
    have hfw := (chkK_few (chk_few f) _ _ _ _ _ h2).2
    obtain ⟨k, t, n, at_, p, c, ks⟩ := T
    refine pp_node f k t n at_ p c ks rl n2 n3 n4 ?_ ?_ n5 hkp
    · have e1 : t.data.toList.length = t.size := by simp
      rw [← e1]; exact textLen n3
    · have hfw : ks = [] ∨ a + 1 + ks.length ≤ 20000 := hfw
      rcases hfw with rfl | hfw
      · simp
      · omega
end Go.Proofs.YthbnegggohegkaaGreatDoor
namespace Go.Proofs.YthbnegggohegkaaGreatDoor
open Go.RowKit
/-- What Print answers where there is nothing wrong with the tree. -/
def PrintP (w : World) (out : List UInt8) (e : Ending) (w' : World) : Prop :=
  (out.length ≤ 60000 ∧ e = .returned (.tuple #[.string ⟨out.toArray⟩, .nilIface])) ∨
  (60000 < out.length ∧ ∃ B, e = .returned (.tuple #[.string ⟨#[]⟩, .iface 67 (.pointer (some ⟨B, 0, none⟩))]) ∧ w.heap.size ≤ B ∧ w'.heap[B]? = some (.cells #[.int .i64 13, .int .i64 0, .string ⟨#[]⟩] 28 (0, 0)))
set_option maxRecDepth 100000 in
set_option maxHeartbeats 4000000 in
theorem print_wrong {gw ow gs os : Nat} (t : MT) (w : World) (ht : TabsAt gw ow gs os w) (hin : t.In w.heap.size w) (code : Nat) (x : MT) (h : rightSpec t = .error (code, x)) :
    Calls Tryz.prog 26 #[nodeV t] w fun e w' => (∃ B, e = .returned (.tuple #[.string ⟨#[]⟩, .iface 67 (.pointer (some ⟨B, 0, none⟩))]) ∧ w'.heap[B]? = some (.cells #[.int .i64 (code : Nat), .int .i64 x.at_, .string (toldName x.text)] 28 (0, 0))) ∧ Below w.heap.size w w' := by
  have hb1 := below1 w (nodeO t)
  have HR : Hid (Calls Tryz.prog 13 #[nodeV t] (w.alloc (nodeO t)) (RightP (w.alloc (nodeO t)) (.error (code, x)))) := by rw [← h]; exact right_any t (w.alloc (nodeO t)) (ht.below (Nat.le_refl _) hb1) (MT.In.mono (by simp) t (MT.In.below hb1 t hin))
  have HB1 : Hid _ := hb1
  clear hb1 hin h
  go_enter Tryz.func26, Tryz.ntmps26
  go_wp2_with fail
  refine Calls.mono HR.out ?_
  rintro e w2 ⟨hb2, B, rfl, hB, hrow⟩
  have HE : Hid (w2.heap[B]? = some (.cells #[.int .i64 (code : Nat), .int .i64 x.at_, .string (toldName x.text)] 28 (0, 0)) ∧ Below w.heap.size w w2) := ⟨hrow, HB1.out.trans (hb2.mono (by simp))⟩
  clear hb2 hB hrow
  go_wp2_with fail
  go_ret2
  exact ⟨⟨B, rfl, HE.out.1⟩, HE.out.2⟩
theorem own_not24 (t : MT) : ownR t ≠ 24 := by
  unfold ownR
  repeat' split
  all_goals decide
set_option maxRecDepth 100000 in
set_option maxHeartbeats 4000000 in
theorem print_walk {gw ow gs os : Nat} (x : MT) (g : PS → PS) (hg : ∀ pb base, pb < base → Wf 41 pb base 0 x g) (w : World) (ht : TabsAt gw ow gs os w) (hin : x.In w.heap.size w) (b : Nat) (h : rightSpec x = .ok b) :
    Calls Tryz.prog 26 #[nodeV x] w fun e w' => PrintP w (g ⟨[], 0, false⟩).bs e w' ∧ Below w.heap.size w w' := by
  have hb1 := below1 w (nodeO x)
  have HR : Hid (Calls Tryz.prog 13 #[nodeV x] (w.alloc (nodeO x)) (RightP (w.alloc (nodeO x)) (.ok b))) := by rw [← h]; exact right_any x (w.alloc (nodeO x)) (ht.below (Nat.le_refl _) hb1) (MT.In.mono (by simp) x (MT.In.below hb1 x hin))
  have HB1 : Hid (Below w.heap.size w (w.alloc (nodeO x))) := hb1
  have HIN : Hid _ := hin
  have HG : Hid _ := hg
  have HX1 : Hid (BoxAt (w.alloc (nodeO x)) w.heap.size x) := BoxAt.new w x
  clear hb1 hin h hg
  go_enter Tryz.func26, Tryz.ntmps26
  go_wp2_with fail
  refine Calls.mono HR.out ?_
  rintro e w2 ⟨hb2, rfl⟩
  have hz2 := hb2.size
  simp only [World.size_alloc] at hz2
  have hB2 : Below w.heap.size w w2 := HB1.out.trans (hb2.mono (by simp))
  have hb3 := below1 w2 (.cells #[.slice none 0 0, .int .i64 0, .bool false] 84)
  have hP3 : Pr2 w2.heap.size (w2.heap.size + 1) ⟨[], 0, false⟩ (.slice none 0 0) (w2.alloc (.cells #[.slice none 0 0, .int .i64 0, .bool false] 84)) := ⟨heap_alloc_new w2 _, World.ownsRow_nil _ _ _ _, by simp⟩
  have hin3 := MT.In.mono (B' := w2.heap.size) (by omega) _ (MT.In.below (hB2.trans (hb3.mono (by omega))) _ HIN.out)
  obtain ⟨k0, k1, k2, k3, k4⟩ : BoxAt (w2.alloc (.cells #[.slice none 0 0, .int .i64 0, .bool false] 84)) w.heap.size x := (HX1.out.below (by simp) hb2).below (by omega) hb3
  have HP3 : Hid _ := hP3
  have HI3 : Hid _ := hin3
  have HB3 : Hid (Below w.heap.size w (w2.alloc (.cells #[.slice none 0 0, .int .i64 0, .bool false] 84))) := hB2.trans (hb3.mono (by omega))
  have HB2 : Hid (Below w.heap.size w w2) := hB2
  clear hP3 hin3 hB2 hb3 hb2
  go_wp2_with fail
  refine (HG.out w2.heap.size (w2.heap.size + 1) (by omega) ⟨[], 0, false⟩ _ _ (Nat.le_refl _) HP3.out (by simp) HI3.out).mono ?_
  rintro e w4 ⟨⟨u, rfl⟩, v4, hP4, _, hK4⟩
  have hB4 : Below w.heap.size w w4 := HB3.out.trans (hK4.below (by omega) (by omega))
  have hz4 : w2.heap.size + 1 ≤ w4.heap.size := by have := hK4.size; simpa using this
  obtain ⟨S, hSS⟩ : ∃ S, S = g ⟨[], 0, false⟩ := ⟨_, rfl⟩
  rw [← hSS] at hP4
  have HSS : Hid (S = g ⟨[], 0, false⟩) := hSS
  clear hSS
  have HP4 : Hid _ := hP4
  obtain ⟨q, cap, rfl⟩ := hP4.form
  have c0 := hP4.c0
  have hcv := conv_own hP4.own
  have HB4 : Hid _ := hB4
  clear hK4 k0 k1 k2 k3 k4 hP4 hB4
  by_cases hf : S.bs.length ≤ 60000
  · have HF : Hid (S.bs.length ≤ 60000) := hf
    go_wp2_with (first | (go_at_call 42; refine (full_any HP4.out false (by simpa using hf)).mono ?_; rintro e w5 ⟨rfl, rfl⟩))
    go_ret2
    rw [← HSS.out]
    exact ⟨.inl ⟨HF.out, rfl⟩, HB4.out⟩
  · have HF : Hid (60000 < S.bs.length) := Nat.lt_of_not_le hf
    go_wp2_with (first | (go_at_call 42; refine (full_any HP4.out true (by simpa using hf)).mono ?_; rintro e w5 ⟨rfl, rfl⟩))
    go_ret2
    rw [← HSS.out]
    refine ⟨.inr ⟨HF.out, _, rfl, ?_, heap_alloc_new _ _⟩, HB4.out.alloc (by have := HB4.out.size; omega) _⟩
    have := HB4.out.size
    omega
/-- Trees that are alike are printed alike. -/
theorem print_right (T : MT) (b : Nat) (h : rightSpec T = .ok b) : ∃ out : List UInt8, ∀ {gw ow gs os : Nat} (x : MT) (b' : Nat), Lk 60 T x → rightSpec x = .ok b' → ∀ (w : World), TabsAt gw ow gs os w → x.In w.heap.size w →
    Calls Tryz.prog 26 #[nodeV x] w fun e w' => PrintP w out e w' ∧ Below w.heap.size w w' := by
  obtain ⟨g, hg⟩ := (pp_all 60 T (ownR T) 0 b h).own (own_not24 T)
  exact ⟨(g ⟨[], 0, false⟩).bs, fun x b' hl hx w ht hin => print_walk x g (fun pb base hpb => hg 0 pb base (by omega) hpb x hl) w ht hin b' hx⟩
end Go.Proofs.YthbnegggohegkaaGreatDoor
