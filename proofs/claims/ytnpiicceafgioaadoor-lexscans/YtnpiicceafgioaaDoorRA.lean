/-
  The walks of the document's own run, above, ends and feed.
-/
import Derived.Test.YtnpiicceafgioaaDoorU
namespace Go.Proofs.YtnpiicceafgioaaDoor
open Go.RowKit

theorem span_is (q : Nat → Bool) (l : Bytes) (n : Nat) (hn : n ≤ l.length) (h : ∀ j, j < n → q (l.getD j 0).toNat = true) (hs : n = l.length ∨ q (l.getD n 0).toNat = false) : spanB q l = n := by
  rcases Nat.lt_trichotomy (spanB q l) n with h1 | h1 | h1
  · have := spanB_next q l (by omega)
    rw [h _ h1] at this; cases this
  · exact h1
  · have := spanB_mem q l n h1
    have h2 := spanB_le q l
    rcases hs with hs | hs
    · omega
    · rw [hs] at this; cases this

set_option maxHeartbeats 1000000 in
theorem refRun_digits (s : ByteArray) (a : Nat) (w : World) (ha : a ≤ s.size) (hlim : s.size ≤ 60000) :
    Calls Tryd.prog 45 #[.string s, .int .i64 a, .bool false] w fun e w' => ∃ n : Nat, e = .returned (.int .i64 n) ∧ a + n ≤ s.size ∧ Hid (n = spanB digitN (s.data.toList.drop a)) ∧ w' = w := by
  obtain ⟨L, hL⟩ : ∃ L, L = s.data.toList.drop a := ⟨_, rfl⟩
  have hLs : L.length = s.size - a := by rw [hL]; simp
  have HB : Hid (∀ k, (h : a + k < s.size) → s[a + k]'h = L.getD k 0) := fun k h => by rw [hL]; exact (getD_at s a k h).symm
  rw [← hL]
  clear hL
  go_enter Tryd.func45, Tryd.ntmps45
  go_wp2
  go_loop [7] (fun i => ∃ k : Nat, a + k ≤ s.size ∧ i = .int .i64 k ∧ Hid (∀ j, j < k → digitN (L.getD j 0).toNat = true)) (fun i => s.size - (intOf i).toNat)
  case atStart => exact ⟨0, by omega, rfl, fun j hj => by omega⟩
  case round =>
    obtain ⟨k, hk, rfl, HA⟩ := hrel
    by_cases hlt : a + k < s.size
    · have HK : Hid (s[a + k]'hlt = L.getD k 0) := HB.out k hlt
      have i1 : (a : Int) + k < s.size := by omega
      cases hd : digitN (s[a + k]'hlt).toNat with
      | true =>
        have HD : Hid (digitN (L.getD k 0).toNat = true) := by show _ = _; rw [← HK.out]; exact hd
        go_wp2_with (go_at_call 43; refine (refDigit_any _ _).mono ?_; rintro r w1 ⟨rfl, rfl⟩)
        go_round
        case rel => exact ⟨k + 1, by omega, by go_num, fun j hj => if e : j = k then by subst e; exact HD.out else HA.out j (by omega)⟩
        case measure => simp [intOf]; omega
      | false =>
        have HD : Hid (digitN (L.getD k 0).toNat = false) := by show _ = _; rw [← HK.out]; exact hd
        go_wp2_with (go_at_call 43; refine (refDigit_any _ _).mono ?_; rintro r w1 ⟨rfl, rfl⟩)
        go_ret
        exact ⟨k, rfl, hk, (span_is digitN L k (by omega) HA.out (.inr HD.out)).symm, rfl⟩
    · go_wp2
      go_ret
      exact ⟨k, rfl, hk, (span_is digitN L k (by omega) HA.out (.inl (by omega))).symm, rfl⟩

set_option maxHeartbeats 1000000 in
theorem refRun_parts (s : ByteArray) (a : Nat) (w : World) (ha : a ≤ s.size) (hlim : s.size ≤ 60000) :
    Calls Tryd.prog 45 #[.string s, .int .i64 a, .bool true] w fun e w' => ∃ n : Nat, e = .returned (.int .i64 n) ∧ a + n ≤ s.size ∧ Hid (n = spanB partN (s.data.toList.drop a)) ∧ w' = w := by
  obtain ⟨L, hL⟩ : ∃ L, L = s.data.toList.drop a := ⟨_, rfl⟩
  have hLs : L.length = s.size - a := by rw [hL]; simp
  have HB : Hid (∀ k, (h : a + k < s.size) → s[a + k]'h = L.getD k 0) := fun k h => by rw [hL]; exact (getD_at s a k h).symm
  rw [← hL]
  clear hL
  go_enter Tryd.func45, Tryd.ntmps45
  go_wp2
  go_loop [7] (fun i => ∃ k : Nat, a + k ≤ s.size ∧ i = .int .i64 k ∧ Hid (∀ j, j < k → partN (L.getD j 0).toNat = true)) (fun i => s.size - (intOf i).toNat)
  case atStart => exact ⟨0, by omega, rfl, fun j hj => by omega⟩
  case round =>
    obtain ⟨k, hk, rfl, HA⟩ := hrel
    by_cases hlt : a + k < s.size
    · have HK : Hid (s[a + k]'hlt = L.getD k 0) := HB.out k hlt
      have i1 : (a : Int) + k < s.size := by omega
      cases hd : digitN (s[a + k]'hlt).toNat with
      | true =>
        have HD : Hid (partN (L.getD k 0).toNat = true) := by show _ = _; rw [← HK.out, partN, hd, Bool.or_true]
        go_wp2_with (go_at_call 43; refine (refDigit_any _ _).mono ?_; rintro r w1 ⟨rfl, rfl⟩)
        go_round
        case rel => exact ⟨k + 1, by omega, by go_num, fun j hj => if e : j = k then by subst e; exact HD.out else HA.out j (by omega)⟩
        case measure => simp [intOf]; omega
      | false =>
        cases hle : letterN (s[a + k]'hlt).toNat with
        | true =>
          have HD : Hid (partN (L.getD k 0).toNat = true) := by show _ = _; rw [← HK.out, partN, hle, Bool.true_or]
          go_wp2_with (first | (go_at_call 43; refine (refDigit_any _ _).mono ?_; rintro r w1 ⟨rfl, rfl⟩) | (go_at_call 42; refine (refLetter_any _ _).mono ?_; rintro r w1 ⟨rfl, rfl⟩))
          go_round
          case rel => exact ⟨k + 1, by omega, by go_num, fun j hj => if e : j = k then by subst e; exact HD.out else HA.out j (by omega)⟩
          case measure => simp [intOf]; omega
        | false =>
          have HD : Hid (partN (L.getD k 0).toNat = false) := by show _ = _; rw [← HK.out, partN, hd, hle]; rfl
          go_wp2_with (first | (go_at_call 43; refine (refDigit_any _ _).mono ?_; rintro r w1 ⟨rfl, rfl⟩) | (go_at_call 42; refine (refLetter_any _ _).mono ?_; rintro r w1 ⟨rfl, rfl⟩))
          go_ret
          exact ⟨k, rfl, hk, (span_is partN L k (by omega) HA.out (.inr HD.out)).symm, rfl⟩
    · go_wp2
      go_ret
      exact ⟨k, rfl, hk, (span_is partN L k (by omega) HA.out (.inl (by omega))).symm, rfl⟩

set_option maxHeartbeats 400000 in
theorem refAbove_is (s : ByteArray) (w : World) :
    Calls Tryd.prog 57 #[.string s] w fun r w' => r = .returned (.bool (!intOk s.data.toList)) ∧ w' = w := by
  have hl : s.data.toList.length = s.size := by simp
  obtain ⟨A, hA⟩ : ∃ A, A = !intOk s.data.toList := ⟨_, rfl⟩
  by_cases h : s.size = 19
  · have hi : ((s.size : Int) == 19) = true := by simp [h]
    have hg : ¬ (19 : Int) < s.size := by omega
    have HV : Hid (A = (!Op.bytesLess s.toList greatest && !(s.toList == greatest))) := by
      show _ = _
      rw [hA, intOk, if_pos (by rw [hl]; exact h), ByteArray.toList_eq, Bool.not_or]
    rw [← hA]
    clear h hA
    go_enter Tryd.func57, Tryd.ntmps57
    go_wp2
    go_ret
    exact ⟨congrArg (fun b => Ending.returned (.bool b)) HV.out.symm, rfl⟩
  · have hi : ((s.size : Int) == 19) = false := by simp; omega
    have HV : Hid (A = decide (19 < s.size)) := by
      show _ = _
      rw [hA, intOk, if_neg (by rw [hl]; exact h), hl, Bool.eq_iff_iff]; simp; omega
    rw [← hA]
    clear hA
    go_enter Tryd.func57, Tryd.ntmps57
    go_wp2
    all_goals go_ret
    all_goals refine ⟨congrArg (fun b => Ending.returned (.bool b)) ?_, rfl⟩
    all_goals (rw [HV.out, Bool.eq_iff_iff]; simp; omega)
theorem refAbove_any (s : ByteArray) (w : World) :
    Calls Tryd.prog 57 #[.string s] w fun r w' => ∃ b : Bool, r = .returned (.bool b) ∧ Hid (b = !intOk s.data.toList) ∧ w' = w :=
  (refAbove_is s w).mono fun _ _ ⟨he, hw⟩ => ⟨_, he, rfl, hw⟩

/-- The words behind which a line may end. -/
def endTab : List Bytes := [[97, 110, 121], [98, 114, 101, 97, 107], [99, 111, 110, 116, 105, 110, 117, 101], [102, 97, 108, 108, 116, 104, 114, 111, 117, 103, 104], [102, 97, 108, 115, 101], [102, 117, 110, 99], [109, 97, 112], [110, 105, 108], [114, 101, 116, 117, 114, 110], [116, 114, 117, 101]]
def endL (k : Nat) : Bytes := endTab.getD k []
def endS (k : Nat) : ByteArray := ⟨(endL k).toArray⟩
theorem endS_toList (k : Nat) : (endS k).toList = endL k := by rw [ByteArray.toList_eq]; rfl
def endVals : List Value := endTab.map fun x => .string ⟨x.toArray⟩
theorem endVals_get (k : Nat) (h : k < 10) : endVals[k]? = some (.string (endS k)) := by
  have : ∀ k, k < 10 → endTab[k]? = some (endL k) := by decide
  rw [endVals, List.getElem?_map, this k h]; rfl
theorem ends_of (l : Bytes) (k : Nat) (hk : k < 10) (h : endL k = l) : wordEnds l = true := by
  subst h
  have : ∀ k, k < 10 → wordEnds (endL k) = true := by decide
  exact this k hk
theorem ends_not (l : Bytes) (h : ∀ k, k < 10 → endL k ≠ l) : wordEnds l = false := by
  unfold wordEnds
  rw [List.any_eq_false]
  intro x hx hc
  have key : ∀ x ∈ wordTab, x.2 = true → ∃ k, k < 10 ∧ endL k = x.1 := by decide
  simp only [Bool.and_eq_true, beq_iff_eq] at hc
  obtain ⟨k, hk, he⟩ := key x hx hc.2
  exact h k hk (he.trans hc.1)

set_option maxHeartbeats 1000000 in
theorem refEnds_any (kind a : Int) (s : ByteArray) (w : World) :
    Calls Tryd.prog 44 #[.agg #[.int .i64 kind, .string s, .int .i64 a]] w fun e w' => e = .returned (.bool (endsB kind s.toList)) ∧ Below w.heap.size w w' := by
  have hb0 : Below w.heap.size w (w.alloc (Obj.cells #[.int .i64 kind, .string s, .int .i64 a] 48)) := (Below.refl _ _).alloc (Nat.le_refl _) _
  have HB : Hid (Below w.heap.size w (w.alloc (Obj.cells #[.int .i64 kind, .string s, .int .i64 a] 48))) := hb0
  clear hb0
  by_cases k3 : kind = 3
  · subst k3
    have HE : Hid (endsB 3 s.toList = wordEnds s.toList) := rfl
    obtain ⟨E, hE⟩ : ∃ E, E = endsB 3 s.toList := ⟨_, rfl⟩
    rw [← hE] at HE ⊢
    clear hE
    go_enter Tryd.func44, Tryd.ntmps44
    go_wp2
    obtain ⟨W, hW⟩ : ∃ W, W = (w.alloc (Obj.cells #[.int .i64 3, .string s, .int .i64 a] 48)).alloc (Obj.cells endVals.toArray 9) := ⟨_, rfl⟩
    have hbW : Below w.heap.size w W := by rw [hW]; exact HB.out.alloc (by simp) _
    have hrow : W.ownsRow w.heap.size 9 1 (.slice (some ⟨w.heap.size + 1, 0, none⟩) 10 10) 10 endVals := by
      rw [hW]
      have := World.ownsRow_lit (base := w.heap.size) (e := 9) (size := 1) (w.alloc (Obj.cells #[.int .i64 3, .string s, .int .i64 a] 48)) endVals.toArray 10 (by simp) (by unfold maxLen; omega) rfl
      simpa using this
    have hc1 : W.cell? ⟨w.heap.size, 1, none⟩ = some (.string s) := by
      rw [hW]; simp
    have HW : Hid (W = (w.alloc (Obj.cells #[.int .i64 3, .string s, .int .i64 a] 48)).alloc (Obj.cells endVals.toArray 9)) := hW
    have e : ((w.alloc (Obj.cells #[.int .i64 3, .string s, .int .i64 a] 48)).alloc (Obj.cells #[.string ⟨#[97, 110, 121]⟩, .string ⟨#[98, 114, 101, 97, 107]⟩, .string ⟨#[99, 111, 110, 116, 105, 110, 117, 101]⟩, .string ⟨#[102, 97, 108, 108, 116, 104, 114, 111, 117, 103, 104]⟩, .string ⟨#[102, 97, 108, 115, 101]⟩, .string ⟨#[102, 117, 110, 99]⟩, .string ⟨#[109, 97, 112]⟩, .string ⟨#[110, 105, 108]⟩, .string ⟨#[114, 101, 116, 117, 114, 110]⟩, .string ⟨#[116, 114, 117, 101]⟩] 9)) = W := hW.symm
    rw [e]
    clear e hW
    go_loopw [4] (fun i wr => ∃ k : Nat, k ≤ 10 ∧ i = .int .i64 k ∧ (∃ nd, wr = W.drewN nd) ∧ Hid (∀ j, j < k → endL j ≠ s.toList)) (fun i _ => 10 - (intOf i).toNat)
    case atStart => exact ⟨0, by omega, rfl, ⟨0, rfl⟩, fun j hj => by omega⟩
    case round =>
      obtain ⟨k, hk, rfl, ⟨nd, rfl⟩, HN⟩ := hrel
      by_cases hlt : k < 10
      · have h1 := (hrow.cellAt k (by omega)).trans (endVals_get k hlt)
        have i1 : (k : Int) < 10 := by omega
        go_wp2_with fail
        go_quiet (fail)
        go_wp2
        · have hq : ((endS k).toList == s.toList) = true := by assumption
          go_ret
          rw [endS_toList] at hq
          exact ⟨congrArg (fun b => Ending.returned (.bool b)) (by rw [HE.out]; exact (ends_of s.toList k hlt (by simpa using hq)).symm), below_drewN (below_drewN hbW _) _⟩
        · have hq : ((endS k).toList == s.toList) = false := by assumption
          rw [endS_toList] at hq
          go_roundw
          case rel => exact ⟨k + 1, by omega, by go_num, ⟨nd + nq, by first | rfl | simp⟩, fun j hj => if e : j = k then by subst e; simpa using hq else HN.out j (by omega)⟩
          case measure => simp [intOf]; omega
      · go_wp2
        go_ret
        exact ⟨congrArg (fun b => Ending.returned (.bool b)) (by rw [HE.out]; exact (ends_not s.toList (fun j hj => HN.out j (by omega))).symm), below_drewN hbW _⟩
  · go_enter Tryd.func44, Tryd.ntmps44
    go_wp2
    all_goals go_ret
    all_goals refine ⟨congrArg (fun b => Ending.returned (.bool b)) ?_, HB.out⟩
    all_goals first | (simp_all [endsB]; done) | (simp_all [endsB, signEnds]; done)
set_option maxHeartbeats 1000000 in
theorem refFeed_any (B : Nat) (v : Value) (ts : List Tok) (a : Nat) (w : World) (hB : B ≤ w.heap.size) (hown : w.ownsRow B 48 3 v ts.length (tokCells ts)) (hn : ts.length ≤ 70000) :
    Calls Tryd.prog 29 #[v, .int .i64 a] w fun e w' => ∃ v', e = .returned v' ∧ w'.ownsRow B 48 3 v' (feed ts a).length (tokCells (feed ts a)) ∧ Below B w w' := by
  obtain ⟨i0, hi, hz0, hz1, hz2⟩ := info_parts info48
  rcases List.eq_nil_or_concat ts with rfl | ⟨init, t, rfl⟩
  · rcases hown.2 with ⟨rfl, _⟩ | ⟨g, cap, cur, rfl, _⟩
    · go_enter Tryd.func29, Tryd.ntmps29
      go_wp2
      go_ret
      exact ⟨_, rfl, hown, Below.refl _ _⟩
    · simp only [List.length_nil] at hown ⊢
      go_enter Tryd.func29, Tryd.ntmps29
      go_wp2
      go_ret
      exact ⟨_, rfl, hown, Below.refl _ _⟩
  · rw [List.concat_eq_append] at hown hn ⊢
    obtain ⟨k, tx, at'⟩ := t
    have c0 : (tokCells (init ++ [(k, tx, at')]))[init.length * 3]? = some (.int .i64 k) := tokCells_last init (k, tx, at') 0
    have c1 : (tokCells (init ++ [(k, tx, at')]))[init.length * 3 + 1]? = some (.string ⟨tx.toArray⟩) := tokCells_last init (k, tx, at') 1
    have c2 : (tokCells (init ++ [(k, tx, at')]))[init.length * 3 + 2]? = some (.int .i64 at') := tokCells_last init (k, tx, at') 2
    have HO : Hid (w.ownsRow B 48 3 v (init ++ [(k, tx, at')]).length (tokCells (init ++ [(k, tx, at')]))) := hown
    have hlen : (init ++ [(k, tx, at')]).length = init.length + 1 := by simp
    rw [hlen] at hown hn
    rcases hown.2 with ⟨_, h0⟩ | ⟨g, cap, cur, rfl, hg, hh, hncap, hcapm, _, _⟩
    · omega
    have d0 := (hown.cellAt (init.length * 3) (by omega)).trans c0
    have d1 := (hown.cellAt (init.length * 3 + 1) (by omega)).trans c1
    have d2 := (hown.cellAt (init.length * 3 + 2) (by omega)).trans c2
    have HE : Hid (feed (init ++ [(k, tx, at')]) a = if endsB k tx then init ++ [(k, tx, at')] ++ [(1, [], a)] else init ++ [(k, tx, at')]) := feed_snoc init (k, tx, at') a
    have htx : (ByteArray.mk tx.toArray).toList = tx := by rw [ByteArray.toList_eq]
    have hg0 : (0 : Int) < (init.length : Int) + 1 := by omega
    have hwr : IntKind.i64.wrap (init.length : Int) = (init.length : Int) := by rw [IntKind.wrap_i64]; omega
    have hix1 : (init.length : Int) < (init.length : Int) + 1 := by omega
    have hix0 : (0 : Int) ≤ (init.length : Int) := by omega
    have cs48 : Tryd.prog.cellsOf 48 = 3 := by kernel_rfl
    go_enter Tryd.func29, Tryd.ntmps29
    go_wp2_with (first | (go_at_call 44; refine (refEnds_any _ _ _ _).mono ?_; rintro r w1 ⟨rfl, hb1⟩; have hown1 := ownsRow_below hown hb1; have hB1 : B ≤ w1.heap.size := (by (have := hb1.size; omega))) | (at_builtin; refine wpList_append_own _ rfl _ _ 23 rfl B 48 i0 (.agg #[.int .i64 0, .string ⟨#[]⟩, .int .i64 0]) 3 32 Tryd.underlying23 hi hz0 hz1 hz2 rfl (by decide) _ _ _ rfl (hown1.alloc _) ⟨w1.heap.size, 0, none⟩ 1 1 (tokCell (1, [], a)) rfl rfl (tok_new _ _ _ _) (fun x hx => by simp [tokCell] at hx; rcases hx with rfl | rfl | rfl <;> rfl) (by unfold maxLen; omega) (by omega) (by simp; omega) ?_; intro v' w3 hown3 hgr3 _))
    · have he : endsB k tx = true := by first | assumption | (simp_all; done)
      go_ret
      refine ⟨_, rfl, ?_, Below.grown ((hb1.mono (by omega)).alloc (by omega) _) hgr3 (by simp; omega) (fun j hj => by have := (hown1.lt _ hj).1; omega)⟩
      rw [HE.out, he, if_pos rfl, tokCells_append, tokCells_one, List.length_append, hlen]
      exact hown3
    · have he : endsB k tx = false := by first | assumption | (simp_all; done)
      go_ret
      refine ⟨_, rfl, ?_, hb1.mono (by omega)⟩
      rw [HE.out, he]
      have := ownsRow_below HO.out hb1
      exact this
end Go.Proofs.YtnpiicceafgioaaDoor
