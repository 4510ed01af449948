/-
  The walks of lex.Unquote and lex.Name, and of the law's own function 'code', at every argument.
-/
import Derived.Test.YtnflgijbngcjbabDoorL
namespace Go.Proofs.YtnflgijbngcjbabDoor
open Go.RowKit

theorem scan_any {gw ow gs os : Nat} (s : ByteArray) (w : World) (ht : TabsAt gw ow gs os w) :
    Calls Tryd.prog 5 #[.string s] w fun e w' => ScanRes w w' e (scanSpec s.data.toList) := by
  unfold scanSpec
  by_cases h : 60000 < s.size
  · rw [if_pos (by simpa using h)]; exact scan_long s w h
  · rw [if_neg (by simpa using h)]; exact scan_short s w ht (by omega)

/-- What Unquote hands back. -/
inductive UnqRes (w w' : World) (e : Ending) : Except (Nat × Nat) Bytes → Prop
  | ok (t : Bytes) (he : e = .returned (.tuple #[.string ⟨t.toArray⟩, .nilIface])) (hb : Below w.heap.size w w') : UnqRes w w' e (.ok t)
  | error (c p b : Nat) (he : e = .returned (.tuple #[.string ⟨#[]⟩, .iface 49 (.pointer (some ⟨b, 0, none⟩))])) (hlo : w.heap.size ≤ b) (hw : WrongAt w' b c p) (hb : Below w.heap.size w w') : UnqRes w w' e (.error (c, p))

def unqSpec (l : Bytes) : Except (Nat × Nat) Bytes :=
  if [34].isPrefixOf l then
    match lit l 0 1 [] with
    | .error e => .error e
    | .ok (t, n) => if n < l.length then .error (11, n) else if 65536 < t.length then .error (13, 0) else .ok t
  else .error (11, 0)

theorem quote_at (s : ByteArray) (w : World) :
    Calls Tryd.prog 15 #[.string s, .string ⟨#[34]⟩] w fun e w' => ∃ b : Bool, e = .returned (.bool b) ∧ Hid (b = [34].isPrefixOf s.data.toList) ∧ w' = w :=
  (hasPrefix_any s ⟨#[34]⟩ w).mono fun _ _ ⟨he, hw⟩ => by
    have e2 : (ByteArray.mk #[34]).toList = [34] := by rw [ByteArray.toList_eq]
    rw [ByteArray.toList_eq s, e2] at he
    exact ⟨_, he, rfl, hw⟩

set_option maxHeartbeats 1000000 in
theorem unquote_any (s : ByteArray) (w : World) (hlim : s.size ≤ 70368744177664) :
    Calls Tryd.prog 9 #[.string s] w fun e w' => UnqRes w w' e (unqSpec s.data.toList) := by
  obtain ⟨L, hL⟩ : ∃ L, L = s.data.toList := ⟨_, rfl⟩
  have hLs : L.length = s.size := by rw [hL]; simp
  have HL : Hid (L = s.data.toList) := hL
  rw [← hL]
  clear hL
  cases hq : [34].isPrefixOf L with
  | false =>
    have HSP : Hid (unqSpec L = .error (11, 0)) := by show _ = _; rw [unqSpec, if_neg (by rw [hq]; decide)]
    have HQ : Hid ([34].isPrefixOf L = false) := hq
    clear hq
    go_enter Tryd.func9, Tryd.ntmps9
    go_wp2_with (first | (go_at_call 15; refine (quote_at _ _).mono ?_; rintro r w2 ⟨b, rfl, hb, hw2⟩; have hw2' := hw2.symm; subst hw2'; clear hw2; rw [← HL.out] at hb; have hbt : b = false := hb.out.trans HQ.out; subst hbt) | (go_at_call 13; refine (wrong_at _ _ _).mono ?_; rintro r w2 ⟨b, rfl, hlo, hwr, hb2⟩))
    go_ret2
    rw [HSP.out]
    exact .error 11 0 b rfl hlo hwr hb2
  | true =>
    have hpos : 0 < s.size := by
      rw [List.isPrefixOf_iff_prefix] at hq
      have := hq.length_le
      simp at this
      omega
    have HE : Hid (∀ e, lit L 0 1 [] = .error e → unqSpec L = .error e) := fun e h => by rw [unqSpec, if_pos hq, h]
    have HO : Hid (∀ t n, lit L 0 1 [] = .ok (t, n) → unqSpec L = if n < L.length then .error (11, n) else if 65536 < t.length then .error (13, 0) else .ok t) := fun t n h => by rw [unqSpec, if_pos hq, h]
    have HQ : Hid ([34].isPrefixOf L = true) := hq
    clear hq
    obtain ⟨sp, hsp⟩ : ∃ sp, sp = unqSpec L := ⟨_, rfl⟩
    rw [← hsp] at HE HO ⊢
    clear hsp
    go_enter Tryd.func9, Tryd.ntmps9
    go_wp2_with (go_at_call 15; refine (quote_at _ _).mono ?_; rintro r w2 ⟨b, rfl, hb, hw2⟩; have hw2' := hw2.symm; subst hw2'; clear hw2; rw [← HL.out] at hb; have hbt : b = true := hb.out.trans HQ.out; subst hbt)
    refine (literalAt_any s 0 _ hpos hlim).mono ?_
    intro r w2 hres
    rw [← HL.out] at hres
    generalize hlit : lit L 0 (0 + 1) [] = x at hres
    have HLIT : Hid (lit L 0 1 [] = x) := hlit
    clear hlit
    cases hres with
    | error c p b he hlo hwr hb2 =>
      subst he
      go_wp2
      go_ret2
      rw [HE.out _ HLIT.out]
      exact .error c p b rfl hlo hwr hb2
    | ok t n he hb2 =>
      subst he
      have hsz : (ByteArray.mk t.toArray).size = t.length := by simp [ByteArray.size]
      have hfw := litGo_fwd L 0 _ _ _ _ _ HLIT.out
      go_wp2_with (go_at_call 13; refine (wrong_at _ _ _).mono ?_; rintro r w3 ⟨b, rfl, hlo, hwr, hb3⟩)
      · have h1 : n < s.size := by omega
        go_ret2
        rw [HO.out t n HLIT.out, if_pos (by omega)]
        exact .error 11 n b rfl (by have := hb2.size; omega) hwr (hb2.trans (hb3.mono (by have := hb2.size; omega)))
      · have h1 : ¬ n < L.length := by omega
        have h2 : 65536 < t.length := by simp_all; omega
        go_ret2
        rw [HO.out t n HLIT.out, if_neg h1, if_pos h2]
        exact .error 13 0 b rfl (by have := hb2.size; omega) hwr (hb2.trans (hb3.mono (by have := hb2.size; omega)))
      · have h1 : ¬ n < L.length := by omega
        have h2 : ¬ 65536 < t.length := by simp_all; omega
        go_ret2
        rw [HO.out t n HLIT.out, if_neg h1, if_neg h2]
        exact .ok t rfl hb2

/-- Is a text a name? -/
def isName (l : Bytes) : Bool := decide (l ≠ []) && decide (l.length ≤ 40) && !isWord l && letterN (l.getD 0 0).toNat && decide (spanB partN l = l.length)

theorem first_letter (s : ByteArray) (w : World) (hs : 0 < s.size) :
    Calls Tryd.prog 16 #[.string (s.extract 0 1), .func (.func 20) #[] #[]] w fun e w' => ∃ n : Nat, e = .returned (.int .i64 n) ∧ Hid (n = if letterN (s.data.toList.getD 0 0).toNat then 1 else 0) ∧ Below w.heap.size w w' :=
  (span_letter (s.extract 0 1) w).mono fun _ _ ⟨he, hb⟩ => by
    have e1 : (s.extract 0 1).data.toList = [s.data.toList.getD 0 0] := by
      rw [Lib.extract_data]
      have hl : 0 < s.data.toList.length := by simpa using hs
      cases h : s.data.toList with
      | nil => rw [h] at hl; simp at hl
      | cons b r => simp
    rw [e1] at he
    exact ⟨_, he, by show _ = _; rw [spanB_cons, spanB_nil], hb⟩

theorem part_whole (s : ByteArray) (w : World) :
    Calls Tryd.prog 16 #[.string s, .func (.func 21) #[] #[]] w fun e w' => ∃ n : Nat, e = .returned (.int .i64 n) ∧ Hid (n = spanB partN s.data.toList) ∧ Below w.heap.size w w' :=
  (span_part s w).mono fun _ _ ⟨he, hb⟩ => ⟨_, he, rfl, hb⟩

theorem word_at {gw ow gs os : Nat} (s : ByteArray) (w : World) (ht : TabsAt gw ow gs os w) :
    Calls Tryd.prog 10 #[.string s] w fun e w' => ∃ b : Bool, e = .returned (.bool b) ∧ Hid (b = isWord s.data.toList) ∧ Below w.heap.size w w' :=
  (word_any s w ht).mono fun _ _ ⟨he, hb⟩ => ⟨_, he, by rw [ByteArray.toList_eq]; rfl, hb⟩

set_option maxHeartbeats 1000000 in
theorem name_any {gw ow gs os : Nat} (s : ByteArray) (w : World) (ht : TabsAt gw ow gs os w) :
    Calls Tryd.prog 11 #[.string s] w fun e w' => e = .returned (.bool (isName s.data.toList)) ∧ Below w.heap.size w w' := by
  by_cases h0 : s.size = 0
  · obtain rfl := empty_toList s h0
    go_enter Tryd.func11, Tryd.ntmps11
    go_wp2
    go_ret
    exact ⟨rfl, Below.refl _ _⟩
  have hp : 0 < s.size := by omega
  have hne : s.toList.isEmpty = false := by rw [ByteArray.toList_eq]; cases h : s.data.toList with | nil => exact absurd (by rw [Lib.size_eq, h]; rfl) h0 | cons b r => rfl
  have hnl : s.data.toList ≠ [] := fun h => h0 (by rw [Lib.size_eq, h]; rfl)
  have hls : s.data.toList.length = s.size := by simp
  have HN : Hid (isName s.data.toList = (decide (s.size ≤ 40) && !isWord s.data.toList && letterN (s.data.toList.getD 0 0).toNat && decide (spanB partN s.data.toList = s.size))) := by
    show _ = _; rw [isName, decide_eq_true hnl, hls, Bool.true_and]
  clear hnl hls
  obtain ⟨nm, hnm⟩ : ∃ nm, nm = isName s.data.toList := ⟨_, rfl⟩
  rw [← hnm] at HN ⊢
  clear hnm
  go_enter Tryd.func11, Tryd.ntmps11
  go_wp2_with (go_at_call 10; refine (word_at _ _ ht).mono ?_; rintro r w1 ⟨wd, rfl, hwd, hb1⟩)
  · have hor : (40 : Int) < s.size ∨ wd = true := by assumption
    have hw : wd = true := hor.resolve_left (by omega)
    go_ret
    refine ⟨congrArg (fun b => Ending.returned (.bool b)) ?_, hb1⟩
    rw [HN.out, ← hwd.out, hw]; simp
  · have hand : (s.size : Int) ≤ 40 ∧ wd = false := by assumption
    have hw : wd = false := hand.2
    have h40 : s.size ≤ 40 := by omega
    refine (first_letter s _ hp).mono ?_
    rintro r w2 ⟨n, rfl, hn, hb2⟩
    cases hl : letterN (s.data.toList.getD 0 0).toNat with
    | false =>
      rw [hl] at hn
      have hn0 : n = 0 := hn.out
      subst hn0
      have HLT : Hid (letterN (s.data.toList.getD 0 0).toNat = false) := hl
      clear hl hn
      go_wp2
      go_ret
      refine ⟨congrArg (fun b => Ending.returned (.bool b)) ?_, hb1.trans (hb2.mono (by have := hb1.size; omega))⟩
      rw [HN.out, HLT.out]; simp
    | true =>
      rw [hl] at hn
      have hn0 : n = 1 := hn.out
      subst hn0
      have HLT : Hid (letterN (s.data.toList.getD 0 0).toNat = true) := hl
      clear hl hn
      go_wp2_with (go_at_call 16; refine (part_whole s _).mono ?_; rintro r w3 ⟨m, rfl, hm, hb3⟩)
      go_ret
      have hz1 := hb1.size
      have hz2 := hb2.size
      refine ⟨congrArg (fun b => Ending.returned (.bool b)) ?_, (hb1.trans (hb2.mono (by omega))).trans (hb3.mono (by omega))⟩
      rw [HN.out, HLT.out, ← hwd.out, hw, ← hm.out, decide_eq_true h40]
      rw [Bool.eq_iff_iff]; simp; omega
  · have h40 : ¬ s.size ≤ 40 := by omega
    go_ret
    refine ⟨congrArg (fun b => Ending.returned (.bool b)) ?_, Below.refl _ _⟩
    rw [HN.out, decide_eq_false h40]; simp

/-- The law's 'code' of no error. -/
theorem code_nil (w : World) : Calls Tryd.prog 8 #[.nilIface] w fun e w' => e = .returned (.tuple #[.int .i64 0, .int .i64 0]) ∧ w' = w := by
  go_enter Tryd.func8, Tryd.ntmps8
  go_wp2
  go_ret2
  exact ⟨rfl, rfl⟩

theorem assert_wrong (b : Nat) (w : World) : (Instr.typeAssert (.iface 49 (.pointer (some ⟨b, 0, none⟩))) 26 49 true).run Tryd.prog w = .ok (.tuple #[.pointer (some ⟨b, 0, none⟩), .bool true]) w := by kernel_rfl

set_option maxHeartbeats 1000000 in
/-- The law's 'code' of what lex tells. -/
theorem code_wrong (b : Nat) (c p : Int) (w : World) (h : WrongAt w b c p) :
    Calls Tryd.prog 8 #[.iface 49 (.pointer (some ⟨b, 0, none⟩))] w fun e w' => e = .returned (.tuple #[.int .i64 c, .int .i64 p]) ∧ Below w.heap.size w w' := by
  have h0 := h.code
  have h1 := h.place
  have h2 := h.name
  have ha := assert_wrong b
  go_enter Tryd.func8, Tryd.ntmps8
  go_wp2
  go_quiet (fail)
  go_wp2
  go_ret2
  exact ⟨rfl, below_drewN (Below.refl _ _) _⟩
end Go.Proofs.YtnflgijbngcjbabDoor
