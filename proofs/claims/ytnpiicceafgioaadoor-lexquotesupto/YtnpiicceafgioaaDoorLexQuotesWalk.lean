/-
  The walk of the law LexQuotes: it answers true at every text of at most 1048576 bytes, in every memory that holds the two tables.
-/
import Derived.Test.YtnpiicceafgioaaDoorT
import Derived.Test.YtnpiicceafgioaaDoorV
import Derived.Test.YtnpiicceafgioaaDoorX
namespace Go.Proofs.YtnpiicceafgioaaDoor
open Go.RowKit

theorem unq_code (l : Bytes) (c p : Nat) (h : unqSpec l = .error (c, p)) : c = 11 ∨ c = 13 := by
  unfold unqSpec at h
  split at h
  · cases hl : lit l 0 1 [] with
    | error e =>
      rw [hl] at h
      obtain ⟨c', p'⟩ := e
      have e1 : c' = c := congrArg Prod.fst (Except.error.inj h)
      have := litGo_code l 0 _ _ _ _ _ hl
      omega
    | ok q =>
      rw [hl] at h
      obtain ⟨t, n⟩ := q
      simp only at h
      split at h
      · exact .inl (congrArg Prod.fst (Except.error.inj h)).symm
      · split at h
        · exact .inr (congrArg Prod.fst (Except.error.inj h)).symm
        · cases h
  · exact .inl (congrArg Prod.fst (Except.error.inj h)).symm

theorem refUnq_ok (s : ByteArray) (w : World) (hlim : s.size ≤ 70368744177664) (t : Bytes) (h : unqSpec s.data.toList = .ok t) :
    Calls Tryd.prog 16 #[.string s] w fun e w' => e = .returned (.tuple #[.string ⟨t.toArray⟩, .agg #[.int .i64 0, .int .i64 0, .string ⟨#[]⟩]]) ∧ Below w.heap.size w w' :=
  (refUnquote_any s w hlim).mono fun _ _ hr => by
    rw [h] at hr
    cases hr with
    | ok _ he hb => exact ⟨he, hb⟩
theorem refUnq_wrong (s : ByteArray) (w : World) (hlim : s.size ≤ 70368744177664) (c p : Nat) (h : unqSpec s.data.toList = .error (c, p)) :
    Calls Tryd.prog 16 #[.string s] w fun e w' => e = .returned (.tuple #[.string ⟨#[]⟩, .agg #[.int .i64 c, .int .i64 p, .string ⟨#[]⟩]]) ∧ Below w.heap.size w w' :=
  (refUnquote_any s w hlim).mono fun _ _ hr => by
    rw [h] at hr
    cases hr with
    | error _ _ he hb => exact ⟨he, hb⟩
theorem unq_ok (s : ByteArray) (w : World) (hlim : s.size ≤ 70368744177664) (t : Bytes) (h : unqSpec s.data.toList = .ok t) :
    Calls Tryd.prog 17 #[.string s] w fun e w' => e = .returned (.tuple #[.string ⟨t.toArray⟩, .nilIface]) ∧ Below w.heap.size w w' :=
  (unquote_any s w hlim).mono fun _ _ hr => by
    rw [h] at hr
    cases hr with
    | ok _ he hb => exact ⟨he, hb⟩
theorem unq_wrong (s : ByteArray) (w : World) (hlim : s.size ≤ 70368744177664) (c p : Nat) (h : unqSpec s.data.toList = .error (c, p)) :
    Calls Tryd.prog 17 #[.string s] w fun e w' => ∃ b, e = .returned (.tuple #[.string ⟨#[]⟩, .iface 59 (.pointer (some ⟨b, 0, none⟩))]) ∧ w.heap.size ≤ b ∧ WrongAt w' b c p ∧ Below w.heap.size w w' :=
  (unquote_any s w hlim).mono fun _ _ hr => by
    rw [h] at hr
    cases hr with
    | error _ _ b he hlo hw hb => exact ⟨b, he, hlo, hw, hb⟩

/-- A row of three cells of a Wrong, kept below. -/
theorem row_below {w w' : World} {b B : Nat} {o : Obj} (h : w.heap[b]? = some o) (hB : b < B) (hb : Below B w w') : w'.heap[b]? = some o := (hb.block b hB).trans h

set_option maxRecDepth 100000 in
set_option maxHeartbeats 2000000 in
theorem lexQuotes_any {gw ow gs os : Nat} (s : ByteArray) (w : World) (ht : TabsAt gw ow gs os w) (hlim : s.size ≤ 1048576) :
    Calls Tryd.prog 4 #[.string s] w fun e w' => e = .returned (.bool true) ∧ Below w.heap.size w w' := by
  cases hsp : unqSpec s.data.toList with
  | ok t =>
    have HSP : Hid (unqSpec s.data.toList = .ok t) := hsp
    clear hsp
    go_enter Tryd.func4, Tryd.ntmps4
    go_wp2_with fail
    refine (known_any _ ht).mono ?_
    rintro r w1 ⟨rfl, hb1⟩
    have hz1 := hb1.size
    go_wp2_with fail
    refine (refUnq_ok s _ (by omega) t HSP.out).mono ?_
    rintro r w2 ⟨rfl, hb2⟩
    have hz2 := hb2.size
    have HX2 : Hid (Below w.heap.size w w2) := hb1.trans (hb2.mono (by omega))
    clear hb1 hb2
    go_wp2_with fail
    refine (unq_ok s _ (by omega) t HSP.out).mono ?_
    rintro r w3 ⟨rfl, hb3⟩
    have hz3 := hb3.size
    rw [World.size_alloc] at hz3
    have HX3 : Hid (Below w.heap.size w w3) := (HX2.out.alloc (by omega) _).trans (hb3.mono (by simp; omega))
    have HR3 : Hid (w3.heap[w2.heap.size]? = some (.cells #[.int .i64 0, .int .i64 0, .string ⟨#[]⟩] 26 (0, 0))) := row_below (heap_alloc_new w2 _) (by simp) hb3
    clear hb3
    go_wp2_with fail
    refine (unq_ok s _ (by omega) t HSP.out).mono ?_
    rintro r w4 ⟨rfl, hb4⟩
    have hz4 := hb4.size
    have HX4 : Hid (Below w.heap.size w w4) := HX3.out.trans (hb4.mono (by omega))
    have HR4 : Hid (w4.heap[w2.heap.size]? = some (.cells #[.int .i64 0, .int .i64 0, .string ⟨#[]⟩] 26 (0, 0))) := row_below HR3.out (by omega) hb4
    clear hb4 HR3 HX3 HX2
    obtain ⟨k0, k1, k2, kf⟩ := row_cell HR4.out
    go_wp2_with fail
    refine (told_ok _ _ _).mono ?_
    rintro r w5 ⟨rfl, hb5⟩
    have hz5 := hb5.size
    have HX5 : Hid (Below w.heap.size w w5) := HX4.out.trans (hb5.mono (by omega))
    have HR5 : Hid (w5.heap[w2.heap.size]? = some (.cells #[.int .i64 0, .int .i64 0, .string ⟨#[]⟩] 26 (0, 0))) := row_below HR4.out (by omega) hb5
    clear hb5 HR4 HX4 k0 k1 k2 kf
    obtain ⟨k0, k1, k2, kf⟩ := row_cell HR5.out
    go_wp2_with fail
    refine (told_ok _ _ _).mono ?_
    rintro r w6 ⟨rfl, hb6⟩
    have hz6 := hb6.size
    have HX6 : Hid (Below w.heap.size w w6) := HX5.out.trans (hb6.mono (by omega))
    clear hb6 HR5 HX5 k0 k1 k2 kf
    go_wp2_with fail
    refine (fresh_nil _).mono ?_
    rintro r w7 ⟨rfl, hw7⟩
    have hw7' := hw7.symm
    subst hw7'
    clear hw7
    go_wp2_with fail
    refine (quote_any s _ (by omega)).mono ?_
    rintro r w8 ⟨rfl, hb8⟩
    have hz8 := hb8.size
    have HX8 : Hid (Below w.heap.size w w8) := HX6.out.trans (hb8.mono (by omega))
    clear hb8 HX6
    go_wp2_with fail
    refine (refQuote_any s _ (by omega)).mono ?_
    rintro r w9 ⟨rfl, hb9⟩
    have HX9 : Hid (Below w.heap.size w w9) := HX8.out.trans (hb9.mono (by omega))
    clear hb9 HX8
    obtain ⟨Q, hQ⟩ : ∃ Q : ByteArray, Q = ⟨(quoteL s.data.toList).toArray⟩ := ⟨_, rfl⟩
    rw [← hQ]
    clear hQ
    go_wp2
    go_ret
    exact ⟨by first | rfl | simp, HX9.out⟩
  | error e =>
    obtain ⟨c, p⟩ := e
    have HSP : Hid (unqSpec s.data.toList = .error (c, p)) := hsp
    have hcc := unq_code _ c p hsp
    have hc0 : ((c : Int) == 0) = false := by simp; omega
    clear hsp hcc
    go_enter Tryd.func4, Tryd.ntmps4
    go_wp2_with fail
    refine (known_any _ ht).mono ?_
    rintro r w1 ⟨rfl, hb1⟩
    have hz1 := hb1.size
    go_wp2_with fail
    refine (refUnq_wrong s _ (by omega) c p HSP.out).mono ?_
    rintro r w2 ⟨rfl, hb2⟩
    have hz2 := hb2.size
    have HX2 : Hid (Below w.heap.size w w2) := hb1.trans (hb2.mono (by omega))
    clear hb1 hb2
    go_wp2_with fail
    refine (unq_wrong s _ (by omega) c p HSP.out).mono ?_
    rintro r w3 ⟨b, rfl, hlo, hw3, hb3⟩
    have hz3 := hb3.size
    rw [World.size_alloc] at hz3
    have HX3 : Hid (Below w.heap.size w w3) := (HX2.out.alloc (by omega) _).trans (hb3.mono (by simp; omega))
    have HR3 : Hid (w3.heap[w2.heap.size]? = some (.cells #[.int .i64 c, .int .i64 p, .string ⟨#[]⟩] 26 (0, 0))) := row_below (heap_alloc_new w2 _) (by simp) hb3
    have HW3 : Hid (WrongAt w3 b c p) := hw3
    have hbl := hw3.lt
    clear hb3 hw3 hlo
    go_wp2_with fail
    refine (unq_wrong s _ (by omega) c p HSP.out).mono ?_
    rintro r w4 ⟨b', rfl, hlo', hw4, hb4⟩
    have hz4 := hb4.size
    have HX4 : Hid (Below w.heap.size w w4) := HX3.out.trans (hb4.mono (by omega))
    have HR4 : Hid (w4.heap[w2.heap.size]? = some (.cells #[.int .i64 c, .int .i64 p, .string ⟨#[]⟩] 26 (0, 0))) := row_below HR3.out (by omega) hb4
    have HW4 : Hid (WrongAt w4 b c p) := HW3.out.below (B := w3.heap.size) hbl hb4
    have HV4 : Hid (WrongAt w4 b' c p) := hw4
    have hbl' := hw4.lt
    have hne : b ≠ b' := by omega
    clear hb4 HR3 HX3 HX2 hw4 HW3 hlo'
    obtain ⟨k0, k1, k2, kf⟩ := row_cell HR4.out
    go_wp2_with fail
    refine (told_wrong b c p _ HW4.out hc0).mono ?_
    rintro r w5 ⟨rfl, hb5⟩
    have hz5 := hb5.size
    have HX5 : Hid (Below w.heap.size w w5) := HX4.out.trans (hb5.mono (by omega))
    have HR5 : Hid (w5.heap[w2.heap.size]? = some (.cells #[.int .i64 c, .int .i64 p, .string ⟨#[]⟩] 26 (0, 0))) := row_below HR4.out (by omega) hb5
    have HW5 : Hid (WrongAt w5 b c p) := HW4.out.below (B := w4.heap.size) (by omega) hb5
    have HV5 : Hid (WrongAt w5 b' c p) := HV4.out.below (B := w4.heap.size) (by omega) hb5
    clear hb5 HR4 HX4 HW4 HV4 k0 k1 k2 kf
    obtain ⟨k0, k1, k2, kf⟩ := row_cell HR5.out
    go_wp2_with fail
    refine (told_wrong b' c p _ HV5.out hc0).mono ?_
    rintro r w6 ⟨rfl, hb6⟩
    have hz6 := hb6.size
    have HX6 : Hid (Below w.heap.size w w6) := HX5.out.trans (hb6.mono (by omega))
    have HW6 : Hid (WrongAt w6 b c p) := HW5.out.below (B := w5.heap.size) (by omega) hb6
    have HV6 : Hid (WrongAt w6 b' c p) := HV5.out.below (B := w5.heap.size) (by omega) hb6
    clear hb6 HR5 HX5 HW5 HV5 k0 k1 k2 kf
    go_wp2_with fail
    refine (fresh_two b b' c p c p _ hne HW6.out HV6.out).mono ?_
    rintro r w7 ⟨rfl, hw7⟩
    have hw7' := hw7.symm
    subst hw7'
    clear hw7
    go_wp2_with fail
    refine (quote_any s _ (by omega)).mono ?_
    rintro r w8 ⟨rfl, hb8⟩
    have hz8 := hb8.size
    have HX8 : Hid (Below w.heap.size w w8) := HX6.out.trans (hb8.mono (by omega))
    clear hb8 HX6
    go_wp2_with fail
    refine (refQuote_any s _ (by omega)).mono ?_
    rintro r w9 ⟨rfl, hb9⟩
    have HX9 : Hid (Below w.heap.size w w9) := HX8.out.trans (hb9.mono (by omega))
    clear hb9 HX8
    obtain ⟨Q, hQ⟩ : ∃ Q : ByteArray, Q = ⟨(quoteL s.data.toList).toArray⟩ := ⟨_, rfl⟩
    rw [← hQ]
    clear hQ
    go_wp2
    go_ret
    exact ⟨by first | rfl | simp, HX9.out⟩
end Go.Proofs.YtnpiicceafgioaaDoor
