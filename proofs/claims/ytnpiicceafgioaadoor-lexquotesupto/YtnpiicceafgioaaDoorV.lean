/-
  The walk of the document's own Unquote.
-/
import Derived.Test.YtnpiicceafgioaaDoorU
import Derived.RegionTactic
namespace Go.Proofs.YtnpiicceafgioaaDoor
open Go.RowKit

/-- What the document's Unquote hands back. -/
inductive RefUnq (w w' : World) (e : Ending) : Except (Nat × Nat) Bytes → Prop
  | ok (t : Bytes) (he : e = .returned (.tuple #[.string ⟨t.toArray⟩, .agg #[.int .i64 0, .int .i64 0, .string ⟨#[]⟩]])) (hb : Below w.heap.size w w') : RefUnq w w' e (.ok t)
  | error (c p : Nat) (he : e = .returned (.tuple #[.string ⟨#[]⟩, .agg #[.int .i64 c, .int .i64 p, .string ⟨#[]⟩]])) (hb : Below w.heap.size w w') : RefUnq w w' e (.error (c, p))

theorem quote_head (l : Bytes) : [34].isPrefixOf l = (decide (0 < l.length) && decide ((l.getD 0 0).toNat = 34)) := by
  cases l with
  | nil => rfl
  | cons b r =>
    rw [Bool.eq_iff_iff]
    simp [List.isPrefixOf]
    constructor
    · intro h; rw [← h]; rfl
    · intro h; exact UInt8.toNat_inj.1 h.symm

theorem litGo_code (l : Bytes) (src : Nat) : ∀ (f k : Nat) (acc : Bytes) (c p : Nat), litGo l src f k acc = .error (c, p) → c = 11 := by
  intro f
  induction f with
  | zero => intro k acc c p h; simp only [litGo] at h; exact (congrArg Prod.fst (Except.error.inj h)).symm
  | succ f ih =>
    intro k acc c p h
    simp only [litGo] at h
    repeat' split at h
    all_goals first
      | exact (congrArg Prod.fst (Except.error.inj h)).symm
      | exact ih _ _ _ _ h
      | cases h

set_option maxHeartbeats 1000000 in
theorem refUnquote_any (s : ByteArray) (w : World) (hlim : s.size ≤ 70368744177664) :
    Calls Tryd.prog 16 #[.string s] w fun e w' => RefUnq w w' e (unqSpec s.data.toList) := by
  have hb0 : Below w.heap.size w (w.alloc (Obj.cells #[.int .i64 0, .int .i64 0, .string ⟨#[]⟩] 26)) := (Below.refl _ _).alloc (Nat.le_refl _) _
  have HB0 : Hid (Below w.heap.size w (w.alloc (Obj.cells #[.int .i64 0, .int .i64 0, .string ⟨#[]⟩] 26))) := hb0
  clear hb0
  by_cases h0 : s.size = 0
  · obtain rfl := empty_toList s h0
    go_enter Tryd.func16, Tryd.ntmps16
    go_wp2
    refine bodyPost_ret (v := .tuple #[.string ⟨#[]⟩, .agg #[.int .i64 11, .int .i64 0, .string ⟨#[]⟩]]) (by simp [results, Tryd.results16, go_sem]) rfl ?_
    exact .error 11 0 rfl (by first | exact (Below.refl _ _).alloc (Nat.le_refl _) _ | exact (((HB0.out.setCell (Nat.le_refl _) _).setCell (Nat.le_refl _) _).setCell (Nat.le_refl _) _))
  have hp : 0 < s.size := by omega
  have hne : s.toList.isEmpty = false := by rw [ByteArray.toList_eq]; cases h : s.data.toList with | nil => exact absurd (by rw [Lib.size_eq, h]; rfl) h0 | cons b r => rfl
  have hix : (0 : Int) < (s.size : Int) := by omega
  obtain ⟨L, hL⟩ : ∃ L, L = s.data.toList := ⟨_, rfl⟩
  have hLs : L.length = s.size := by rw [hL]; simp
  have HL : Hid (L = s.data.toList) := hL
  rw [← hL]
  clear hL
  have HK : Hid (s[0]'hp = L.getD 0 0) := by show _ = _; rw [HL.out, getD_byte s 0 hp]
  have HQ : Hid ([34].isPrefixOf L = decide ((L.getD 0 0).toNat = 34)) := by show _ = _; rw [quote_head, decide_eq_true (by omega), Bool.true_and]
  by_cases c34 : (L.getD 0 0).toNat = 34
  · have t34 : (((s[0]'hp).toNat : Int) != 34) = false := by rw [HK.out, c34]; rfl
    have hq : [34].isPrefixOf L = true := by rw [HQ.out, decide_eq_true c34]
    have HE : Hid (∀ e, lit L 0 1 [] = .error e → unqSpec L = .error e) := fun e h => by rw [unqSpec, if_pos hq, h]
    have HO : Hid (∀ t n, lit L 0 1 [] = .ok (t, n) → unqSpec L = if n < L.length then .error (11, n) else if 65536 < t.length then .error (13, 0) else .ok t) := fun t n h => by rw [unqSpec, if_pos hq, h]
    clear hq c34 HQ
    obtain ⟨sp, hsp⟩ : ∃ sp, sp = unqSpec L := ⟨_, rfl⟩
    rw [← hsp] at HE HO ⊢
    clear hsp
    go_enter Tryd.func16, Tryd.ntmps16
    go_wp2_with fail
    refine (refLiteral_any s 0 _ hp hlim).mono ?_
    intro r w2 hres
    rw [← HL.out] at hres
    generalize hlit : lit L 0 (0 + 1) [] = x at hres
    have HLIT : Hid (lit L 0 1 [] = x) := hlit
    clear hlit
    cases hres with
    | error c p he hb2 =>
      subst he
      obtain ⟨hc, hf⟩ := bcell hb2
      have hz : w.heap.size < w2.heap.size := by have := hb2.size; simp at this; omega
      have hc11 : c = 11 := litGo_code L 0 _ _ _ _ _ HLIT.out
      subst hc11
      have HX2 : Hid (Below w.heap.size w w2) := HB0.out.trans (hb2.mono (by simp))
      go_wp2
      go_region
      go_wp2
      refine bodyPost_ret (v := .tuple #[.string ⟨#[]⟩, .agg #[.int .i64 11, .int .i64 p, .string ⟨#[]⟩]]) (by simp [results, Tryd.results16, go_sem, hc, hz]) rfl ?_
      rw [HE.out _ HLIT.out]
      exact .error 11 p rfl (by
        repeat (first | exact HX2.out | exact ((HX2.out.setCell (Nat.le_refl _) _).setCell (Nat.le_refl _) _).setCell (Nat.le_refl _) _ | refine Below.drew ?_ | refine Below.alloc ?_ (by first | omega | (simp [World.setCell]; omega)) _))
    | ok t n he hb2 =>
      subst he
      obtain ⟨hc, hf⟩ := bcell hb2
      have hz : w.heap.size < w2.heap.size := by have := hb2.size; simp at this; omega
      have hsz : (ByteArray.mk t.toArray).size = t.length := by simp [ByteArray.size]
      have hfw := litGo_fwd L 0 _ _ _ _ _ HLIT.out
      have HX2 : Hid (Below w.heap.size w w2) := HB0.out.trans (hb2.mono (by simp))
      go_wp2
      · have h1 : n < s.size := by omega
        refine bodyPost_ret (v := .tuple #[.string ⟨#[]⟩, .agg #[.int .i64 11, .int .i64 n, .string ⟨#[]⟩]]) (by simp [results, Tryd.results16, go_sem, hc, hz]) rfl ?_
        rw [HO.out t n HLIT.out, if_pos (by omega)]
        exact .error 11 n rfl (by
        repeat (first | exact HX2.out | exact ((HX2.out.setCell (Nat.le_refl _) _).setCell (Nat.le_refl _) _).setCell (Nat.le_refl _) _ | refine Below.drew ?_ | refine Below.alloc ?_ (by first | omega | (simp [World.setCell]; omega)) _))
      · have h1 : ¬ n < L.length := by omega
        have h2 : 65536 < t.length := by omega
        refine bodyPost_ret (v := .tuple #[.string ⟨#[]⟩, .agg #[.int .i64 13, .int .i64 0, .string ⟨#[]⟩]]) (by simp [results, Tryd.results16, go_sem, hc, hz]) rfl ?_
        rw [HO.out t n HLIT.out, if_neg h1, if_pos h2]
        exact .error 13 0 rfl (by
        repeat (first | exact HX2.out | exact ((HX2.out.setCell (Nat.le_refl _) _).setCell (Nat.le_refl _) _).setCell (Nat.le_refl _) _ | refine Below.drew ?_ | refine Below.alloc ?_ (by first | omega | (simp [World.setCell]; omega)) _))
      · have h1 : ¬ n < L.length := by omega
        have h2 : ¬ 65536 < t.length := by omega
        refine bodyPost_ret (v := .tuple #[.string ⟨t.toArray⟩, .agg #[.int .i64 0, .int .i64 0, .string ⟨#[]⟩]]) (by simp [results, Tryd.results16, go_sem, hc, hz]) rfl ?_
        rw [HO.out t n HLIT.out, if_neg h1, if_neg h2]
        exact .ok t rfl (by
        repeat (first | exact HX2.out | exact ((HX2.out.setCell (Nat.le_refl _) _).setCell (Nat.le_refl _) _).setCell (Nat.le_refl _) _ | refine Below.drew ?_ | refine Below.alloc ?_ (by first | omega | (simp [World.setCell]; omega)) _))
  · have t34 : (((s[0]'hp).toNat : Int) != 34) = true := by rw [HK.out]; exact bne_of_ne (k := 34) c34
    have HSP : Hid (unqSpec L = .error (11, 0)) := by show _ = _; rw [unqSpec, HQ.out, decide_eq_false c34]; rfl
    clear c34 HQ
    go_enter Tryd.func16, Tryd.ntmps16
    go_wp2
    refine bodyPost_ret (v := .tuple #[.string ⟨#[]⟩, .agg #[.int .i64 11, .int .i64 0, .string ⟨#[]⟩]]) (by simp [results, Tryd.results16, go_sem]) rfl ?_
    rw [HSP.out]
    exact .error 11 0 rfl (by first | exact (Below.refl _ _).alloc (Nat.le_refl _) _ | exact (((HB0.out.setCell (Nat.le_refl _) _).setCell (Nat.le_refl _) _).setCell (Nat.le_refl _) _))
end Go.Proofs.YtnpiicceafgioaaDoor
