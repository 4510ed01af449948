/-
  The walk of the document's own literal: what the literal says that begins at a place, and the place behind it, or what is wrong.
-/
import Derived.Test.YtnpiicceafgioaaDoorR
namespace Go.Proofs.YtnpiicceafgioaaDoor
open Go.RowKit

/-- What the document's reader of a literal hands back. -/
inductive RefLit (w w' : World) (e : Ending) : Except (Nat × Nat) (Bytes × Nat) → Prop
  | ok (t : Bytes) (n : Nat) (he : e = .returned (.tuple #[.string ⟨t.toArray⟩, .int .i64 n, .agg #[.int .i64 0, .int .i64 0, .string ⟨#[]⟩]])) (hb : Below w.heap.size w w') : RefLit w w' e (.ok (t, n))
  | error (c p : Nat) (he : e = .returned (.tuple #[.string ⟨#[]⟩, .int .i64 0, .agg #[.int .i64 c, .int .i64 p, .string ⟨#[]⟩]])) (hb : Below w.heap.size w w') : RefLit w w' e (.error (c, p))

theorem bne_of_ne {c k : Nat} (h : ¬ c = k) : ((c : Int) != (k : Int)) = true := by simp; omega
theorem beq_of_ne {c k : Nat} (h : ¬ c = k) : ((c : Int) == (k : Int)) = false := by simp; omega
theorem row_cell {w : World} {b : Nat} {x y z : Value} (h : w.heap[b]? = some (.cells #[x, y, z] 26 (0, 0))) : w.cell? ⟨b, 0, none⟩ = some x ∧ w.cell? ⟨b, 1, none⟩ = some y ∧ w.cell? ⟨b, 2, none⟩ = some z ∧ (∀ o, w.frozen? ⟨b, o, none⟩ = false) :=
  ⟨by simp [World.cell?, h], by simp [World.cell?, h], by simp [World.cell?, h], fun o => by simp [World.frozen?, h]⟩

set_option maxRecDepth 1000000 in
set_option maxHeartbeats 2000000 in
theorem refLiteral_any (s : ByteArray) (src : Nat) (w : World) (hsrc : src < s.size) (hlim : s.size ≤ 70368744177664) :
    Calls Tryd.prog 37 #[.string s, .int .i64 src] w fun e w' => RefLit w w' e (lit s.data.toList src (src + 1) []) := by
  obtain ⟨i0, hi, hz0, hz1, hz2⟩ := info_parts info5
  obtain ⟨L, hL⟩ : ∃ L, L = s.data.toList := ⟨_, rfl⟩
  have hLs : L.length = s.size := by rw [hL]; simp
  have HL : Hid (L = s.data.toList) := hL
  rw [← hL]
  clear hL
  go_enter Tryd.func37, Tryd.ntmps37
  go_wp2
  go_loopw [7, 8] (fun sv kv wr => ∃ (k : Nat) (acc : Bytes), kv = .int .i64 k ∧ wr.heap[w.heap.size]? = some (.cells #[.int .i64 0, .int .i64 0, .string ⟨#[]⟩] 26 (0, 0)) ∧ wr.ownsRow (w.heap.size + 1) 5 1 sv acc.length (Lib.byteCells acc) ∧ Below w.heap.size w wr ∧ k ≤ s.size ∧ acc.length ≤ k ∧ Hid (lit L src k acc = lit L src (src + 1) [])) (fun _ kv _ => s.size - (intOf kv).toNat)
  case atStart => exact ⟨src + 1, [], by go_num, heap_alloc_new w _, World.ownsRow_nil _ _ _ _, (Below.refl _ _).alloc (Nat.le_refl _) _, by omega, by simp, rfl⟩
  case round =>
    obtain ⟨k, acc, rfl, hrow, hown, hbw, hks, hacc, HI⟩ := hrel
    obtain ⟨rc0, rc1, rc2, rcf⟩ := row_cell hrow
    have hsz : w.heap.size < wr.heap.size := (Array.getElem?_eq_some_iff.1 hrow).1
    have fin : ∀ v0 v1 v2, Below w.heap.size w (((wr.setCell ⟨w.heap.size, 0, none⟩ v0).setCell ⟨w.heap.size, 1, none⟩ v1).setCell ⟨w.heap.size, 2, none⟩ v2) := fun v0 v1 v2 =>
      (((hbw.setCell (Nat.le_refl _) _).setCell (Nat.le_refl _) _).setCell (Nat.le_refl _) _)
    have HFIN : Hid (∀ v0 v1 v2, Below w.heap.size w (((wr.setCell ⟨w.heap.size, 0, none⟩ v0).setCell ⟨w.heap.size, 1, none⟩ v1).setCell ⟨w.heap.size, 2, none⟩ v2)) := fin
    have HROW : Hid (wr.heap[w.heap.size]? = some (.cells #[.int .i64 0, .int .i64 0, .string ⟨#[]⟩] 26 (0, 0))) := hrow
    clear fin hrow
    by_cases hlt : k < s.size
    · have HK : Hid (s[k]'hlt = L.getD k 0) := by show _ = _; rw [HL.out, getD_byte s k hlt]
      by_cases c10 : (L.getD k 0).toNat = 10
      · have t10 : (((s[k]'hlt).toNat : Int) != 10) = false := by rw [HK.out, c10]; rfl
        have HSP : Hid (lit L src (src + 1) [] = .error (11, src)) := HI.out.symm.trans (lit_feed _ _ _ _ (by omega) c10)
        clear c10
        go_wp2
        refine bodyPost_ret (v := .tuple #[.string ⟨#[]⟩, .int .i64 0, .agg #[.int .i64 11, .int .i64 src, .string ⟨#[]⟩]]) (by simp [results, Tryd.results37, go_sem, rc0, rc1, rc2]) rfl ?_
        rw [HSP.out]
        exact .error 11 src rfl (HFIN.out _ _ _)
      have t10 : (((s[k]'hlt).toNat : Int) != 10) = true := by rw [HK.out]; exact bne_of_ne (k := 10) c10
      by_cases c34 : (L.getD k 0).toNat = 34
      · have t34 : (((s[k]'hlt).toNat : Int) == 34) = true := by rw [HK.out, c34]; rfl
        have HSP : Hid (lit L src (src + 1) [] = .ok (acc, k + 1)) := HI.out.symm.trans (lit_quote _ _ _ _ (by omega) c34)
        have hcv := conv_own hown
        clear c10 c34
        go_wp2
        refine bodyPost_ret (v := .tuple #[.string ⟨acc.toArray⟩, .int .i64 ((k : Int) + 1), .agg #[.int .i64 0, .int .i64 0, .string ⟨#[]⟩]]) (by simp [results, Tryd.results37, go_sem, rc0, rc1, rc2]) rfl ?_
        rw [HSP.out]
        exact .ok acc (k + 1) (by simp) (HFIN.out _ _ _)
      have t34 : (((s[k]'hlt).toNat : Int) == 34) = false := by rw [HK.out]; exact beq_of_ne (k := 34) c34
      by_cases c92 : (L.getD k 0).toNat = 92
      · have t92 : (((s[k]'hlt).toNat : Int) == 92) = true := by rw [HK.out, c92]; rfl
        have H92 : Hid ((L.getD k 0).toNat = 92) := c92
        clear c10 c34 c92
        go_wp2_with (first | (go_at_call 55; refine (refEscape_any _ _ _ hlt hlim).mono ?_; rintro r w2 ⟨b, n, rfl, hx, hb2⟩; rw [← HL.out] at hx; have hown2 := ownsRow_below hown hb2; have hbw2 : Below w.heap.size w w2 := hbw.trans (hb2.mono (by omega)); have HROW2 : Hid (w2.heap[w.heap.size]? = some (.cells #[.int .i64 0, .int .i64 0, .string ⟨#[]⟩] 26 (0, 0))) := (hb2.block _ hsz).trans HROW.out; have hsz2 : w.heap.size < w2.heap.size := (by (have := hb2.size; omega)); have hb256 : b < 256 := (by (have := esc_lt (L.drop k); rw [← hx.out] at this; exact this)); have hnfit : k + n ≤ s.size := (by (have := esc_fits (L.drop k); rw [← hx.out] at this; simp at this; omega)); obtain ⟨rd0, rd1, rd2, rdf⟩ := row_cell HROW2.out; clear hb2) | (at_builtin; refine wpList_append_own _ rfl _ _ 65 rfl (w.heap.size + 1) 5 i0 (.int .u8 0) 1 1 Tryd.underlying65 hi hz0 hz1 hz2 rfl (by decide) _ _ _ rfl (hown2.alloc _) ⟨w2.heap.size, 0, none⟩ 1 1 [.int .u8 b] rfl rfl (cell_one_new _ _ _) (fun x hx => by simp at hx; subst hx; rfl) (by unfold maxLen; omega) (by omega) (by simp; omega) ?_; intro v4 w4 hown4 hgr4 _; have HB4 : Hid (Below w.heap.size w w4) := (Below.grown (hbw2.alloc (by omega) _) hgr4 (by simp; omega) (fun j hj => by have := (hown2.lt _ hj).1; omega)); have HROW4 : Hid (w4.heap[w.heap.size]? = some (.cells #[.int .i64 0, .int .i64 0, .string ⟨#[]⟩] 26 (0, 0))) := ((hgr4.block _ (by simp; omega) (fun h => by have := (hown2.lt _ h.symm).1; omega)).trans ((Below.heap_alloc _ _ _ hsz2).trans HROW2.out)); have HO4 : Hid (w4.ownsRow (w.heap.size + 1) 5 1 v4 _ _) := hown4; clear hgr4 hown4))
        · have hn0 : ((n : Int) == 0) = true := by assumption
          have HSP : Hid (lit L src (src + 1) [] = .error (11, k)) := HI.out.symm.trans (lit_none _ _ _ _ (by omega) H92.out (by rw [← hx.out]; simp at hn0; omega))
          refine bodyPost_ret (v := .tuple #[.string ⟨#[]⟩, .int .i64 0, .agg #[.int .i64 11, .int .i64 k, .string ⟨#[]⟩]]) (by simp [results, Tryd.results37, go_sem, rd0, rd1, rd2]) rfl ?_
          rw [HSP.out]
          exact .error 11 k rfl (((hbw2.setCell (Nat.le_refl _) _).setCell (Nat.le_refl _) _).setCell (Nat.le_refl _) _)
        · have hn0 : ((n : Int) == 0) = false := by assumption
          have hn1 : n ≠ 0 := by simp at hn0; omega
          go_roundw
          case rel => exact ⟨k + n, acc ++ [UInt8.ofNat b], by go_num, HROW4.out, own_snoc HO4.out hb256, HB4.out, by omega, by simp; omega, (lit_esc L src k b n acc (by omega) H92.out hx.out hn1).symm.trans HI.out⟩
          case measure => simp [intOf]; omega
      · have t92 : (((s[k]'hlt).toNat : Int) == 92) = false := by rw [HK.out]; exact beq_of_ne (k := 92) c92
        have HST : Hid (lit L src (k + 1) (acc ++ [s[k]'hlt]) = lit L src (src + 1) []) := by
          show _ = _
          rw [HK.out, ← lit_plain L src k acc (by omega) c10 c34 c92]; exact HI.out
        clear c10 c34 c92
        go_wp2_with (at_builtin; refine wpList_append_own _ rfl _ _ 65 rfl (w.heap.size + 1) 5 i0 (.int .u8 0) 1 1 Tryd.underlying65 hi hz0 hz1 hz2 rfl (by decide) _ _ _ rfl (hown.alloc _) ⟨wr.heap.size, 0, none⟩ 1 1 [.int .u8 (s[k]'hlt).toNat] rfl rfl (cell_one_new _ _ _) (fun x hx => by simp at hx; subst hx; rfl) (by unfold maxLen; omega) (by omega) (by simp; omega) ?_; intro v4 w4 hown4 hgr4 _; have HB4 : Hid (Below w.heap.size w w4) := (Below.grown (hbw.alloc (by omega) _) hgr4 (by simp; omega) (fun j hj => by have := (hown.lt _ hj).1; omega)); have HROW4 : Hid (w4.heap[w.heap.size]? = some (.cells #[.int .i64 0, .int .i64 0, .string ⟨#[]⟩] 26 (0, 0))) := ((hgr4.block _ (by simp; omega) (fun h => by have := (hown.lt _ h.symm).1; omega)).trans ((Below.heap_alloc _ _ _ hsz).trans HROW.out)); have HO4 : Hid (w4.ownsRow (w.heap.size + 1) 5 1 v4 _ _) := hown4; clear hgr4 hown4)
        go_roundw
        case rel =>
          refine ⟨k + 1, acc ++ [s[k]'hlt], by go_num, HROW4.out, ?_, HB4.out, by omega, by simp; omega, HST.out⟩
          have := HO4.out
          rw [byteCells_append, List.length_append]
          exact this
        case measure => simp [intOf]; omega
    · have HSP : Hid (lit L src (src + 1) [] = .error (11, src)) := HI.out.symm.trans (lit_end _ _ _ _ (by omega))
      go_wp2
      refine bodyPost_ret (v := .tuple #[.string ⟨#[]⟩, .int .i64 0, .agg #[.int .i64 11, .int .i64 src, .string ⟨#[]⟩]]) (by simp [results, Tryd.results37, go_sem, rc0, rc1, rc2]) rfl ?_
      rw [HSP.out]
      exact .error 11 src rfl (HFIN.out _ _ _)
end Go.Proofs.YtnpiicceafgioaaDoor
