/-
  The walks of lex.appendQuoted and lex.Quote at bytes that need no number (32 to 126), with the literal as a list of bytes.
-/
import Derived.Test.YtnflgijbngcjbabDoorM
namespace Go.Proofs.YtnflgijbngcjbabDoor
open Go.RowKit

def hexD (n : Nat) : UInt8 := if n < 10 then UInt8.ofNat (48 + n) else UInt8.ofNat (87 + n)
/-- A byte within a literal. -/
def quoteB (b : UInt8) : Bytes :=
  if b.toNat = 34 ∨ b.toNat = 92 then [92, b] else if b.toNat = 10 then [92, 110] else if b.toNat = 9 then [92, 116]
  else if b.toNat < 32 ∨ 126 < b.toNat then [92, 120, hexD (b.toNat / 16), hexD (b.toNat % 16)] else [b]
def quoteL (l : Bytes) : Bytes := 34 :: (l.flatMap quoteB ++ [34])

theorem own_bytes1 (w : World) (b : Nat) : ∀ j u, ([.int .u8 b] : List Value)[j]? = some u → (w.alloc (.cells #[.int .u8 b] 5)).cell? ((⟨w.heap.size, 0, none⟩ : Addr).add j) = some u := cell_one_new _ _ _

set_option maxHeartbeats 1000000 in
theorem appendQuoted_plain (B : Nat) (v : Value) (acc : Bytes) (b : UInt8) (w : World) (hB : B ≤ w.heap.size) (hown : w.ownsRow B 5 1 v acc.length (Lib.byteCells acc)) (hn : acc.length ≤ 70368744177664) (hb : quoteB b = [b]) :
    Calls Tryd.prog 22 #[v, .int .u8 b.toNat] w fun e w' => ∃ v', e = .returned v' ∧ w'.ownsRow B 5 1 v' (acc ++ quoteB b).length (Lib.byteCells (acc ++ quoteB b)) ∧ Below B w w' := by
  obtain ⟨i0, hi, hz0, hz1, hz2⟩ := info_parts info5
  have hc : ¬ (b.toNat = 34 ∨ b.toNat = 92) ∧ b.toNat ≠ 10 ∧ b.toNat ≠ 9 ∧ ¬ (b.toNat < 32 ∨ 126 < b.toNat) := by
    unfold quoteB at hb
    repeat' split at hb
    all_goals simp_all
  obtain ⟨h1, h2, h3, h4⟩ := hc
  have e34 : ((b.toNat : Int) == 34) = false := by simp; omega
  have e92 : ((b.toNat : Int) == 92) = false := by simp; omega
  have e10 : ((b.toNat : Int) == 10) = false := by simp; omega
  have e9 : ((b.toNat : Int) == 9) = false := by simp; omega
  have l32 : ¬ (b.toNat : Int) < 32 := by omega
  have l126 : ¬ (126 : Int) < b.toNat := by omega
  rw [hb]
  clear h1 h2 h3 h4 hb
  go_enter Tryd.func22, Tryd.ntmps22
  go_wp2_with (at_builtin; refine wpList_append_own _ rfl _ _ 29 rfl B 5 i0 (.int .u8 0) 1 1 Tryd.underlying29 hi hz0 hz1 hz2 rfl (by decide) _ _ _ rfl (hown.alloc _) ⟨w.heap.size, 0, none⟩ 1 1 [.int .u8 b.toNat] rfl rfl (cell_one_new _ _ _) (fun x hx => by simp at hx; subst hx; rfl) (by unfold maxLen; omega) (by omega) (by simp; omega) ?_; intro v' w3 hown3 hgr3 _)
  go_ret
  refine ⟨_, rfl, ?_, Below.grown ((Below.refl _ _).alloc (by omega) _) hgr3 (by simp; omega) (fun j hj => by have := (hown.lt _ hj).1; omega)⟩
  rw [byteCells_append]
  exact hown3

theorem quoteB_len (b : UInt8) : (quoteB b).length ≤ 4 := by
  unfold quoteB
  repeat' split
  all_goals simp
theorem flat_len (l : Bytes) : (l.flatMap quoteB).length ≤ 4 * l.length := by
  induction l with
  | nil => simp
  | cons b l ih => rw [List.flatMap_cons, List.length_append, List.length_cons]; have := quoteB_len b; omega
theorem take_flat (l : Bytes) (k : Nat) (h : k < l.length) : (l.take (k + 1)).flatMap quoteB = (l.take k).flatMap quoteB ++ quoteB (l.getD k 0) := by
  rw [List.take_succ_eq_append_getElem h, List.flatMap_append, List.getD_eq_getElem?_getD, List.getElem?_eq_getElem h]
  simp

set_option maxHeartbeats 1000000 in
theorem quote_plain (s : ByteArray) (w : World) (hlim : s.size ≤ 17592186044000) (hpl : ∀ b ∈ s.data.toList, quoteB b = [b]) :
    Calls Tryd.prog 12 #[.string s] w fun e w' => e = .returned (.string ⟨(quoteL s.data.toList).toArray⟩) ∧ Below w.heap.size w w' := by
  obtain ⟨i0, hi, hz0, hz1, hz2⟩ := info_parts info5
  obtain ⟨L, hL⟩ : ∃ L, L = s.data.toList := ⟨_, rfl⟩
  have hLs : L.length = s.size := by rw [hL]; simp
  have HL : Hid (L = s.data.toList) := hL
  rw [← hL] at hpl ⊢
  have HP : Hid (∀ b ∈ L, quoteB b = [b]) := hpl
  clear hL hpl
  obtain ⟨Q, hQ⟩ : ∃ Q, Q = quoteL L := ⟨_, rfl⟩
  have HQ : Hid (Q = quoteL L) := hQ
  rw [← hQ]
  clear hQ
  go_enter Tryd.func12, Tryd.ntmps12
  go_wp2_with (first | (at_make; refine wpList_make_own _ rfl _ _ 29 rfl w.heap.size 5 i0 (.int .u8 0) 1 Tryd.underlying29 hi hz0 hz1 .i64 .i64 _ (s.size + 2) rfl rfl (by simp) (by rw [hz2]; omega) (by unfold maxLen; omega) (Nat.le_refl _) ?_; intro w1 hown1 hgr1; have hsz1 : w.heap.size ≤ w1.heap.size := hgr1.size) | (at_builtin; refine wpList_append_own _ rfl _ _ 29 rfl w.heap.size 5 i0 (.int .u8 0) 1 1 Tryd.underlying29 hi hz0 hz1 hz2 rfl (by decide) _ _ _ rfl (hown1.alloc _) ⟨w1.heap.size, 0, none⟩ 1 1 [.int .u8 34] rfl rfl (cell_one_new _ _ _) (fun x hx => by simp at hx; subst hx; rfl) (by unfold maxLen; omega) (by omega) (by simp; omega) ?_; intro v2 w2 hown2 hgr2 _))
  have hb1 : Below w.heap.size w w1 := Below.grown (Below.refl _ _) hgr1 (Nat.le_refl _) (fun j hj => by cases hj)
  have hb2 : Below w.heap.size w w2 := Below.grown (hb1.alloc (by omega) _) hgr2 (by simp; omega) (fun j hj => by have := (hown1.lt _ hj).1; omega)
  clear hgr1 hgr2 hown1 hb1
  go_loopw [3, 14] (fun v i wr => ∃ k : Nat, k ≤ s.size ∧ i = .int .i64 k ∧ Below w.heap.size w wr ∧ Hid (wr.ownsRow w.heap.size 5 1 v (34 :: (L.take k).flatMap quoteB).length (Lib.byteCells (34 :: (L.take k).flatMap quoteB)))) (fun _ i _ => s.size - (intOf i).toNat)
  case atStart => exact ⟨0, Nat.zero_le _, rfl, hb2, hown2⟩
  case round =>
    obtain ⟨k, hk, rfl, hb, HO⟩ := hrel
    have hfl := flat_len (L.take k)
    have htk : (L.take k).length ≤ k := List.length_take_le _ _
    have hbs := hb.size
    have HAL : Hid ((34 :: (L.take k).flatMap quoteB).length ≤ 70368744177660) := by show _ ≤ _; rw [List.length_cons]; omega
    clear hfl htk
    by_cases hlt : k < s.size
    · have HB : Hid (s[k]'hlt = L.getD k 0) := by show _ = _; rw [HL.out, getD_byte s k hlt]
      have HP' : Hid (quoteB (s[k]'hlt) = [s[k]'hlt]) := by
        refine HP.out _ ?_
        rw [HL.out]
        exact List.getElem_mem (by simpa using hlt)
      go_wp2_with (go_at_call 22; refine (appendQuoted_plain w.heap.size _ (34 :: (L.take k).flatMap quoteB) (s[k]'hlt) _ hbs HO.out (Nat.le_trans HAL.out (by decide)) HP'.out).mono ?_; rintro r w3 ⟨v', rfl, hown3, hb3⟩)
      go_roundw
      case rel =>
        refine ⟨k + 1, by omega, by go_num, hb.trans hb3, ?_⟩
        show World.ownsRow _ _ _ _ _ _ _
        rw [take_flat L k (by omega), ← HB.out]
        exact hown3
      case measure => simp [intOf]; omega
    · have hke : (L.take k) = L := List.take_of_length_le (by omega)
      rw [hke] at HO HAL
      clear hke
      have hown3 := HO.out
      have HM1 : Hid ((34 :: L.flatMap quoteB).length + 1 ≤ maxLen) := by have := HAL.out; show _ ≤ _; unfold maxLen; omega
      have HM2 : Hid (((34 :: L.flatMap quoteB).length + 1) * 1 ≤ 140737488355328) := by have := HAL.out; show _ ≤ _; omega
      go_wp2_with (at_builtin; refine wpList_append_own _ rfl _ _ 29 rfl w.heap.size 5 i0 (.int .u8 0) 1 1 Tryd.underlying29 hi hz0 hz1 hz2 rfl (by decide) _ _ _ rfl (hown3.alloc _) ⟨wr.heap.size, 0, none⟩ 1 1 [.int .u8 34] rfl rfl (cell_one_new _ _ _) (fun x hx => by simp at hx; subst hx; rfl) HM1.out HM2.out (by simp; omega) ?_; intro v4 w4 hown4 hgr4 _; have hcv := conv_own (t := 34 :: (L.flatMap quoteB ++ [34])) (n := (34 :: L.flatMap quoteB).length + 1) (v := v4) (w := w4) (base := w.heap.size) (by have e : Lib.byteCells (34 :: (L.flatMap quoteB ++ [34])) = Lib.byteCells (34 :: L.flatMap quoteB) ++ [.int .u8 34] := (by rw [← List.cons_append, byteCells_append]; rfl); rw [e]; exact hown4))
      go_ret
      refine ⟨?_, Below.grown (hb.alloc (by omega) _) hgr4 (by simp; omega) (fun j hj => by have := (hown3.lt _ hj).1; omega)⟩
      rw [HQ.out]
      rfl
end Go.Proofs.YtnflgijbngcjbabDoor
