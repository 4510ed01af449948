/-
  A float's bits to the base sixteen, as strconv writes them and as the document does.
-/
import Derived.Test.YtoplmbboaobahaaDoorDg
import Derived.Laws.Tables
namespace Go.Proofs.YtoplmbboaobahaaDoor
open Go.RowKit

/-- The table of trailing zeros lies in memory (of it sixteen's is asked). -/
def zAt (w : World) : Prop := 4 < w.heap.size ∧ w.cell? ⟨4, 15, none⟩ = some (.int .u8 4)
theorem zAt.kept {w w' : World} (h : zAt w) (hb : Below w.heap.size w w') : zAt w' :=
  ⟨Nat.lt_of_lt_of_le h.1 hb.size, by rw [hb.cell (p := ⟨4, 15, none⟩) h.1]; exact h.2⟩

theorem e16 : IntKind.u64.wrap (-16) = 18446744073709551600 := by decide
theorem a16 : bits BinOp.and IntKind.u64 16 18446744073709551600 = 16 := by decide +kernel
theorem m16 : IntKind.u64.wrap (16 * 285870213051353865) / 288230376151711744 = 15 := by decide

set_option maxRecDepth 100000 in
set_option maxHeartbeats 1000000 in
theorem trailing64 (w : World) (h : zAt w) : Calls Tryd.prog 117 #[.int .u64 16] w fun r w' => r = .returned (.int .i64 4) ∧ w' = w := by
  obtain ⟨_, h2⟩ := h
  have h3 : w.cell? ⟨4, (IntKind.u64.wrap (bits BinOp.and IntKind.u64 16 (IntKind.u64.wrap (-16)) * 285870213051353865) / 288230376151711744).toNat, none⟩ = some (.int .u8 4) := by
    rw [e16, a16, m16]; exact h2
  go_enter Tryd.func117, Tryd.ntmps117
  go_wp2
  go_ret
  exact ⟨rfl, rfl⟩

theorem trailing16 (w : World) (h : zAt w) : Calls Tryd.prog 113 #[.int .u64 16] w fun r w' => r = .returned (.int .i64 4) ∧ w' = w := by
  go_enter Tryd.func113, Tryd.ntmps113
  go_wp2_with (go_at_call 117; refine (trailing64 _ h).mono ?_; rintro r w' ⟨rfl, rfl⟩)
  go_ret
  exact ⟨rfl, rfl⟩

theorem pow16 (w : World) : Calls Tryd.prog 112 #[.int .i64 16] w fun r w' => r = .returned (.bool true) ∧ w' = w := by
  have e : bits BinOp.and IntKind.i64 16 15 = 0 := by decide +kernel
  go_enter Tryd.func112, Tryd.ntmps112
  go_wp2
  go_ret
  exact ⟨rfl, rfl⟩

/-- A digit to the base sixteen. -/
def hexD (n : Nat) : UInt8 := if n < 10 then UInt8.ofNat (48 + n) else UInt8.ofNat (87 + n)

theorem hex36 (n : Nat) (h : n < 16) : ((ByteArray.mk #[48, 49, 50, 51, 52, 53, 54, 55, 56, 57, 97, 98, 99, 100, 101, 102, 103, 104, 105, 106, 107, 108, 109, 110, 111, 112, 113, 114, 115, 116, 117, 118, 119, 120, 121, 122])[n]'(Nat.lt_of_lt_of_le h (by decide))) = hexD n := by
  have : ∀ n : Fin 16, ((ByteArray.mk #[48, 49, 50, 51, 52, 53, 54, 55, 56, 57, 97, 98, 99, 100, 101, 102, 103, 104, 105, 106, 107, 108, 109, 110, 111, 112, 113, 114, 115, 116, 117, 118, 119, 120, 121, 122])[n.val]'(Nat.lt_of_lt_of_le n.isLt (by decide))) = hexD n.val := by decide
  exact this ⟨n, h⟩

theorem and15 (n : Nat) (h1 : n < 18446744073709551616) : bits .and .u64 (n : Int) 15 = ((n % 16 : Nat) : Int) := by
  show IntKind.u64.wrap ((BitVec.ofInt 64 (n : Int) &&& BitVec.ofInt 64 15).toNat : Int) = _
  have e1 : BitVec.ofInt 64 15 = BitVec.ofNat 64 (2 ^ 4 - 1) := by decide
  rw [e1, BitVec.toNat_and, BitVec.toNat_ofInt, BitVec.toNat_ofNat]
  have e2 : ((n : Int) % ((2 ^ 64 : Nat) : Int)).toNat = n := by
    have : (n : Int) % ((2 ^ 64 : Nat) : Int) = n := by rw [show ((2 ^ 64 : Nat) : Int) = 18446744073709551616 by decide]; omega
    rw [this]; rfl
  rw [e2, Nat.mod_eq_of_lt (by decide : 2 ^ 4 - 1 < 2 ^ 64), Nat.and_two_pow_sub_one_eq_mod]
  simp [IntKind.wrap, IntKind.bits, IntKind.signed]
  omega

/-- A number to the base sixteen. -/
def fd (u : Nat) : List UInt8 := if _h : u < 16 then [hexD u] else fd (u / 16) ++ [hexD (u % 16)]
termination_by u
decreasing_by omega
theorem fd_small (u : Nat) (h : u < 16) : fd u = [hexD u] := by rw [fd, dif_pos h]
theorem fd_big (u : Nat) (h : ¬ u < 16) : fd u = fd (u / 16) ++ [hexD (u % 16)] := by rw [fd, dif_neg h]
theorem fd_len (k : Nat) : ∀ u, u < 16 ^ (k + 1) → 1 ≤ (fd u).length ∧ (fd u).length ≤ k + 1 := by
  induction k with
  | zero => intro u h; rw [fd_small u (by omega)]; exact ⟨Nat.le_refl _, Nat.le_refl _⟩
  | succ k ih =>
    intro u h
    by_cases h0 : u < 16
    · rw [fd_small u h0]; exact ⟨Nat.le_refl _, by simp⟩
    · rw [fd_big u h0, List.length_append]
      have := ih (u / 16) (by rw [Nat.pow_succ] at h; omega)
      simp; omega

/-- The array, its last places written. -/
def rowL (acc : List UInt8) : List Value := List.replicate (65 - acc.length) (.int .u8 0) ++ Lib.byteCells acc
theorem rowL_set (acc : List UInt8) (x : UInt8) (h : acc.length < 65) : (rowL acc).set (64 - acc.length) (.int .u8 x.toNat) = rowL (x :: acc) := by
  unfold rowL
  rw [show 65 - acc.length = (64 - acc.length) + 1 by omega, List.replicate_succ', List.append_assoc, List.set_append_right _ _ (by simp)]
  simp [Lib.byteCells]
theorem rowL_get (acc : List UInt8) (h : acc.length < 65) : (rowL acc)[64 - acc.length]? = some (.int .u8 0) := by
  unfold rowL
  rw [List.getElem?_append_left (by simp; omega), List.getElem?_replicate, if_pos (by omega)]

theorem rowSet16 {w : World} {g : Nat} {xs : List Value} {T : TypeId} (h : w.heap[g]? = some (.cells xs.toArray T (0, 0))) (j : Nat) (v : Value) : (w.setCell ⟨g, j, none⟩ v).heap[g]? = some (.cells (xs.set j v).toArray T (0, 0)) := by
  have hlt := (Array.getElem?_eq_some_iff.1 h).1
  show (w.heap.modify g _)[g]? = _
  rw [Array.getElem?_eq_getElem (by rw [Array.size_modify]; exact hlt), Array.getElem_modify_self]
  have := (Array.getElem?_eq_some_iff.1 h).2
  rw [this]
  simp
theorem rowAt16 {w : World} {g : Nat} {xs : List Value} {T : TypeId} (h : w.heap[g]? = some (.cells xs.toArray T (0, 0))) (j : Nat) (v : Value) (hv : xs[j]? = some v) : w.cell? ⟨g, j, none⟩ = some v ∧ w.frozen? ⟨g, j, none⟩ = false :=
  ⟨by unfold World.cell?; rw [h]; simpa using hv, by unfold World.frozen?; rw [h]; simp⟩

theorem conv_row {w : World} {g : Nat} {acc : List UInt8} {T : TypeId} (h : w.heap[g]? = some (.cells (rowL acc).toArray T (0, 0))) (cap : Nat) : (convert 102 9 (.slice (some ⟨g, 65 - acc.length, none⟩) acc.length cap)).run Tryd.prog w = .ok (.string ⟨acc.toArray⟩) w := by
  refine run_convert_bytes_back w 102 9 5 ⟨g, 65 - acc.length, none⟩ cap acc Tryd.underlying102 Tryd.underlying5 Tryd.underlying9 (fun j hj => ?_)
  rw [show (⟨g, 65 - acc.length, none⟩ : Addr).add j = ⟨g, 65 - acc.length + j, none⟩ by simp [Addr.add]]
  refine (rowAt16 h _ _ ?_).1
  unfold rowL
  rw [List.getElem?_append_right (by simp)]
  simp [Lib.byteCells, hj]

set_option maxRecDepth 100000 in
set_option maxHeartbeats 4000000 in
theorem formatBits16 (u : Nat) (w : World) (hu : u < 18446744073709551616) (hz : zAt w) :
    Calls Tryd.prog 101 #[.slice none 0 0, .int .u64 u, .int .i64 16, .bool false, .bool false] w fun r w' => r = .returned (.tuple #[.slice none 0 0, .string ⟨(fd u).toArray⟩]) ∧ Below w.heap.size w w' := by
  have HZ : Hid (∀ W, Below w.heap.size w W → Calls Tryd.prog 113 #[.int .u64 16] W fun r w' => r = .returned (.int .i64 4) ∧ w' = W) := fun W hW => trailing16 W (hz.kept hW)
  obtain ⟨R, hR⟩ : ∃ R, R = fd u := ⟨_, rfl⟩
  have hRl : R.length ≤ 16 := by rw [hR]; exact (fd_len 15 u (by omega)).2
  have HR : Hid (R = fd u) := hR
  rw [← hR]
  clear hR
  have hz0 : Tryd.zeroCells135 = (rowL []).toArray := by kernel_rfl
  go_enter Tryd.func101, Tryd.ntmps101
  go_wp2_with (first
    | (go_at_call 112; refine (pow16 _).mono ?_; rintro r w' ⟨rfl, rfl⟩)
    | (go_at_call 113; refine (HZ.out _ ((Below.refl _ _).alloc (Nat.le_refl _) _)).mono ?_; rintro r w' ⟨rfl, rfl⟩))
  go_loopw [1, 13] (fun uv iv wr => ∃ (U : Nat) (acc : List UInt8), uv = .int .u64 U ∧ iv = .int .i64 ((65 : Int) - acc.length) ∧ U < 18446744073709551616 ∧ acc.length ≤ 15 ∧ Hid (fd U ++ acc = R) ∧ Below w.heap.size w wr ∧ Hid (wr.heap[w.heap.size]? = some (.cells (rowL acc).toArray 135 (0, 0)))) (fun uv _ _ => (intOf uv).toNat)
  case atStart => exact ⟨u, [], rfl, rfl, hu, by simp, by show _ = _; rw [HR.out]; simp, (Below.refl _ _).alloc (Nat.le_refl _) _, by rw [← hz0]; exact heap_alloc_new _ _⟩
  case round =>
    obtain ⟨U, acc, rfl, rfl, hU, hal, HD, hb, HO⟩ := hrel
    have HF : Hid (1 ≤ (fd U).length) := (fd_len 15 U (by omega)).1
    by_cases hlt : U < 16
    · have hI : ¬ ((16 : Int) ≤ U) := by omega
      obtain ⟨c1, f1⟩ := rowAt16 HO.out _ _ (rowL_get acc (by omega))
      obtain ⟨m, hm⟩ : ∃ m, m = 64 - acc.length := ⟨_, rfl⟩
      have hmI : (65 : Int) - acc.length - 1 = m := by omega
      have hm65 : m < 65 := by omega
      rw [← hm] at c1 f1
      have g1 := hex36 U hlt
      have h36 : U < 36 := by omega
      have HM : Hid (m = 64 - acc.length) := hm
      clear hm
      have hsl : ∀ W, (Instr.sliceAt 135 (.pointer (some ⟨w.heap.size, 0, none⟩)) (some (.int .i64 (m : Int))) none none).run Tryd.prog W = .ok (.slice (some ⟨w.heap.size, m, none⟩) (65 - m) (65 - m)) W := fun W => by
        have hal : Tryd.prog.arrayLen 135 = 65 := by kernel_rfl
        rw [run_sliceAt_array_l W 135 ⟨w.heap.size, 0, none⟩ (by kernel_rfl) .i64 (m : Int) (by omega) (by rw [hal]; omega), hal]
        have hsz : (sizeOf (Tryd.prog.elem 135)).run Tryd.prog W = .ok 1 W := by kernel_rfl
        have hm0 : m ≠ 0 := by have := HM.out; omega
        have hmt : ((m : Int)).toNat = m := by omega
        rw [hsz, hmt]
        simp only [Result.andThen_ok, slicedAt]
        rw [if_neg (by omega)]
        simp [Addr.add, hm0]
      have HO2 : Hid ((wr.setCell ⟨w.heap.size, m, none⟩ (.int .u8 (hexD U).toNat)).heap[w.heap.size]? = some (.cells (rowL (hexD U :: acc)).toArray 135 (0, 0))) := by
        show _ = _
        rw [← rowL_set acc (hexD U) (by omega), ← HM.out]
        exact rowSet16 HO.out m _
      have hcv := conv_row HO2.out (65 - m)
      rw [show 65 - (hexD U :: acc).length = m by have := HM.out; simp; omega, show (hexD U :: acc).length = 65 - m by have := HM.out; simp; omega] at hcv
      have HRR : Hid (hexD U :: acc = R) := by show _ = _; rw [← HD.out, fd_small U hlt]; rfl
      rw [HRR.out] at hcv
      go_wp2
      refine bodyPost_ret (v := .tuple #[.slice none 0 0, .string ⟨R.toArray⟩]) (by simp [results, Tryd.results101, go_sem]) rfl ⟨rfl, ?_⟩
      exact hb.setCell (by show _ ≤ _; simp) _
    · have hI : (16 : Int) ≤ U := by omega
      have y := and15 U hU
      obtain ⟨l, hl⟩ : ∃ l, l = U % 16 := ⟨_, rfl⟩
      rw [← hl] at y
      have hl16 : l < 16 := by omega
      have g1 := hex36 l hl16
      have h36 : l < 36 := by omega
      obtain ⟨c1, f1⟩ := rowAt16 HO.out _ _ (rowL_get acc (by omega))
      obtain ⟨m, hm⟩ : ∃ m, m = 64 - acc.length := ⟨_, rfl⟩
      have hmI : (65 : Int) - acc.length - 1 = m := by omega
      have hm65 : m < 65 := by omega
      rw [← hm] at c1 f1
      have HM : Hid (m = 64 - acc.length) := hm
      have HL : Hid (l = U % 16) := hl
      clear hm hl
      go_wp2
      refine ⟨⟨U / 16, hexD l :: acc, by go_num, by simp only [List.length_cons]; congr 1; have := HM.out; omega, by omega, ?_, ?_, ?_, ?_⟩, by simp [intOf]; omega⟩
      · have h1 := congrArg List.length HD.out
        rw [List.length_append, fd_big U hlt, List.length_append] at h1
        have h2 := (fd_len 15 (U / 16) (by omega)).1
        simp at h1 ⊢
        omega
      · show _ = _
        rw [← HD.out, fd_big U hlt, HL.out, List.append_assoc]; rfl
      · exact hb.setCell (by show _ ≤ _; simp) _
      · show _ = _
        rw [← rowL_set acc (hexD l) (by omega), ← HM.out]
        exact rowSet16 HO.out m _
end Go.Proofs.YtoplmbboaobahaaDoor
