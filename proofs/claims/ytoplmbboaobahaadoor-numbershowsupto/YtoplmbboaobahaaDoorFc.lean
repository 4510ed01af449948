/-
  A float's bits, shown by number and by the document.
-/
import Derived.Test.YtoplmbboaobahaaDoorFb
import Derived.Test.YtoplmbboaobahaaDoorRp
import Derived.Test.YtoplmbboaobahaaDoorU
namespace Go.Proofs.YtoplmbboaobahaaDoor
open Go.RowKit

theorem formatUint1 (u : Nat) (w : World) (hu : u < 18446744073709551616) (hz : zAt w) :
    Calls Tryd.prog 87 #[.int .u64 u, .int .i64 16] w fun r w' => r = .returned (.string ⟨(fd u).toArray⟩) ∧ Below w.heap.size w w' := by
  have HZ : Hid (∀ W, Below w.heap.size w W → Calls Tryd.prog 101 #[.slice none 0 0, .int .u64 u, .int .i64 16, .bool false, .bool false] W fun r w' => r = .returned (.tuple #[.slice none 0 0, .string ⟨(fd u).toArray⟩]) ∧ Below W.heap.size W w') := fun W hW => formatBits16 u W hu (hz.kept hW)
  generalize fd u = d at HZ ⊢
  clear hu hz
  go_enter Tryd.func87, Tryd.ntmps87
  go_wp2_with fail
  refine (HZ.out _ (by first | exact Below.refl _ _ | exact (Below.refl _ _).alloc (Nat.le_refl _) _)).mono ?_
  rintro r w1 ⟨rfl, b1⟩
  go_wp2_with fail
  go_ret
  exact ⟨rfl, by first | exact b1 | exact ((Below.refl _ w).alloc (Nat.le_refl _) _).trans (b1.mono (by simp))⟩

theorem formatUint_any (u : Nat) (w : World) (hu : u < 18446744073709551616) (hz : zAt w) :
    Calls Tryd.prog 81 #[.int .u64 u, .int .i64 16] w fun r w' => r = .returned (.string ⟨(fd u).toArray⟩) ∧ Below w.heap.size w w' := by
  go_enter Tryd.func81, Tryd.ntmps81
  go_wp2_with fail
  refine (formatUint1 u _ hu hz).mono ?_
  rintro r w1 ⟨rfl, b1⟩
  go_wp2_with fail
  go_ret
  exact ⟨rfl, b1⟩

/-- Sixteen digits, the first one first. -/
def digs : Nat → Nat → List UInt8
  | 0, _ => []
  | n + 1, f => hexD (f / 1152921504606846976) :: digs n (f * 16 % 18446744073709551616)
/-- Sixteen digits, by the last one. -/
def dgs : Nat → Nat → List UInt8
  | 0, _ => []
  | n + 1, u => dgs n (u / 16) ++ [hexD (u % 16)]

theorem digs_dgs (f : Nat) (h : f < 18446744073709551616) : digs 16 f = dgs 16 f := by
  simp only [digs, dgs, List.nil_append, List.cons_append]
  simp only [List.cons.injEq, and_true]
  refine ⟨?_, ?_, ?_, ?_, ?_, ?_, ?_, ?_, ?_, ?_, ?_, ?_, ?_, ?_, ?_, ?_⟩ <;> congr 1 <;> omega

theorem dgs_zero (n : Nat) : dgs n 0 = List.replicate n 48 := by
  induction n with
  | zero => rfl
  | succ n ih => rw [dgs, Nat.zero_div, ih, List.replicate_succ']; rfl
theorem fd_pad (n : Nat) : ∀ u, u < 16 ^ (n + 1) → List.replicate (n + 1 - (fd u).length) 48 ++ fd u = dgs (n + 1) u := by
  induction n with
  | zero => intro u h; rw [fd_small u (by omega)]; simp [dgs]; congr 1; omega
  | succ n ih =>
    intro u h
    rw [dgs]
    by_cases h0 : u < 16
    · rw [fd_small u h0, show u / 16 = 0 by omega, dgs_zero, show u % 16 = u by omega]; rfl
    · rw [fd_big u h0, ← ih (u / 16) (by rw [Nat.pow_succ] at h; omega), List.length_append, ← List.append_assoc]
      simp

theorem rep_zero (n : Nat) : Lib.repeatL (ByteArray.mk #[48]).data.toList n = List.replicate n 48 := by
  induction n with
  | zero => rfl
  | succ n ih => first | (rw [Lib.repeatL, ih]; rfl) | (simp [Lib.repeatL, List.replicate_succ]; done) | (unfold Lib.repeatL; simp [List.replicate_succ])

theorem hex16 (n : Nat) (h : n < 16) : ((ByteArray.mk #[48, 49, 50, 51, 52, 53, 54, 55, 56, 57, 97, 98, 99, 100, 101, 102])[n]'h) = hexD n := by
  have : ∀ n : Fin 16, ((ByteArray.mk #[48, 49, 50, 51, 52, 53, 54, 55, 56, 57, 97, 98, 99, 100, 101, 102])[n.val]'n.isLt) = hexD n.val := by decide
  exact this ⟨n, h⟩

set_option maxRecDepth 100000 in
set_option maxHeartbeats 2000000 in
theorem refHex_any (f : Nat) (w : World) (hf : f < 18446744073709551616) :
    Calls Tryd.prog 67 #[.int .u64 f] w fun r w' => r = .returned (.string ⟨(dgs 16 f).toArray⟩) ∧ Below w.heap.size w w' := by
  obtain ⟨i0, hi, hz0, hz1, hz2⟩ := info_parts info5
  obtain ⟨R, hR⟩ : ∃ R, R = digs 16 f := ⟨_, rfl⟩
  have HR : Hid (R = digs 16 f) := hR
  rw [← digs_dgs f hf, ← hR]
  clear hR
  go_enter Tryd.func67, Tryd.ntmps67
  go_wp2
  go_loopw [0, 3, 4] (fun fv v iv wr => ∃ (F k : Nat) (acc : List UInt8), fv = .int .u64 F ∧ F < 18446744073709551616 ∧ iv = .int .i64 k ∧ k ≤ 16 ∧ acc.length = k ∧ Hid (acc ++ digs (16 - k) F = R) ∧ Below w.heap.size w wr ∧ Hid (wr.ownsRow w.heap.size 5 1 v acc.length (Lib.byteCells acc))) (fun _ _ iv _ => 16 - (intOf iv).toNat)
  case atStart => exact ⟨f, 0, [], rfl, hf, rfl, by omega, rfl, by show _ = _; rw [HR.out]; rfl, Below.refl _ _, World.ownsRow_nil _ _ _ _⟩
  case round =>
    obtain ⟨F, k, acc, rfl, hF, rfl, hk, hal, HD, hb, HO⟩ := hrel
    have hown := HO.out
    have hbs := hb.size
    by_cases hlt : k < 16
    · have hI : (k : Int) < 16 := by omega
      obtain ⟨l, hl⟩ : ∃ l, l = F / 1152921504606846976 := ⟨_, rfl⟩
      have hl16 : l < 16 := by omega
      have hlI : (F : Int) / 1152921504606846976 = (l : Int) := by omega
      have g1 := hex16 l hl16
      have hw : IntKind.u64.wrap ((F : Int) * 16) = ((F * 16 % 18446744073709551616 : Nat) : Int) := by simp [IntKind.wrap, IntKind.bits, IntKind.signed]
      have HL : Hid (l = F / 1152921504606846976) := hl
      clear hl
      go_wp2_with (at_builtin; refine wpList_append_own _ rfl _ _ 102 rfl w.heap.size 5 i0 (.int .u8 0) 1 1 Tryd.underlying102 hi hz0 hz1 hz2 rfl (by decide) _ _ _ rfl (hown.alloc _) ⟨wr.heap.size, 0, none⟩ 1 1 [.int .u8 _] rfl rfl (cell_one_new _ _ _) (fun x hx => by simp at hx; subst hx; rfl) (by unfold maxLen; omega) (by omega) (by simp; omega) ?_; intro v' w3 hown3 hgr3 _; have HB3 : Hid (Below w.heap.size w w3) := (Below.grown (hb.alloc (by omega) _) hgr3 (by simp; omega) (fun j hj => by have := (hown.lt _ hj).1; omega)); have HO3 : Hid (w3.ownsRow w.heap.size 5 1 v' _ _) := hown3; clear hown3 hgr3)
      go_roundw
      case rel =>
        refine ⟨F * 16 % 18446744073709551616, k + 1, acc ++ [hexD l], by go_num, by omega, by go_num, by omega, by simp [hal], ?_, HB3.out, ?_⟩
        · show _ = _
          have h := HD.out
          rw [show 16 - k = (16 - (k + 1)) + 1 by omega, digs, ← HL.out] at h
          rw [List.append_assoc]; exact h
        · show World.ownsRow _ _ _ _ _ _ _
          rw [byteCells_append', List.length_append]
          exact HO3.out
      case measure => simp [intOf]; omega
    · have hI : ¬ (k : Int) < 16 := by omega
      have HE : Hid (acc = R) := by
        have h := HD.out
        rw [show 16 - k = 0 by omega, digs, List.append_nil] at h
        exact h
      have hcv := conv_own' HO.out
      go_wp2
      go_ret
      exact ⟨by rw [HE.out]; rfl, hb⟩

/-- A float's bits, shown. -/
def shB (f : Int) : ByteArray := if isNan f.toNat then ⟨#[110, 97, 110]⟩ else ⟨(48 :: 120 :: dgs 16 f.toNat).toArray⟩

theorem formatBool_any (b : Bool) (w : World) : Calls Tryd.prog 62 #[.bool b] w fun r w' => r = .returned (.string (if b then ⟨#[116, 114, 117, 101]⟩ else ⟨#[102, 97, 108, 115, 101]⟩)) ∧ w' = w := by
  cases b
  all_goals
    go_enter Tryd.func62, Tryd.ntmps62
    go_wp2
    go_ret
    exact ⟨rfl, rfl⟩

set_option maxRecDepth 100000 in
set_option maxHeartbeats 2000000 in
theorem shownBits_any (f : Int) (w : World) (h0 : 0 ≤ f) (h1 : f ≤ 18446744073709551615) (hz : zAt w) :
    Calls Tryd.prog 64 #[.int .u64 f] w fun r w' => r = .returned (.string (shB f)) ∧ Below w.heap.size w w' := by
  have HN : Hid (∀ W, Calls Tryd.prog 70 #[.int .u64 f] W fun r w' => r = .returned (.bool (isNan f.toNat)) ∧ w' = W) := fun W => isNaN_any f W h0 h1
  unfold shB
  obtain ⟨u, rfl⟩ : ∃ u : Nat, f = u := ⟨f.toNat, by omega⟩
  rw [Int.toNat_natCast] at HN ⊢
  have HF : Hid (Calls Tryd.prog 81 #[.int .u64 (u : Int), .int .i64 16] w fun r w' => r = .returned (.string ⟨(fd u).toArray⟩) ∧ Below w.heap.size w w') := formatUint_any u w (by omega) hz
  have hp := fd_pad 15 u (by omega)
  obtain ⟨hl1, hl2⟩ := fd_len 15 u (by omega)
  have HRp : Hid (∀ W, Calls Tryd.prog 82 #[.string ⟨#[48]⟩, .int .i64 ((16 - (fd u).length : Nat) : Int)] W fun r w' => r = .returned (.string ⟨(List.replicate (16 - (fd u).length) 48).toArray⟩) ∧ Below W.heap.size W w') := fun W => by
    have h := repeat_any ⟨#[48]⟩ (16 - (fd u).length) W (by omega) (by show 1 * _ ≤ _; omega)
    rw [rep_zero] at h
    exact h
  rw [← hp]
  generalize fd u = d at HF HRp hl1 hl2 ⊢
  generalize isNan u = v at HN ⊢
  have hds : (ByteArray.mk d.toArray).size = d.length := by show d.toArray.size = _; simp
  have hrs : (ByteArray.mk (List.replicate (16 - d.length) (48 : UInt8)).toArray).size = 16 - d.length := by show (List.replicate (16 - d.length) (48 : UInt8)).toArray.size = _; simp
  have hsub : (16 : Int) - (d.length : Int) = ((16 - d.length : Nat) : Int) := by omega
  have HX : Hid ((⟨#[48, 120]⟩ : ByteArray) ++ ⟨(List.replicate (16 - d.length) 48).toArray⟩ ++ ⟨d.toArray⟩ = ⟨(48 :: 120 :: (List.replicate (16 - d.length) 48 ++ d)).toArray⟩) := by
    show _ = _
    rw [show (⟨#[48, 120]⟩ : ByteArray) = ⟨([48, 120] : List UInt8).toArray⟩ from rfl, ByteArray.mk_append_mk, ByteArray.mk_append_mk]
    rfl
  cases v
  · simp only [Bool.false_eq_true, ↓reduceIte]
    rw [← HX.out]
    go_enter Tryd.func64, Tryd.ntmps64
    go_wp2_with fail
    refine (HN.out _).mono ?_
    rintro r w1 ⟨rfl, rfl⟩
    go_wp2_with fail
    refine HF.out.mono ?_
    rintro r w1 ⟨rfl, b1⟩
    go_wp2_with fail
    refine (HRp.out _).mono ?_
    rintro r w2 ⟨rfl, b2⟩
    go_wp2_with fail
    go_ret
    exact ⟨rfl, b1.trans (b2.mono b1.size)⟩
  · simp only [↓reduceIte]
    go_enter Tryd.func64, Tryd.ntmps64
    go_wp2_with fail
    refine (HN.out _).mono ?_
    rintro r w1 ⟨rfl, rfl⟩
    go_wp2_with fail
    go_ret
    exact ⟨rfl, Below.refl _ _⟩
end Go.Proofs.YtoplmbboaobahaaDoor
