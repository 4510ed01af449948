/-
  The law's own maker of data: its numbers, one behind the other.
-/
import Derived.Test.YtnhbpcmiolkllabDoorB
import Derived.BigQuiet
namespace Go.Proofs.YtnhbpcmiolkllabDoor
open Go.RowKit

def pickN (c n : Int) : Int := if c < 0 then (-(c + 1)).tmod n else c.tmod n
theorem pickN_range (c n : Int) (hn : 0 < n) : 0 ≤ pickN c n ∧ pickN c n < n := by
  unfold pickN
  split
  · rw [Int.tmod_eq_emod_of_nonneg (by omega)]
    exact ⟨Int.emod_nonneg _ (by omega), Int.emod_lt_of_pos _ hn⟩
  · rw [Int.tmod_eq_emod_of_nonneg (by omega)]
    exact ⟨Int.emod_nonneg _ (by omega), Int.emod_lt_of_pos _ hn⟩
set_option maxRecDepth 100000 in
theorem pickN_any (c n : Int) (w : World) (h0 : -9223372036854775808 ≤ c) (h1 : c ≤ 9223372036854775807) (n0 : 0 < n) (n1 : n ≤ 1000) : Calls Tryd.prog 16 #[.int .i64 c, .int .i64 n] w fun r w' => r = .returned (.int .i64 (pickN c n)) ∧ w' = w := by
  have hr := pickN_range c n n0
  have hz : (n == 0) = false := by simp; omega
  unfold pickN at hr ⊢
  by_cases hc : c < 0
  · rw [if_pos hc] at hr ⊢
    go_enter Tryd.func16, Tryd.ntmps16
    go_wp2
    go_ret
    exact ⟨by simp, rfl⟩
  · rw [if_neg hc] at hr ⊢
    go_enter Tryd.func16, Tryd.ntmps16
    go_wp2
    go_ret
    exact ⟨by first | rfl | simp [Int.tmod_eq_emod_of_nonneg (show 0 ≤ c by omega)], rfl⟩

/-- A maker: where it stands in its numbers. -/
structure MakerAt (w : World) (kb : Nat) (rp : Option Addr) (raw : List Int) (rc at_ : Nat) : Prop where
  row : w.heap[kb]? = some (.cells #[.slice rp raw.length rc, .int .i64 at_] 26 (0, 0))
  cells : raw = [] ∨ ∃ b o, rp = some ⟨b, o, none⟩ ∧ b < w.heap.size ∧ b ≠ kb ∧ ∀ (i : Nat) (hi : i < raw.length), w.cell? ⟨b, o + i, none⟩ = some (.int .i64 raw[i])
  bounds : ∀ x ∈ raw, -9223372036854775808 ≤ x ∧ x ≤ 9223372036854775807
  len : raw.length ≤ 9223372036854775807
/-- Only the maker has changed. -/
structure Moved (kb : Nat) (w w' : World) : Prop where
  os : w'.os = w.os
  tape : w'.tape = w.tape
  output : w'.output = w.output
  size : w.heap.size ≤ w'.heap.size
  block : ∀ b, b < w.heap.size → b ≠ kb → w'.heap[b]? = w.heap[b]?
theorem Moved.trans {kb : Nat} {a b c : World} (h : Moved kb a b) (k : Moved kb b c) : Moved kb a c :=
  ⟨k.os.trans h.os, k.tape.trans h.tape, k.output.trans h.output, Nat.le_trans h.size k.size, fun i hi hn => (k.block i (Nat.lt_of_lt_of_le hi h.size) hn).trans (h.block i hi hn)⟩
theorem Moved.of_below {kb : Nat} {w w' : World} (h : Below w.heap.size w w') : Moved kb w w' := ⟨h.os, h.tape, h.output, h.size, fun b hb _ => h.block b hb⟩
theorem Moved.low {kb : Nat} {w w' : World} (h : Moved kb w w') (hk : kb ≤ w.heap.size) : Below kb w w' := ⟨h.os, h.tape, h.output, h.size, fun b hb => h.block b (by omega) (by omega)⟩
theorem MakerAt.moved {w w' : World} {kb : Nat} {rp : Option Addr} {raw : List Int} {rc a a' : Nat} (h : MakerAt w kb rp raw rc a) (hm : Moved kb w w') (hr : w'.heap[kb]? = some (.cells #[.slice rp raw.length rc, .int .i64 a'] 26 (0, 0))) : MakerAt w' kb rp raw rc a' := by
  refine ⟨hr, ?_, h.bounds, h.len⟩
  rcases h.cells with e | ⟨b, o, e1, e2, e3, e4⟩
  · exact .inl e
  · exact .inr ⟨b, o, e1, Nat.lt_of_lt_of_le e2 hm.size, e3, fun i hi => (World.cell?_of_block (a := ⟨b, o + i, none⟩) (hm.block b e2 e3)).trans (e4 i hi)⟩
theorem MakerAt.below {w w' : World} {kb : Nat} {rp : Option Addr} {raw : List Int} {rc a : Nat} (h : MakerAt w kb rp raw rc a) (hb : Below w.heap.size w w') : MakerAt w' kb rp raw rc a :=
  h.moved (Moved.of_below hb) ((hb.block kb (Array.getElem?_eq_some_iff.1 h.row).1).trans h.row)
theorem moved_set {kb o : Nat} {w : World} {v : Value} : Moved kb w (w.setCell ⟨kb, o, none⟩ v) := ⟨rfl, rfl, rfl, by simp, fun b _ hn => Below.heap_setCell _ _ _ _ hn⟩
theorem row2_set {w : World} {g : Nat} {a b v : Value} (h : w.heap[g]? = some (.cells #[a, b] 26 (0, 0))) : (w.setCell ⟨g, 1, none⟩ v).heap[g]? = some (.cells #[a, v] 26 (0, 0)) := by
  have hlt := (Array.getElem?_eq_some_iff.1 h).1
  show (w.heap.modify g _)[g]? = _
  rw [Array.getElem?_eq_getElem (by rw [Array.size_modify]; exact hlt), Array.getElem_modify_self]
  have := (Array.getElem?_eq_some_iff.1 h).2
  rw [this]; rfl

def NextP (kb : Nat) (rp : Option Addr) (raw : List Int) (rc at_ : Nat) (lo hi : Int) (w : World) (r : Ending) (w' : World) : Prop := ∃ c : Int, r = .returned (.int .i64 c) ∧ lo ≤ c ∧ c ≤ hi ∧ MakerAt w' kb rp raw rc (at_ + 1) ∧ Moved kb w w'
theorem next_done {w W : World} {kb : Nat} {rp : Option Addr} {raw : List Int} {rc at_ : Nat} {lo hi c : Int} (hM : MakerAt w kb rp raw rc at_) (hh : W.heap = w.heap ∧ W.os = w.os ∧ W.tape = w.tape ∧ W.output = w.output) (h1 : lo ≤ c) (h2 : c ≤ hi) : NextP kb rp raw rc at_ lo hi w (.returned (.int .i64 c)) (W.setCell ⟨kb, 1, none⟩ (.int .i64 ((at_ : Int) + 1))) := by
  have hr : W.heap[kb]? = some (.cells #[.slice rp raw.length rc, .int .i64 at_] 26 (0, 0)) := by rw [hh.1]; exact hM.row
  have hmv : Moved kb w (W.setCell ⟨kb, 1, none⟩ (.int .i64 ((at_ : Int) + 1))) := Moved.trans ⟨hh.2.1, hh.2.2.1, hh.2.2.2, by rw [hh.1]; exact Nat.le_refl _, fun b _ _ => by rw [hh.1]⟩ moved_set
  exact ⟨c, rfl, h1, h2, hM.moved hmv (row2_set hr), hmv⟩

set_option maxRecDepth 100000 in
set_option maxHeartbeats 2000000 in
theorem next_any (kb : Nat) (rp : Option Addr) (raw : List Int) (rc at_ : Nat) (n : Int) (w : World) (hM : MakerAt w kb rp raw rc at_) (ha : at_ ≤ 100000) (n0 : 0 < n) (n1 : n ≤ 1000) :
    Calls Tryd.prog 20 #[.pointer (some ⟨kb, 0, none⟩), .int .i64 n] w (NextP kb rp raw rc at_ 0 (n - 1) w) := by
  have hr := row_at hM.row
  have hf := fun j => fz _ _ _ _ j hM.row
  have HM : Hid (MakerAt w kb rp raw rc at_) := hM
  have hl := hM.len
  by_cases hlt : at_ < raw.length
  · have i1 : (at_ : Int) < raw.length := by omega
    obtain ⟨b, o, rfl, hb, hc⟩ : ∃ b o, rp = some ⟨b, o, none⟩ ∧ b < w.heap.size ∧ w.cell? ⟨b, o + at_, none⟩ = some (.int .i64 raw[at_]) := by
      rcases hM.cells with e | ⟨b, o, e1, e2, _, e4⟩
      · subst e; simp at hlt
      · exact ⟨b, o, e1, e2, e4 at_ hlt⟩
    have hbd := hM.bounds _ (List.getElem_mem hlt)
    generalize raw[at_] = c at hc hbd
    clear hM
    have HP : Hid (∀ W, Calls Tryd.prog 16 #[.int .i64 c, .int .i64 n] W fun r w' => r = .returned (.int .i64 (pickN c n)) ∧ w' = W) := fun W => pickN_any c n W hbd.1 hbd.2 n0 n1
    have HR : Hid (0 ≤ pickN c n ∧ pickN c n ≤ n - 1) := ⟨(pickN_range c n n0).1, by have := (pickN_range c n n0).2; omega⟩
    generalize pickN c n = p at HP HR
    go_enter Tryd.func20, Tryd.ntmps20
    go_wp2_with fail
    go_quiet (fail)
    go_wp2_with fail
    obtain ⟨W1, hW1⟩ : ∃ W1, W1 = w.drewN nq := ⟨_, rfl⟩
    rw [← hW1]
    have hr1 : ∀ j, W1.cell? ⟨kb, j, none⟩ = (#[.slice (some ⟨b, o, none⟩) raw.length rc, .int .i64 at_] : Array Value)[j]? := fun j => by rw [hW1]; exact hr j
    have hf1 : ∀ j, W1.frozen? ⟨kb, j, none⟩ = false := fun j => by rw [hW1]; exact hf j
    have hc1 : W1.cell? ⟨b, o + at_, none⟩ = some (.int .i64 c) := by rw [hW1]; exact hc
    have hH : W1.heap = w.heap ∧ W1.os = w.os ∧ W1.tape = w.tape ∧ W1.output = w.output := by rw [hW1]; exact ⟨rfl, rfl, rfl, rfl⟩
    have HH : Hid _ := hH
    clear hW1 hH
    go_quiet (exact Calls.quiet_of_same (HP.out _))
    go_wp2_with fail
    go_ret
    have hH := HH.out
    exact next_done HM.out ⟨hH.1, hH.2.1, hH.2.2.1, hH.2.2.2⟩ HR.out.1 HR.out.2
  · have i1 : ¬ (at_ : Int) < raw.length := by omega
    clear hM
    go_enter Tryd.func20, Tryd.ntmps20
    go_wp2_with fail
    go_quiet (fail)
    go_wp2_with fail
    go_ret
    exact next_done HM.out ⟨rfl, rfl, rfl, rfl⟩ (Int.le_refl _) (by omega)
set_option maxRecDepth 100000 in
set_option maxHeartbeats 2000000 in
theorem raw_any (kb : Nat) (rp : Option Addr) (raw : List Int) (rc at_ : Nat) (w : World) (hM : MakerAt w kb rp raw rc at_) (ha : at_ ≤ 100000) :
    Calls Tryd.prog 30 #[.pointer (some ⟨kb, 0, none⟩)] w (NextP kb rp raw rc at_ (-9223372036854775808) 9223372036854775807 w) := by
  have hr := row_at hM.row
  have hf := fun j => fz _ _ _ _ j hM.row
  have HM : Hid (MakerAt w kb rp raw rc at_) := hM
  have hl := hM.len
  by_cases hlt : at_ < raw.length
  · have i1 : (at_ : Int) < raw.length := by omega
    obtain ⟨b, o, rfl, hb, hc⟩ : ∃ b o, rp = some ⟨b, o, none⟩ ∧ b < w.heap.size ∧ w.cell? ⟨b, o + at_, none⟩ = some (.int .i64 raw[at_]) := by
      rcases hM.cells with e | ⟨b, o, e1, e2, _, e4⟩
      · subst e; simp at hlt
      · exact ⟨b, o, e1, e2, e4 at_ hlt⟩
    have HR : Hid _ := hM.bounds _ (List.getElem_mem hlt)
    generalize raw[at_] = c at hc HR
    clear hM
    go_enter Tryd.func30, Tryd.ntmps30
    go_wp2_with fail
    go_quiet (fail)
    go_wp2_with fail
    obtain ⟨W1, hW1⟩ : ∃ W1, W1 = w.drewN nq := ⟨_, rfl⟩
    rw [← hW1]
    have hr1 : ∀ j, W1.cell? ⟨kb, j, none⟩ = (#[.slice (some ⟨b, o, none⟩) raw.length rc, .int .i64 at_] : Array Value)[j]? := fun j => by rw [hW1]; exact hr j
    have hf1 : ∀ j, W1.frozen? ⟨kb, j, none⟩ = false := fun j => by rw [hW1]; exact hf j
    have hc1 : W1.cell? ⟨b, o + at_, none⟩ = some (.int .i64 c) := by rw [hW1]; exact hc
    have hH : W1.heap = w.heap ∧ W1.os = w.os ∧ W1.tape = w.tape ∧ W1.output = w.output := by rw [hW1]; exact ⟨rfl, rfl, rfl, rfl⟩
    have HH : Hid _ := hH
    clear hW1 hH
    go_quiet (fail)
    go_wp2_with fail
    go_ret
    have hH := HH.out
    exact next_done HM.out ⟨hH.1, hH.2.1, hH.2.2.1, hH.2.2.2⟩ HR.out.1 HR.out.2
  · have i1 : ¬ (at_ : Int) < raw.length := by omega
    clear hM
    go_enter Tryd.func30, Tryd.ntmps30
    go_wp2_with fail
    go_quiet (fail)
    go_wp2_with fail
    go_ret
    exact next_done HM.out ⟨rfl, rfl, rfl, rfl⟩ (by decide) (by decide)
end Go.Proofs.YtnhbpcmiolkllabDoor
