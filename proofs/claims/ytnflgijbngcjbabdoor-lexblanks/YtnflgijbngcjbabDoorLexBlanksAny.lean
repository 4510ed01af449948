/-
  The law LexBlanks at every input: texts that are left out, and the rest.
-/
import Derived.Test.YtnflgijbngcjbabDoorLexBlanksWalk
namespace Go.Proofs.YtnflgijbngcjbabDoor
open Go.RowKit

set_option maxHeartbeats 1000000 in
theorem lexBlanks_out {gw ow gs os : Nat} (s : ByteArray) (a0 : Option Addr) (n cap : Nat) (w : World) (ht : TabsAt gw ow gs os w) (h : (∃ c p, scanSpec s.data.toList = .error (c, p)) ∨ 20000 < s.size ∨ n = 0) :
    Calls Tryd.prog 3 #[.string s, .slice a0 n cap] w fun e w' => e = .returned (.bool true) ∧ Below w.heap.size w w' := by
  obtain ⟨X, hX⟩ : ∃ X, X = scanSpec s.data.toList := ⟨_, rfl⟩
  have HX : Hid (X = scanSpec s.data.toList) := hX
  rw [← hX] at h
  clear hX
  go_enter Tryd.func3, Tryd.ntmps3
  go_wp2_with fail
  refine (known_any _ ht).mono ?_
  rintro r w1 ⟨rfl, hb1⟩
  have hz1' := hb1.size
  have ht1 := ht.below (Nat.le_refl _) hb1
  go_wp2_with fail
  refine (scan_any s _ ht1).mono ?_
  intro r w2 hres
  rw [← HX.out] at hres
  cases hres with
  | error c p b he hlo hwr hb2 =>
    subst he
    clear h
    go_wp2_with fail
    go_ret
    exact ⟨rfl, hb1.trans (hb2.mono hz1')⟩
  | ok ts v he hown hn hb2 =>
    subst he
    have HB2 : Hid (Below w.heap.size w w2) := hb1.trans (hb2.mono hz1')
    rcases h with ⟨c, p, h⟩ | h | h
    · cases h
    · clear HX hown hb1 hb2
      go_wp2_with fail
      go_ret
      exact ⟨rfl, HB2.out⟩
    · subst h
      clear HX hown hb1 hb2
      by_cases h20 : 20000 < s.size
      · go_wp2_with fail
        go_ret
        exact ⟨rfl, HB2.out⟩
      · go_wp2_with fail
        go_ret
        exact ⟨rfl, HB2.out⟩

theorem lexBlanks_any {gw ow gs os : Nat} (s : ByteArray) (a0 : Option Addr) (n cap : Nat) (R : Nat → Int) (w : World) (ht : TabsAt gw ow gs os w) (hA : 0 < n → ∃ A, a0 = some A ∧ A.block < w.heap.size) (hnm : n ≤ 9223372036854775807)
    (hR : ∀ j A, j < n → a0 = some A → w.cell? (A.add j) = some (.int .i64 (R j)) ∧ -9223372036854775808 ≤ R j ∧ R j ≤ 9223372036854775807) :
    Calls Tryd.prog 3 #[.string s, .slice a0 n cap] w fun e w' => e = .returned (.bool true) ∧ Below w.heap.size w w' := by
  cases hs : scanSpec s.data.toList with
  | error e => obtain ⟨c, p⟩ := e; exact lexBlanks_out s a0 n cap w ht (.inl ⟨c, p, hs⟩)
  | ok ts =>
    by_cases h20 : 20000 < s.size
    · exact lexBlanks_out s a0 n cap w ht (.inr (.inl h20))
    · by_cases hn : n = 0
      · exact lexBlanks_out s a0 n cap w ht (.inr (.inr hn))
      · obtain ⟨A, rfl, hAb⟩ := hA (by omega)
        exact lexBlanks_main s A n cap R w ht hAb (by omega) hnm (fun j hj => hR j A hj rfl) ts hs (by omega)
end Go.Proofs.YtnflgijbngcjbabDoor
