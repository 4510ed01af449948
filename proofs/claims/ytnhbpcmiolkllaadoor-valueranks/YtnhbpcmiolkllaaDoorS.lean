/-
  Equal and Key at the int 5.
-/
import Derived.Test.YtnhbpcmiolkllaaDoorN
import Derived.Test.YtnhbpcmiolkllaaDoorR
namespace Go.Proofs.YtnhbpcmiolkllaaDoor
open Go.RowKit
attribute [local go_sem] refold2 cell3_0 cell3_1 b28_0 b28_01

theorem Right_5 (W : World) (h : NamesAt W) : Calls Tryd.prog 10 #[dat 2 ⟨#[105, 110, 116]⟩ 5 0 ⟨#[]⟩] W fun r w' => r = .returned (.bool true) ∧ Below W.heap.size W w' := by
  have hq : ((⟨#[105, 110, 116]⟩ : ByteArray).toList == [105, 110, 116] || declB ⟨#[105, 110, 116]⟩) = true := by rw [show ((⟨#[105, 110, 116]⟩ : ByteArray).toList == [105, 110, 116]) = true by rw [Lib.toList_data]; rfl]; rfl
  have h2 := Right_int ⟨#[105, 110, 116]⟩ 5 W h
  rw [hq] at h2
  exact h2

set_option maxRecDepth 100000 in
set_option maxHeartbeats 2000000 in
theorem Equal_5 (w : World) (hN : NamesAt w) :
    Calls Tryd.prog 22 #[dat 2 ⟨#[105, 110, 116]⟩ 5 0 ⟨#[]⟩, dat 2 ⟨#[105, 110, 116]⟩ 5 0 ⟨#[]⟩] w fun r w' => r = .returned (.tuple #[.bool true, .nilIface]) ∧ Below w.heap.size w w' := by
  have HR : Hid (∀ W, NamesAt W → Calls Tryd.prog 10 #[dat 2 ⟨#[105, 110, 116]⟩ 5 0 ⟨#[]⟩] W fun r w' => r = .returned (.bool true) ∧ Below W.heap.size W w') := Right_5
  have HE : Hid (∀ W, Calls Tryd.prog 48 #[dat 2 ⟨#[105, 110, 116]⟩ 5 0 ⟨#[]⟩, dat 2 ⟨#[105, 110, 116]⟩ 5 0 ⟨#[]⟩] W fun r w' => r = .returned (.tuple #[.bool true, .string ⟨#[]⟩]) ∧ Below W.heap.size W w') := equal_5
  simp only [dat, D] at HR HE ⊢
  go_enter Tryd.func22, Tryd.ntmps22
  go_wp2_with fail
  refine (HR.out _ (hN.kept (below2 _ _ _))).mono ?_
  rintro r w1 ⟨rfl, b1⟩
  obtain ⟨e1, d1⟩ := two_kept _ _ _ _ b1
  have q1 : Below w.heap.size w w1 := (below2 _ _ _).trans (b1.mono (by simp; omega))
  go_wp2_with fail
  refine (HR.out _ (hN.kept q1)).mono ?_
  rintro r w2 ⟨rfl, b2⟩
  have c2 := b1.trans (b2.mono b1.size)
  obtain ⟨e2, d2⟩ := two_kept _ _ _ _ c2
  have q2 := q1.trans (b2.mono q1.size)
  clear e1 d1
  go_wp2_with fail
  refine (HE.out _).mono ?_
  rintro r w3 ⟨rfl, b3⟩
  have q3 := q2.trans (b3.mono q2.size)
  clear e2 d2
  go_wp2_with fail
  refine bodyPost_ret (v := .tuple #[.bool true, .nilIface]) (by simp [results, Tryd.results22, go_sem]) rfl ⟨rfl, q3⟩

set_option maxRecDepth 100000 in
set_option maxHeartbeats 2000000 in
theorem incomparable_5 (w : World) : Calls Tryd.prog 37 #[dat 2 ⟨#[105, 110, 116]⟩ 5 0 ⟨#[]⟩] w fun r w' => r = .returned (.string ⟨#[]⟩) ∧ Below w.heap.size w w' := by
  have HE : Hid (∀ W, Calls Tryd.prog 48 #[dat 2 ⟨#[105, 110, 116]⟩ 5 0 ⟨#[]⟩, dat 2 ⟨#[105, 110, 116]⟩ 5 0 ⟨#[]⟩] W fun r w' => r = .returned (.tuple #[.bool true, .string ⟨#[]⟩]) ∧ Below W.heap.size W w') := equal_5
  simp only [dat, D] at HE ⊢
  go_enter Tryd.func37, Tryd.ntmps37
  go_wp2_with (go_at_call 48; refine (HE.out _).mono ?_; rintro r w' ⟨rfl, hb⟩)
  go_ret
  exact ⟨rfl, (below1 _ _).trans (hb.mono (by simp))⟩

set_option maxRecDepth 100000 in
set_option maxHeartbeats 2000000 in
theorem Key_5 (w : World) (hN : NamesAt w) :
    Calls Tryd.prog 25 #[dat 2 ⟨#[105, 110, 116]⟩ 5 0 ⟨#[]⟩] w fun r w' => r = .returned .nilIface ∧ Below w.heap.size w w' := by
  have HR : Hid (∀ W, NamesAt W → Calls Tryd.prog 10 #[dat 2 ⟨#[105, 110, 116]⟩ 5 0 ⟨#[]⟩] W fun r w' => r = .returned (.bool true) ∧ Below W.heap.size W w') := Right_5
  have HI : Hid (∀ W, Calls Tryd.prog 37 #[dat 2 ⟨#[105, 110, 116]⟩ 5 0 ⟨#[]⟩] W fun r w' => r = .returned (.string ⟨#[]⟩) ∧ Below W.heap.size W w') := incomparable_5
  simp only [dat, D] at HR HI ⊢
  go_enter Tryd.func25, Tryd.ntmps25
  go_wp2_with fail
  refine (HR.out _ (hN.kept (below1 _ _))).mono ?_
  rintro r w1 ⟨rfl, b1⟩
  have e1 := one_kept _ _ _ b1
  have q1 : Below w.heap.size w w1 := (below1 _ _).trans (b1.mono (by simp))
  go_wp2_with fail
  refine (HI.out _).mono ?_
  rintro r w2 ⟨rfl, b2⟩
  have q2 := q1.trans (b2.mono q1.size)
  clear e1
  go_wp2_with fail
  go_ret
  exact ⟨rfl, q2⟩

end Go.Proofs.YtnhbpcmiolkllaaDoor
