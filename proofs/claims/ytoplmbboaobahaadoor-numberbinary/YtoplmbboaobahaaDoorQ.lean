/-
  The walks of inOrder, and of Binary's comparisons.
-/
import Derived.Test.YtoplmbboaobahaaDoorP
import Derived.Test.YtoplmbboaobahaaDoorJ
namespace Go.Proofs.YtoplmbboaobahaaDoor
open Go.RowKit

attribute [local go_sem] refold2 cell3_0 cell3_1 b28_0 b28_01 b28_012 b28_013 b28_014 b35_01 b35_0 b35 mkI69 x56 x57

/-- What a comparison of two data of one kind says. -/
def cv (o : COp) (k a b f f' : Int) (s s' : ByteArray) : Bool :=
  if k = 2 then o.iv a b else if k = 3 then o.fv (Ieee.double.order f.toNat f'.toNat) else o.sv s.toList s'.toList

set_option maxRecDepth 100000 in
set_option maxHeartbeats 2000000 in
theorem inOrder_any (o : COp) (k : Int) (hk : k = 2 ∨ k = 3 ∨ k = 4) (t : ByteArray) (a b f f' : Int) (s s' : ByteArray) (r0 r1 r2 r3 : Int) (p i : Value) (q0 q1 q2 q3 : Int) (p' i' : Value) (w : World) :
    Calls Tryd.prog 45 #[.string o.txt, D k t a f s r0 r1 r2 r3 p i, D k t b f' s' q0 q1 q2 q3 p' i'] w fun r w' => r = .returned (.bool (cv o k a b f f' s s')) ∧ Below w.heap.size w w' := by
  have HI : Hid (∀ W, Calls Tryd.prog 73 #[.string o.txt, .int .i64 a, .int .i64 b] W fun r w' => r = .returned (.bool (o.iv a b)) ∧ w' = W) := fun W => holds_int o a b W
  have HF : Hid (∀ W, Calls Tryd.prog 74 #[.string o.txt, .float .f64 f.toNat, .float .f64 f'.toNat] W fun r w' => r = .returned (.bool (o.fv (Ieee.double.order f.toNat f'.toNat))) ∧ w' = W) := fun W => holds_flt o _ _ W
  have HS : Hid (∀ W, Calls Tryd.prog 75 #[.string o.txt, .string s, .string s'] W fun r w' => r = .returned (.bool (o.sv s.toList s'.toList)) ∧ w' = W) := fun W => holds_str o s s' W
  have e2 : cv o 2 a b f f' s s' = o.iv a b := rfl
  have e3 : cv o 3 a b f f' s s' = o.fv (Ieee.double.order f.toNat f'.toNat) := rfl
  have e4 : cv o 4 a b f f' s s' = o.sv s.toList s'.toList := rfl
  generalize o.txt = u at HI HF HS ⊢
  simp only [D]
  rcases hk with rfl | rfl | rfl
  · rw [e2]
    clear e2 e3 e4 HF HS
    go_enter Tryd.func45, Tryd.ntmps45
    go_wp2_with (go_at_call 73; refine (HI.out _).mono ?_; rintro r w' ⟨rfl, rfl⟩)
    go_ret
    exact ⟨rfl, below2 _ _ _⟩
  · rw [e3]
    clear e2 e3 e4 HI HS
    go_enter Tryd.func45, Tryd.ntmps45
    go_wp2_with fail
    go_region_held3 (fun W => W.cell? ⟨w.heap.size, 3, none⟩ = some (.int .u64 f) ∧ W.cell? ⟨w.heap.size + 1, 3, none⟩ = some (.int .u64 f')) ((first | (simp [go_sem]; done) | assumption)) ((go_at_call 74; refine (HF.out _).mono ?_; rintro r w' ⟨rfl, rfl⟩))
    go_wp2_with fail
    go_ret
    exact ⟨rfl, (below2 _ _ _).drew⟩
  · rw [e4]
    clear e2 e3 e4 HF HI
    go_enter Tryd.func45, Tryd.ntmps45
    go_wp2_with (go_at_call 75; refine (HS.out _).mono ?_; rintro r w' ⟨rfl, rfl⟩)
    go_ret
    exact ⟨rfl, below2 _ _ _⟩

set_option maxRecDepth 100000 in
set_option maxHeartbeats 8000000 in
theorem binary_cmp (o : COp) (k : Int) (hk : k = 2 ∨ k = 3 ∨ k = 4) (t : ByteArray) (a b f f' : Int) (s s' : ByteArray) (r0 r1 r2 r3 : Int) (p i : Value) (q0 q1 q2 q3 : Int) (p' i' : Value) (w : World) :
    Calls Tryd.prog 15 #[.string o.txt, D k t a f s r0 r1 r2 r3 p i, D k t b f' s' q0 q1 q2 q3 p' i'] w fun r w' => r = .returned (.tuple #[dat 1 ⟨#[98, 111, 111, 108]⟩ (b01 (cv o k a b f f' s s')) 0 ⟨#[]⟩, .nilIface]) ∧ Below w.heap.size w w' := by
  have HO : Hid (∀ W, Calls Tryd.prog 45 #[.string o.txt, D k t a f s r0 r1 r2 r3 p i, D k t b f' s' q0 q1 q2 q3 p' i'] W fun r w' => r = .returned (.bool (cv o k a b f f' s s')) ∧ Below W.heap.size W w') := fun W => inOrder_any o k hk t a b f f' s s' r0 r1 r2 r3 p i q0 q1 q2 q3 p' i' W
  have HB : Hid (∀ W, Calls Tryd.prog 37 #[.string ⟨#[98, 111, 111, 108]⟩, .bool (cv o k a b f f' s s')] W fun r w' => r = .returned (dat 1 ⟨#[98, 111, 111, 108]⟩ (b01 (cv o k a b f f' s s')) 0 ⟨#[]⟩) ∧ Below W.heap.size W w') := fun W => boolOf_any ⟨#[98, 111, 111, 108]⟩ _ W (by decide)
  generalize cv o k a b f f' s s' = v at HO HB ⊢
  generalize b01 v = n at HB ⊢
  simp only [dat, D] at HO HB ⊢
  rcases hk with rfl | rfl | rfl <;> cases o <;> simp only [COp.txt] at HO ⊢
  all_goals
    go_enter Tryd.func15, Tryd.ntmps15
    go_wp2_with fail
    refine (HO.out _).mono ?_
    rintro r w1 ⟨rfl, hb1⟩
    go_wp2_with fail
    refine (HB.out _).mono ?_
    rintro r w2 ⟨rfl, hb2⟩
    have hb := hb1.trans (hb2.mono hb1.size)
    obtain ⟨⟨c0, c1, c2, c3, c4, c5, c6, c7, c8, c9, c10⟩, hf2⟩ := box_kept ((hb.block (w.heap.size + 1 + 1) (by simp)).trans (heap3_2 _ _ _ _))
    go_wp2_with fail
    refine bodyPost_ret (v := .tuple #[.agg #[.int .i64 1, .string ⟨#[98, 111, 111, 108]⟩, .int .i64 n, .int .u64 0, .string ⟨#[]⟩, .int .i64 0, .int .i64 0, .int .i64 0, .int .i64 0, .slice none 0 0, .slice none 0 0], .nilIface]) (by simp [results, Tryd.results15, go_sem, c0, c1, c2, c3, c4, c5, c6, c7, c8, c9, c10]) rfl ⟨rfl, ?_⟩
    exact bset ((below3 w _ _ _).trans (hb.mono (by simp; omega))) (by omega) _ _ _ _ _ _ _ _ _ _ _

end Go.Proofs.YtoplmbboaobahaaDoor
