/-
  The document's name of a type; whether a datum may be a key; a value's datum.
  What a value can do.
-/
import Derived.Test.YtnhbpcmiolkllaaDoorJa2J
namespace Go.Proofs.YtnhbpcmiolkllaaDoor
open Go.RowKit
attribute [local go_sem] refold2 cell3_0 cell3_1 b28_0 b28_01

set_option maxRecDepth 100000 in
set_option maxHeartbeats 4000000 in
theorem refName_any (x : MD) (w : World) (ht : x.h.t.size ≤ 140737488351232) : Calls Tryd.prog 42 #[x.val] w fun r w' => r = .returned (.string (nm x.h.k x.h.t)) ∧ Below w.heap.size w w' := by
  obtain ⟨⟨k, t, a, f, s, r0, r1, r2, r3, pp, path, pc⟩, ip, ic, items⟩ := x
  simp only at ht
  simp only [MD.val, D]
  by_cases h0 : k = 0
  · subst h0
    rw [show nm 0 t = ⟨#[110, 105, 108]⟩ from rfl]
    go_enter Tryd.func42, Tryd.ntmps42
    go_wp2
    go_ret
    exact ⟨rfl, below1 _ _⟩
  · by_cases h9 : k = 9
    · subst h9
      rw [show nm 9 t = ⟨#[42]⟩ ++ t from rfl]
      go_enter Tryd.func42, Tryd.ntmps42
      go_wp2
      go_ret
      exact ⟨rfl, below1 _ _⟩
    · rw [show nm k t = t by unfold nm; rw [if_neg h0, if_neg h9]]
      go_enter Tryd.func42, Tryd.ntmps42
      go_wp2
      go_ret
      exact ⟨rfl, below1 _ _⟩
theorem eleven_only (w3 : World) (h b : Nat) (h2 : b ≠ h) (v0 v1 v2 v3 v4 v5 v6 v7 v8 v9 v10 : Value) :
    (((((((((((w3.setCell ⟨h, 0, none⟩ v0).setCell ⟨h, 1, none⟩ v1).setCell ⟨h, 2, none⟩ v2).setCell ⟨h, 3, none⟩ v3).setCell ⟨h, 4, none⟩ v4).setCell ⟨h, 5, none⟩ v5).setCell ⟨h, 6, none⟩ v6).setCell ⟨h, 7, none⟩ v7).setCell ⟨h, 8, none⟩ v8).setCell ⟨h, 9, none⟩ v9).setCell ⟨h, 10, none⟩ v10).heap[b]? = w3.heap[b]? := by
  rw [heap_setCell_other _ _ _ _ _ h2, heap_setCell_other _ _ _ _ _ h2, heap_setCell_other _ _ _ _ _ h2, heap_setCell_other _ _ _ _ _ h2, heap_setCell_other _ _ _ _ _ h2, heap_setCell_other _ _ _ _ _ h2, heap_setCell_other _ _ _ _ _ h2, heap_setCell_other _ _ _ _ _ h2, heap_setCell_other _ _ _ _ _ h2, heap_setCell_other _ _ _ _ _ h2, heap_setCell_other _ _ _ _ _ h2]
set_option maxRecDepth 100000 in
set_option maxHeartbeats 4000000 in
theorem refKeyed_good (n : Nat) (x : MD) (w : World) (hx : MD.In w.heap.size w n x) (hf : MD.full n x = true) (hc : (MD.eqv n x x).2 = ⟨#[]⟩) : Calls Tryd.prog 39 #[x.val] w fun r w' => r = .returned (.bool (x.h.k != 5 && x.h.k != 6 && x.h.k != 7)) ∧ Below w.heap.size w w' := by
  have HE : Hid (∀ W, Below w.heap.size w W → Calls Tryd.prog 27 #[x.val] W fun r w' => r = .returned (.agg #[.string ⟨#[]⟩, .string ⟨#[]⟩]) ∧ Below W.heap.size W w') := fun W hW => refKey_good n x W (hx.later (Nat.le_refl _) hW) hf hc
  clear hx hf hc
  obtain ⟨⟨k, t, a, f, s, r0, r1, r2, r3, pp, path, pc⟩, ip, ic, items⟩ := x
  simp only [MD.val, D] at HE ⊢
  by_cases h5 : k = 5
  · subst h5
    go_enter Tryd.func39, Tryd.ntmps39
    go_wp2_with fail
    refine (HE.out _ (below1 _ _)).mono ?_
    rintro r w1 ⟨rfl, b1⟩
    have e1 := one_kept _ _ _ b1
    have z1 : w.heap.size < w1.heap.size := by have := b1.size; simp at this; omega
    have q1 : Below w.heap.size w w1 := (below1 _ _).trans (b1.mono (by simp))
    clear b1
    go_wp2_with fail
    go_ret
    exact ⟨rfl, q1.alloc q1.size _⟩
  · by_cases h6 : k = 6
    · subst h6
      go_enter Tryd.func39, Tryd.ntmps39
      go_wp2_with fail
      refine (HE.out _ (below1 _ _)).mono ?_
      rintro r w1 ⟨rfl, b1⟩
      have e1 := one_kept _ _ _ b1
      have z1 : w.heap.size < w1.heap.size := by have := b1.size; simp at this; omega
      have q1 : Below w.heap.size w w1 := (below1 _ _).trans (b1.mono (by simp))
      clear b1
      go_wp2_with fail
      go_ret
      exact ⟨rfl, q1.alloc q1.size _⟩
    · by_cases h7 : k = 7
      · subst h7
        go_enter Tryd.func39, Tryd.ntmps39
        go_wp2_with fail
        refine (HE.out _ (below1 _ _)).mono ?_
        rintro r w1 ⟨rfl, b1⟩
        have e1 := one_kept _ _ _ b1
        have z1 : w.heap.size < w1.heap.size := by have := b1.size; simp at this; omega
        have q1 : Below w.heap.size w w1 := (below1 _ _).trans (b1.mono (by simp))
        clear b1
        go_wp2_with fail
        go_ret
        exact ⟨rfl, q1.alloc q1.size _⟩
      · have x5 : (k == 5) = false := by simpa using h5
        have x6 : (k == 6) = false := by simpa using h6
        have x7 : (k == 7) = false := by simpa using h7
        go_enter Tryd.func39, Tryd.ntmps39
        go_wp2_with fail
        refine (HE.out _ (below1 _ _)).mono ?_
        rintro r w1 ⟨rfl, b1⟩
        have e1 := one_kept _ _ _ b1
        have z1 : w.heap.size < w1.heap.size := by have := b1.size; simp at this; omega
        have q1 : Below w.heap.size w w1 := (below1 _ _).trans (b1.mono (by simp))
        clear b1
        go_wp2_with fail
        go_ret
        exact ⟨by simp [bne, x5, x6, x7], q1.alloc q1.size _⟩
set_option maxRecDepth 100000 in
set_option maxHeartbeats 4000000 in
theorem refKeyed_fault (n : Nat) (x : MD) (w : World) (hx : MD.In w.heap.size w n x) (hf : MD.full n x = true) (hc : (MD.eqv n x x).2.size ≠ 0) : Calls Tryd.prog 39 #[x.val] w fun r w' => r = .returned (.bool (false)) ∧ Below w.heap.size w w' := by
  have HE : Hid (∀ W, Below w.heap.size w W → Calls Tryd.prog 27 #[x.val] W fun r w' => r = .returned (.agg #[.string ⟨#[107, 101, 121]⟩, .string (MD.eqv n x x).2]) ∧ Below W.heap.size W w') := fun W hW => refKey_fault n x W (hx.later (Nat.le_refl _) hW) hf hc
  generalize (MD.eqv n x x).2 = c at HE
  clear hx hf hc
  obtain ⟨⟨k, t, a, f, s, r0, r1, r2, r3, pp, path, pc⟩, ip, ic, items⟩ := x
  simp only [MD.val, D] at HE ⊢
  by_cases h5 : k = 5
  · subst h5
    go_enter Tryd.func39, Tryd.ntmps39
    go_wp2_with fail
    refine (HE.out _ (below1 _ _)).mono ?_
    rintro r w1 ⟨rfl, b1⟩
    have e1 := one_kept _ _ _ b1
    have z1 : w.heap.size < w1.heap.size := by have := b1.size; simp at this; omega
    have q1 : Below w.heap.size w w1 := (below1 _ _).trans (b1.mono (by simp))
    clear b1
    go_wp2_with fail
    go_ret
    exact ⟨rfl, q1.alloc q1.size _⟩
  · by_cases h6 : k = 6
    · subst h6
      go_enter Tryd.func39, Tryd.ntmps39
      go_wp2_with fail
      refine (HE.out _ (below1 _ _)).mono ?_
      rintro r w1 ⟨rfl, b1⟩
      have e1 := one_kept _ _ _ b1
      have z1 : w.heap.size < w1.heap.size := by have := b1.size; simp at this; omega
      have q1 : Below w.heap.size w w1 := (below1 _ _).trans (b1.mono (by simp))
      clear b1
      go_wp2_with fail
      go_ret
      exact ⟨rfl, q1.alloc q1.size _⟩
    · by_cases h7 : k = 7
      · subst h7
        go_enter Tryd.func39, Tryd.ntmps39
        go_wp2_with fail
        refine (HE.out _ (below1 _ _)).mono ?_
        rintro r w1 ⟨rfl, b1⟩
        have e1 := one_kept _ _ _ b1
        have z1 : w.heap.size < w1.heap.size := by have := b1.size; simp at this; omega
        have q1 : Below w.heap.size w w1 := (below1 _ _).trans (b1.mono (by simp))
        clear b1
        go_wp2_with fail
        go_ret
        exact ⟨rfl, q1.alloc q1.size _⟩
      · have x5 : (k == 5) = false := by simpa using h5
        have x6 : (k == 6) = false := by simpa using h6
        have x7 : (k == 7) = false := by simpa using h7
        go_enter Tryd.func39, Tryd.ntmps39
        go_wp2_with fail
        refine (HE.out _ (below1 _ _)).mono ?_
        rintro r w1 ⟨rfl, b1⟩
        have e1 := one_kept _ _ _ b1
        have z1 : w.heap.size < w1.heap.size := by have := b1.size; simp at this; omega
        have q1 : Below w.heap.size w w1 := (below1 _ _).trans (b1.mono (by simp))
        clear b1
        go_wp2_with fail
        go_ret
        exact ⟨by simp [bne, x5, x6, x7], q1.alloc q1.size _⟩
end Go.Proofs.YtnhbpcmiolkllaaDoor
namespace Go.Proofs.YtnhbpcmiolkllaaDoor
open Go.RowKit
attribute [local go_sem] refold2 cell3_0 cell3_1 b28_0 b28_01

/-- What a value of some type says to an assertion. -/
def Says (T I : TypeId) (v : Value) (q : Bool) : Prop := ∀ U : World, (Instr.typeAssert (.iface T v) 34 I true).run Tryd.prog U = .ok (.tuple #[if q then .iface T v else .nilIface, .bool q]) U
theorem says123_45 (v : Value) : Says 123 45 v false := fun U => run_typeAssert_lacksB Tryd.underlying45 (by kernel_rfl) (by kernel_rfl) v 34 U
theorem says123_87 (v : Value) : Says 123 87 v false := fun U => run_typeAssert_lacksB Tryd.underlying87 (by kernel_rfl) (by kernel_rfl) v 34 U
theorem says123_94 (v : Value) : Says 123 94 v true := fun U => run_typeAssert_hasB Tryd.underlying94 (by kernel_rfl) v 34 U
theorem says123_91 (v : Value) : Says 123 91 v false := fun U => run_typeAssert_lacksB Tryd.underlying91 (by kernel_rfl) (by kernel_rfl) v 34 U
theorem says124_45 (v : Value) : Says 124 45 v true := fun U => run_typeAssert_hasB Tryd.underlying45 (by kernel_rfl) v 34 U
theorem says124_87 (v : Value) : Says 124 87 v false := fun U => run_typeAssert_lacksB Tryd.underlying87 (by kernel_rfl) (by kernel_rfl) v 34 U
theorem says124_94 (v : Value) : Says 124 94 v true := fun U => run_typeAssert_hasB Tryd.underlying94 (by kernel_rfl) v 34 U
theorem says124_91 (v : Value) : Says 124 91 v false := fun U => run_typeAssert_lacksB Tryd.underlying91 (by kernel_rfl) (by kernel_rfl) v 34 U
theorem says125_45 (v : Value) : Says 125 45 v true := fun U => run_typeAssert_hasB Tryd.underlying45 (by kernel_rfl) v 34 U
theorem says125_87 (v : Value) : Says 125 87 v false := fun U => run_typeAssert_lacksB Tryd.underlying87 (by kernel_rfl) (by kernel_rfl) v 34 U
theorem says125_94 (v : Value) : Says 125 94 v true := fun U => run_typeAssert_hasB Tryd.underlying94 (by kernel_rfl) v 34 U
theorem says125_91 (v : Value) : Says 125 91 v false := fun U => run_typeAssert_lacksB Tryd.underlying91 (by kernel_rfl) (by kernel_rfl) v 34 U
theorem says126_45 (v : Value) : Says 126 45 v true := fun U => run_typeAssert_hasB Tryd.underlying45 (by kernel_rfl) v 34 U
theorem says126_87 (v : Value) : Says 126 87 v true := fun U => run_typeAssert_hasB Tryd.underlying87 (by kernel_rfl) v 34 U
theorem says126_94 (v : Value) : Says 126 94 v true := fun U => run_typeAssert_hasB Tryd.underlying94 (by kernel_rfl) v 34 U
theorem says126_91 (v : Value) : Says 126 91 v false := fun U => run_typeAssert_lacksB Tryd.underlying91 (by kernel_rfl) (by kernel_rfl) v 34 U
theorem says129_45 (v : Value) : Says 129 45 v false := fun U => run_typeAssert_lacksB Tryd.underlying45 (by kernel_rfl) (by kernel_rfl) v 34 U
theorem says129_87 (v : Value) : Says 129 87 v true := fun U => run_typeAssert_hasB Tryd.underlying87 (by kernel_rfl) v 34 U
theorem says129_94 (v : Value) : Says 129 94 v false := fun U => run_typeAssert_lacksB Tryd.underlying94 (by kernel_rfl) (by kernel_rfl) v 34 U
theorem says129_91 (v : Value) : Says 129 91 v true := fun U => run_typeAssert_hasB Tryd.underlying91 (by kernel_rfl) v 34 U
theorem says130_45 (v : Value) : Says 130 45 v false := fun U => run_typeAssert_lacksB Tryd.underlying45 (by kernel_rfl) (by kernel_rfl) v 34 U
theorem says130_87 (v : Value) : Says 130 87 v false := fun U => run_typeAssert_lacksB Tryd.underlying87 (by kernel_rfl) (by kernel_rfl) v 34 U
theorem says130_94 (v : Value) : Says 130 94 v false := fun U => run_typeAssert_lacksB Tryd.underlying94 (by kernel_rfl) (by kernel_rfl) v 34 U
theorem says130_91 (v : Value) : Says 130 91 v true := fun U => run_typeAssert_hasB Tryd.underlying91 (by kernel_rfl) v 34 U
theorem says131_45 (v : Value) : Says 131 45 v false := fun U => run_typeAssert_lacksB Tryd.underlying45 (by kernel_rfl) (by kernel_rfl) v 34 U
theorem says131_87 (v : Value) : Says 131 87 v false := fun U => run_typeAssert_lacksB Tryd.underlying87 (by kernel_rfl) (by kernel_rfl) v 34 U
theorem says131_94 (v : Value) : Says 131 94 v false := fun U => run_typeAssert_lacksB Tryd.underlying94 (by kernel_rfl) (by kernel_rfl) v 34 U
theorem says131_91 (v : Value) : Says 131 91 v true := fun U => run_typeAssert_hasB Tryd.underlying91 (by kernel_rfl) v 34 U
theorem says132_45 (v : Value) : Says 132 45 v false := fun U => run_typeAssert_lacksB Tryd.underlying45 (by kernel_rfl) (by kernel_rfl) v 34 U
theorem says132_87 (v : Value) : Says 132 87 v false := fun U => run_typeAssert_lacksB Tryd.underlying87 (by kernel_rfl) (by kernel_rfl) v 34 U
theorem says132_94 (v : Value) : Says 132 94 v true := fun U => run_typeAssert_hasB Tryd.underlying94 (by kernel_rfl) v 34 U
theorem says132_91 (v : Value) : Says 132 91 v true := fun U => run_typeAssert_hasB Tryd.underlying91 (by kernel_rfl) v 34 U
theorem says73_45 (v : Value) : Says 73 45 v false := fun U => run_typeAssert_lacksB Tryd.underlying45 (by kernel_rfl) (by kernel_rfl) v 34 U
theorem says73_87 (v : Value) : Says 73 87 v false := fun U => run_typeAssert_lacksB Tryd.underlying87 (by kernel_rfl) (by kernel_rfl) v 34 U
theorem says73_94 (v : Value) : Says 73 94 v false := fun U => run_typeAssert_lacksB Tryd.underlying94 (by kernel_rfl) (by kernel_rfl) v 34 U
theorem says73_91 (v : Value) : Says 73 91 v false := fun U => run_typeAssert_lacksB Tryd.underlying91 (by kernel_rfl) (by kernel_rfl) v 34 U
theorem says78_45 (v : Value) : Says 78 45 v false := fun U => run_typeAssert_lacksB Tryd.underlying45 (by kernel_rfl) (by kernel_rfl) v 34 U
theorem says78_87 (v : Value) : Says 78 87 v false := fun U => run_typeAssert_lacksB Tryd.underlying87 (by kernel_rfl) (by kernel_rfl) v 34 U
theorem says78_94 (v : Value) : Says 78 94 v true := fun U => run_typeAssert_hasB Tryd.underlying94 (by kernel_rfl) v 34 U
theorem says78_91 (v : Value) : Says 78 91 v false := fun U => run_typeAssert_lacksB Tryd.underlying91 (by kernel_rfl) (by kernel_rfl) v 34 U
set_option maxRecDepth 100000 in
set_option maxHeartbeats 4000000 in
theorem abilities_any (T : TypeId) (v : Value) (qa qb qc qd : Bool) (w : World) (ha : Says T 45 v qa) (hb : Says T 87 v qb) (hc : Says T 94 v qc) (hd : Says T 91 v qd) :
    Calls Tryd.prog 41 #[.iface T v] w fun r w' => r = .returned (.agg #[.bool qa, .bool qb, .bool qc, .bool qd]) ∧ Below w.heap.size w w' := by
  unfold Says at ha hb hc hd
  generalize (if qa = true then Value.iface T v else Value.nilIface) = xa at ha
  generalize (if qb = true then Value.iface T v else Value.nilIface) = xb at hb
  generalize (if qc = true then Value.iface T v else Value.nilIface) = xc at hc
  generalize (if qd = true then Value.iface T v else Value.nilIface) = xd at hd
  go_enter Tryd.func41, Tryd.ntmps41
  go_wp2
  exact bodyPost_ret (v := .agg #[.bool qa, .bool qb, .bool qc, .bool qd]) (by simp [results, Tryd.results41, go_sem]) rfl ⟨rfl, below1 _ _⟩
end Go.Proofs.YtnhbpcmiolkllaaDoor
