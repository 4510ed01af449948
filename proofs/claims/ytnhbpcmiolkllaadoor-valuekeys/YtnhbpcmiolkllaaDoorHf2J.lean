/-
  Key, at any datum.
  The answer's key, at any right datum.
  The hash of any right datum.
  Equal data have one hash.
  Hash, at any datum.
  The law ValueKeys, at any two data.
-/
import Derived.Test.YtnhbpcmiolkllaaDoorFb2
import Derived.Test.YtnhbpcmiolkllaaDoorGf2
import Derived.Test.YtnhbpcmiolkllaaDoorL
import Derived.Test.YtnhbpcmiolkllaaDoorQb
import Derived.Test.YtnhbpcmiolkllaaDoorFe2
import Derived.Laws.BytesArg
namespace Go.Proofs.YtnhbpcmiolkllaaDoor
open Go.RowKit
attribute [local go_sem] refold2 cell3_0 cell3_1 b28_0 b28_01

set_option maxRecDepth 100000 in
set_option maxHeartbeats 2000000 in
theorem incomparable_any (n : Nat) (x : MD) (w : World) (hx : MD.In w.heap.size w n x) (hf : MD.full n x = true) :
    Calls Tryd.prog 37 #[x.val] w fun r w' => r = .returned (.string (MD.eqv n x x).2) ∧ Below w.heap.size w w' := by
  have HE : Hid (∀ W, Below w.heap.size w W → Calls Tryd.prog 48 #[x.val, x.val] W fun r w' => r = .returned (.tuple #[.bool (MD.eqv n x x).1, .string (MD.eqv n x x).2]) ∧ Below W.heap.size W w') := fun W hW => eqv_any n x x W (hx.later (Nat.le_refl _) hW) (hx.later (Nat.le_refl _) hW) hf hf
  clear hx hf
  generalize (MD.eqv n x x).1 = q at HE
  generalize (MD.eqv n x x).2 = c at HE ⊢
  obtain ⟨⟨k, t, a, f, s, r0, r1, r2, r3, pp, path, pc⟩, ip, ic, items⟩ := x
  simp only [MD.val, D] at *
  go_enter Tryd.func37, Tryd.ntmps37
  go_wp2_with (go_at_call 48; refine (HE.out _ (below1 _ _)).mono ?_; rintro r w' ⟨rfl, hb⟩)
  go_ret
  exact ⟨rfl, (below1 _ _).trans (hb.mono (by simp))⟩
set_option maxRecDepth 100000 in
set_option maxHeartbeats 2000000 in
theorem Key_wrong (n : Nat) (x : MD) (w : World) (hN : NamesAt w) (hx : MD.In w.heap.size w n x) (h : MD.right n x = false) : Calls Tryd.prog 25 #[x.val] w fun r w' => ∃ m, r = .returned (.iface 79 (.pointer (some ⟨m, 0, none⟩))) ∧ w.heap.size ≤ m ∧ w'.heap[m]? = some (.cells #[.int .i64 1, .int .i64 0, .string ⟨#[]⟩] 83 (0, 0)) ∧ Below w.heap.size w w' := by
  have HR : Hid (∀ W, Below w.heap.size w W → Calls Tryd.prog 10 #[x.val] W fun r w' => r = .returned (.bool (MD.right n x)) ∧ Below W.heap.size W w') := fun W hW => Right_any n x W (hN.kept hW) (hx.later (Nat.le_refl _) hW)
  rw [h] at HR
  clear hx h
  obtain ⟨⟨k, t, a, f, s, r0, r1, r2, r3, pp, path, pc⟩, ip, ic, items⟩ := x
  simp only [MD.val, D] at *
  go_enter Tryd.func25, Tryd.ntmps25
  go_wp2_with fail
  refine (HR.out _ (below1 _ _)).mono ?_
  rintro r w1 ⟨rfl, b1⟩
  have e1 := one_kept _ _ _ b1
  have q1 : Below w.heap.size w w1 := (below1 _ _).trans (b1.mono (by simp))
  clear e1
  go_wp2_with (go_at_call 34; refine (wrong_any _).mono ?_; rintro r w4 ⟨rfl, rfl⟩)
  go_ret
  exact ⟨_, rfl, q1.size, heap_alloc_new _ _, q1.alloc q1.size _⟩
set_option maxRecDepth 100000 in
set_option maxHeartbeats 2000000 in
theorem Key_good (n : Nat) (x : MD) (w : World) (hN : NamesAt w) (hx : MD.In w.heap.size w n x) (h : MD.right n x = true) (hc : (MD.eqv n x x).2 = ⟨#[]⟩) : Calls Tryd.prog 25 #[x.val] w fun r w' => r = .returned .nilIface ∧ Below w.heap.size w w' := by
  have HR : Hid (∀ W, Below w.heap.size w W → Calls Tryd.prog 10 #[x.val] W fun r w' => r = .returned (.bool (MD.right n x)) ∧ Below W.heap.size W w') := fun W hW => Right_any n x W (hN.kept hW) (hx.later (Nat.le_refl _) hW)
  rw [h] at HR
  have HI : Hid (∀ W, Below w.heap.size w W → Calls Tryd.prog 37 #[x.val] W fun r w' => r = .returned (.string (MD.eqv n x x).2) ∧ Below W.heap.size W w') := fun W hW => incomparable_any n x W (hx.later (Nat.le_refl _) hW) (right_full h)
  rw [hc] at HI
  clear hx h hc
  obtain ⟨⟨k, t, a, f, s, r0, r1, r2, r3, pp, path, pc⟩, ip, ic, items⟩ := x
  simp only [MD.val, D] at *
  go_enter Tryd.func25, Tryd.ntmps25
  go_wp2_with fail
  refine (HR.out _ (below1 _ _)).mono ?_
  rintro r w1 ⟨rfl, b1⟩
  have e1 := one_kept _ _ _ b1
  have q1 : Below w.heap.size w w1 := (below1 _ _).trans (b1.mono (by simp))
  go_wp2_with fail
  refine (HI.out _ q1).mono ?_
  rintro r w2 ⟨rfl, b2⟩
  have q2 := q1.trans (b2.mono q1.size)
  clear e1
  go_wp2
  go_ret
  exact ⟨rfl, q2⟩
set_option maxRecDepth 100000 in
set_option maxHeartbeats 2000000 in
theorem Key_fault (n : Nat) (x : MD) (w : World) (hN : NamesAt w) (hx : MD.In w.heap.size w n x) (h : MD.right n x = true) (hc : (MD.eqv n x x).2.size ≠ 0) : Calls Tryd.prog 25 #[x.val] w fun r w' => ∃ m, r = .returned (.iface 103 (.pointer (some ⟨m, 0, none⟩))) ∧ w.heap.size ≤ m ∧ w'.heap[m]? = some (.cells #[.string ⟨#[107, 101, 121]⟩, .string (MD.eqv n x x).2] 53 (0, 0)) ∧ Below w.heap.size w w' := by
  have HR : Hid (∀ W, Below w.heap.size w W → Calls Tryd.prog 10 #[x.val] W fun r w' => r = .returned (.bool (MD.right n x)) ∧ Below W.heap.size W w') := fun W hW => Right_any n x W (hN.kept hW) (hx.later (Nat.le_refl _) hW)
  rw [h] at HR
  have HI : Hid (∀ W, Below w.heap.size w W → Calls Tryd.prog 37 #[x.val] W fun r w' => r = .returned (.string (MD.eqv n x x).2) ∧ Below W.heap.size W w') := fun W hW => incomparable_any n x W (hx.later (Nat.le_refl _) hW) (right_full h)
  generalize (MD.eqv n x x).2 = c at HI hc ⊢
  have he := ne_empty hc
  clear hx h hc
  obtain ⟨⟨k, t, a, f, s, r0, r1, r2, r3, pp, path, pc⟩, ip, ic, items⟩ := x
  simp only [MD.val, D] at *
  go_enter Tryd.func25, Tryd.ntmps25
  go_wp2_with fail
  refine (HR.out _ (below1 _ _)).mono ?_
  rintro r w1 ⟨rfl, b1⟩
  have e1 := one_kept _ _ _ b1
  have q1 : Below w.heap.size w w1 := (below1 _ _).trans (b1.mono (by simp))
  go_wp2_with fail
  refine (HI.out _ q1).mono ?_
  rintro r w2 ⟨rfl, b2⟩
  have q2 := q1.trans (b2.mono q1.size)
  clear e1
  go_wp2_with (go_at_call 49; refine (fault_any _ _ _).mono ?_; rintro r w3 ⟨rfl, rfl⟩)
  go_ret
  exact ⟨_, rfl, q2.size, heap_alloc_new _ _, q2.alloc q2.size _⟩
end Go.Proofs.YtnhbpcmiolkllaaDoor
namespace Go.Proofs.YtnhbpcmiolkllaaDoor
open Go.RowKit
attribute [local go_sem] refold2 cell3_0 cell3_1 b28_0 b28_01

set_option maxRecDepth 100000 in
set_option maxHeartbeats 2000000 in
theorem refKey_good (n : Nat) (x : MD) (w : World) (hx : MD.In w.heap.size w n x) (hf : MD.full n x = true) (hc : (MD.eqv n x x).2 = ⟨#[]⟩) :
    Calls Tryd.prog 27 #[x.val] w fun r w' => r = .returned (.agg #[.string ⟨#[]⟩, .string ⟨#[]⟩]) ∧ Below w.heap.size w w' := by
  have HE : Hid (∀ W, Below w.heap.size w W → Calls Tryd.prog 23 #[x.val, x.val] W fun r w' => r = .returned (.tuple #[.bool (MD.eqv n x x).1, .agg #[.string (fw (MD.eqv n x x).2), .string (MD.eqv n x x).2]]) ∧ Below W.heap.size W w') := fun W hW => refEq_any n x x W (hx.later (Nat.le_refl _) hW) (hx.later (Nat.le_refl _) hW) hf hf
  have ev : fw ⟨#[]⟩ = ⟨#[]⟩ := by unfold fw; rw [if_pos (by rfl)]
  rw [hc, ev] at HE
  generalize (MD.eqv n x x).1 = q at HE
  clear hx hf hc ev
  obtain ⟨⟨k, t, a, f, s, r0, r1, r2, r3, pp, path, pc⟩, ip, ic, items⟩ := x
  simp only [MD.val, D] at *
  go_enter Tryd.func27, Tryd.ntmps27
  go_wp2_with fail
  refine (HE.out _ (below2 _ _ _)).mono ?_
  rintro r w1 ⟨rfl, b1⟩
  have q1 : Below w.heap.size w w1 := (below2 _ _ _).trans (b1.mono (by simp; omega))
  have g1 : w1.heap[w.heap.size + 1]? = some (.cells #[.string ⟨#[]⟩, .string ⟨#[]⟩] 53 (0, 0)) := (b1.block _ (by simp)).trans (heap2_1 _ _ _)
  have gc := row_at g1
  have gf := fun j => fz _ _ _ _ j g1
  have hz := (lt_of_some g1)
  have hne : ¬ w1.heap.size = w.heap.size + 1 := by omega
  have hne2 : ¬ w.heap.size + 1 = w1.heap.size := by omega
  have al : ∀ (W : World) (o : Obj) (j : Nat), w.heap.size + 1 < W.heap.size → (W.alloc o).cell? ⟨w.heap.size + 1, j, none⟩ = W.cell? ⟨w.heap.size + 1, j, none⟩ := fun W o j h => by unfold World.cell?; rw [Below.heap_alloc _ _ _ h]
  have AL : Hid _ := al
  clear b1 g1 al
  go_wp2
  refine bodyPost_ret (v := .agg #[.string ⟨#[]⟩, .string ⟨#[]⟩]) (by simp [results, Tryd.results27, go_sem, gc, AL.out, hz]) rfl ⟨rfl, ?_⟩
  have q2 := (q1.setCell (p := ⟨w.heap.size + 1, 0, none⟩) (by show w.heap.size ≤ w.heap.size + 1; omega) (.string ⟨#[]⟩)).setCell (p := ⟨w.heap.size + 1, 1, none⟩) (by show w.heap.size ≤ w.heap.size + 1; omega) (.string ⟨#[]⟩)
  exact q2.alloc q2.size _

set_option maxRecDepth 100000 in
set_option maxHeartbeats 2000000 in
theorem refKey_fault (n : Nat) (x : MD) (w : World) (hx : MD.In w.heap.size w n x) (hf : MD.full n x = true) (hc : (MD.eqv n x x).2.size ≠ 0) :
    Calls Tryd.prog 27 #[x.val] w fun r w' => r = .returned (.agg #[.string ⟨#[107, 101, 121]⟩, .string (MD.eqv n x x).2]) ∧ Below w.heap.size w w' := by
  have HE : Hid (∀ W, Below w.heap.size w W → Calls Tryd.prog 23 #[x.val, x.val] W fun r w' => r = .returned (.tuple #[.bool (MD.eqv n x x).1, .agg #[.string (fw (MD.eqv n x x).2), .string (MD.eqv n x x).2]]) ∧ Below W.heap.size W w') := fun W hW => refEq_any n x x W (hx.later (Nat.le_refl _) hW) (hx.later (Nat.le_refl _) hW) hf hf
  have ev : fw (MD.eqv n x x).2 = ⟨#[99, 111, 109, 112, 97, 114, 101]⟩ := if_neg hc
  rw [ev] at HE
  generalize (MD.eqv n x x).1 = q at HE
  generalize (MD.eqv n x x).2 = c at HE ⊢
  clear hx hf hc ev
  obtain ⟨⟨k, t, a, f, s, r0, r1, r2, r3, pp, path, pc⟩, ip, ic, items⟩ := x
  simp only [MD.val, D] at *
  go_enter Tryd.func27, Tryd.ntmps27
  go_wp2_with fail
  refine (HE.out _ (below2 _ _ _)).mono ?_
  rintro r w1 ⟨rfl, b1⟩
  have q1 : Below w.heap.size w w1 := (below2 _ _ _).trans (b1.mono (by simp; omega))
  have g1 : w1.heap[w.heap.size + 1]? = some (.cells #[.string ⟨#[]⟩, .string ⟨#[]⟩] 53 (0, 0)) := (b1.block _ (by simp)).trans (heap2_1 _ _ _)
  have gc := row_at g1
  have gf := fun j => fz _ _ _ _ j g1
  have hz := (lt_of_some g1)
  have hne : ¬ w1.heap.size = w.heap.size + 1 := by omega
  have hne2 : ¬ w.heap.size + 1 = w1.heap.size := by omega
  have al : ∀ (W : World) (o : Obj) (j : Nat), w.heap.size + 1 < W.heap.size → (W.alloc o).cell? ⟨w.heap.size + 1, j, none⟩ = W.cell? ⟨w.heap.size + 1, j, none⟩ := fun W o j h => by unfold World.cell?; rw [Below.heap_alloc _ _ _ h]
  have AL : Hid _ := al
  clear b1 g1 al
  go_wp2
  refine bodyPost_ret (v := .agg #[.string ⟨#[107, 101, 121]⟩, .string c]) (by simp [results, Tryd.results27, go_sem, gc, AL.out, hz]) rfl ⟨rfl, ?_⟩
  have q2 := (q1.setCell (p := ⟨w.heap.size + 1, 0, none⟩) (by show w.heap.size ≤ w.heap.size + 1; omega) (.string ⟨#[107, 101, 121]⟩)).setCell (p := ⟨w.heap.size + 1, 1, none⟩) (by show w.heap.size ≤ w.heap.size + 1; omega) (.string c)
  exact q2.alloc q2.size _

end Go.Proofs.YtnhbpcmiolkllaaDoor
namespace Go.Proofs.YtnhbpcmiolkllaaDoor
open Go.RowKit
attribute [local go_sem] refold2 cell3_0 cell3_1 b28_0 b28_01

def uw (z : Int) : Int := IntKind.u64.wrap z
/-- A head, stirred in. -/
def stirC (h : Int) (k : Int) (t : ByteArray) (a f : Int) (s : ByteArray) (r0 : Int) (path : List Int) (il : Nat) : Int :=
  stir (stirT (stir (stirT (stir (stir (stirT (stir h (uw k)) t) (IntKind.u64.wrap a)) (nz f)) s) (IntKind.u64.wrap r0)) (strOfNums path)) il
/-- A datum, stirred in. -/
def MD.hash : Nat → Int → MD → Int
  | 0, h, _ => h
  | n + 1, h, d => d.items.foldl (MD.hash n) (stirC h d.h.k d.h.t d.h.n d.h.f d.h.s d.h.r0 d.h.path d.items.length)

theorem cvu (z : Int) (W : World) : (convert 3 22 (.int .i64 z)).run Tryd.prog W = .ok (.int .u64 (uw z)) W := by simp [go_sem, uw]
theorem full_items {n : Nat} {d : MD} (h : MD.full (n + 1) d = true) : ∀ q ∈ d.items, MD.full n q = true := by
  have h1 : (headOK d.h d.items.length && (d.h.k != 8 || (decide (d.items.length ≤ 30) && d.items.all (MD.full n)))) = true := h
  rw [Bool.and_eq_true] at h1
  by_cases h8 : d.h.k = 8
  · have := h1.2
    rw [h8] at this
    simp at this
    exact fun q hq => this.2 q hq
  · have h2 := h1.1
    unfold headOK at h2
    rw [Bool.and_eq_true, Bool.and_eq_true] at h2
    have h3 := h2.1.2
    unfold zeroK at h3
    simp only [Bool.and_eq_true, Bool.or_eq_true, beq_iff_eq] at h3
    rcases h3.2 with e | e
    · exact absurd e h8
    · have : d.items = [] := List.eq_nil_of_length_eq_zero (by exact_mod_cast e)
      rw [this]; intro q hq; cases hq

theorem full_small {n : Nat} {d : MD} (h : MD.full (n + 1) d = true) : d.h.s.size ≤ 65536 ∧ d.items.length ≤ 30 := by
  have h1 : (headOK d.h d.items.length && (d.h.k != 8 || (decide (d.items.length ≤ 30) && d.items.all (MD.full n)))) = true := h
  rw [Bool.and_eq_true] at h1
  have h2 := h1.1
  unfold headOK at h2
  rw [Bool.and_eq_true, Bool.and_eq_true] at h2
  have h3 := h2.1.2
  have h4 := h2.2
  unfold zeroK at h3
  simp only [Bool.and_eq_true, Bool.or_eq_true, beq_iff_eq] at h3
  constructor
  · by_cases k4 : d.h.k = 4
    · unfold kindB at h4
      rw [if_neg (by omega), if_neg (by omega), if_pos k4] at h4
      exact of_decide_eq_true h4
    · have e := size_of_list (h3.1.1.1.1.1.1.2.resolve_left k4)
      rw [e]; decide
  · by_cases h8 : d.h.k = 8
    · have := h1.2
      rw [h8] at this
      simp at this
      exact this.1
    · have := h3.2.resolve_left h8
      omega

def HashC (n : Nat) : Prop := ∀ (h : Int) (d : MD) (w : World), MD.In w.heap.size w n d → MD.full n d = true → Calls Tryd.prog 71 #[.int .u64 h, d.val] w fun r w' => r = .returned (.int .u64 (MD.hash n h d)) ∧ Below w.heap.size w w'
def HashRel (n : Nat) (z : Int) (items : List MD) (W : World) (x i : Value) (wr : World) : Prop :=
  ∃ (j : Nat) (y : Int), j ≤ items.length ∧ i = .int .i64 j ∧ x = .int .u64 y ∧ z = (items.drop j).foldl (MD.hash n) y ∧ Below W.heap.size W wr

set_option maxRecDepth 100000 in
set_option maxHeartbeats 8000000 in
theorem stirredIn_step (n : Nat) (hI : HashC n) : HashC (n + 1) := by
  intro h d w hin hf
  have HFi : Hid (∀ q ∈ d.items, MD.full n q = true) := full_items hf
  have HI : Hid (HashC n) := hI
  have hF := hin.fine
  have hP := hin.path
  have hits := hin.items
  obtain ⟨hs, hlen⟩ := full_small hf
  have fx2 : (headOK d.h d.items.length && (d.h.k != 8 || (decide (d.items.length ≤ 30) && d.items.all (MD.full n)))) = true := hf
  rw [Bool.and_eq_true] at fx2
  obtain ⟨hp, hb⟩ := head_path fx2.1
  have hty : tyB d.h.k d.h.t = true := by
    have := fx2.1
    unfold headOK at this
    rw [Bool.and_eq_true, Bool.and_eq_true] at this
    exact this.1.1
  have ht := ty_small hty
  clear fx2 hty hin hf hI
  obtain ⟨⟨k, t, a, f, s, r0, r1, r2, r3, pp, path, pc⟩, ip, ic, items⟩ := d
  simp only at ht hp hb hlen hs
  have hs : s.size ≤ 140737488351232 := by omega
  have hc9 := hP.2
  clear hF hP
  obtain ⟨cs, hcs⟩ : ∃ cs, cs = coreF Tryd.zeroCells138 k t a f s r0 path := ⟨_, rfl⟩
  have HC : Hid (∀ W, Below w.heap.size w W → Calls Tryd.prog 69 #[.agg #[.int .i64 k, .string t, .int .i64 a, .int .u64 f, .string s, .int .i64 r0, .int .i64 r1, .int .i64 r2, .int .i64 r3, .slice pp path.length pc, .slice ip items.length ic]] W fun r w' => r = .returned (.agg cs) ∧ Below W.heap.size W w') := fun W hW => by
    rw [hcs]
    refine coreOf_any k t a f s r0 r1 r2 r3 pp path pc ip items.length ic W hp hb ?_
    rcases hc9 with e | ⟨b, o, e1, e2, e3⟩
    · exact .inl e
    · exact .inr ⟨b, o, e1, Nat.lt_of_lt_of_le e2 hW.size, fun i hi => (hW.cell (p := ⟨b, o + i, none⟩) e2).trans (e3 i hi)⟩
  have hl := coreF_list k t a f s r0 path hp
  rw [← hcs] at hl
  have hsz : cs.size = 107 := by rw [hcs]; unfold coreF; rw [coreJ_size]; exact coreA_size _ _ _ _ _ _ _
  have hone : cs.all (·.oneCell') = true := by
    rw [hcs, Array.all_eq_true_iff_forall_mem]; exact coreJ_one path _ (Array.all_eq_true_iff_forall_mem.1 (coreA_one _ _ _ _ _ _ _)) _
  have hg : ∀ i, cs[i]? = (coreL k t a (nz f) s r0 path)[i]? := fun i => by rw [← Array.getElem?_toList, hl]
  have f0 : cs[0]? = some (.int .i64 k) := hg 0
  have f1 : cs[1]? = some (.string t) := hg 1
  have f2 : cs[2]? = some (.int .i64 a) := hg 2
  have f3 : cs[3]? = some (.int .u64 (nz f)) := hg 3
  have f4 : cs[4]? = some (.string s) := hg 4
  have f5 : cs[5]? = some (.int .i64 r0) := hg 5
  have f6 : cs[6]? = some (.int .i64 path.length) := hg 6
  have f7 : Hid (∀ i, i < path.length → cs[7 + i]? = some (.int .u8 (path.getD i 0))) := fun i hi => by
    rw [hg (7 + i)]
    unfold coreL pathV
    rw [List.getElem?_append_right (by simp), List.getElem?_map]
    have e : (List.range 100)[7 + i - 7]? = some i := by
      rw [show 7 + i - 7 = i by omega]; exact List.getElem?_range (by omega)
    show Option.map _ (List.range 100)[7 + i - 7]? = _
    rw [e]
    simp [List.getD]
  have hst : ∀ W : World, (storeCells ⟨W.heap.size, 0, none⟩ cs.toList).run Tryd.prog (W.alloc (.cells Tryd.zeroCells138 138)) = .ok () (W.alloc (.cells cs 138)) := fun W => run_storeCells_new W 138 Tryd.zeroCells138 cs (by rw [hsz]; exact info116) (by rw [hsz]; exact zero_size) hone
  clear hcs hone hl hg hc9 hb
  simp only [MD.val, D, MD.hash]
  generalize hnf : nz f = nf at f3
  have hpi : (path.length : Int) ≤ 100 := by omega
  have hii : (items.length : Int) ≤ 140737488351232 := by omega
  obtain ⟨Z, hZ⟩ : ∃ Z, Z = items.foldl (MD.hash n) (stirC h k t a f s r0 path items.length) := ⟨_, rfl⟩
  rw [← hZ]
  unfold stirC at hZ
  rw [hnf] at hZ
  have HZ : Hid (Z = items.foldl (MD.hash n) _) := hZ
  have HT : Hid (MD.ItemsIn w.heap.size w n ⟨⟨k, t, a, f, s, r0, r1, r2, r3, pp, path, pc⟩, ip, ic, items⟩) := hits
  clear hZ hits hnf
  go_enter Tryd.func71, Tryd.ntmps71
  go_wp2_with fail
  refine (HC.out _ (below1 _ _)).mono ?_
  rintro r w1 ⟨rfl, b1⟩
  have e1 : ∀ j, w1.cell? ⟨w.heap.size, j, none⟩ = (#[.int .i64 k, .string t, .int .i64 a, .int .u64 f, .string s, .int .i64 r0, .int .i64 r1, .int .i64 r2, .int .i64 r3, .slice pp path.length pc, .slice ip items.length ic] : Array Value)[j]? := fun j => row_at ((b1.block w.heap.size (by simp)).trans (heap_alloc_new _ _)) j
  have z1 : w.heap.size < w1.heap.size := by have := b1.size; simp at this; omega
  have q1 : Below w.heap.size w w1 := (below1 _ _).trans (b1.mono (by simp))
  have HQ1 : Hid _ := q1
  clear b1 q1
  go_wp2_with fail
  refine wp_region_noPanic ?_
  refine wp_region_held (S := fun W => ∀ j, W.cell? ⟨w1.heap.size, j, none⟩ = cs[j]?) (by kernel_rfl) ?_
  obtain ⟨W4, hW4⟩ : ∃ W4, W4 = (w1.alloc (.cells cs 138)).drew := ⟨_, rfl⟩
  have e4 : ({ (w1.alloc (.cells cs 138)) with drawn := (w1.alloc (.cells cs 138)).drawn + 1 } : World) = W4 := hW4.symm
  rw [e4]
  have hS : ∀ j, W4.cell? ⟨w1.heap.size, j, none⟩ = cs[j]? := fun j => by rw [hW4]; exact row_at (heap_alloc_new w1 _) j
  have hB4 : Below w.heap.size w W4 := by rw [hW4]; exact (HQ1.out.alloc HQ1.out.size _).drew
  have hI4 : ∀ j, W4.cell? ⟨w.heap.size, j, none⟩ = (#[.int .i64 k, .string t, .int .i64 a, .int .u64 f, .string s, .int .i64 r0, .int .i64 r1, .int .i64 r2, .int .i64 r3, .slice pp path.length pc, .slice ip items.length ic] : Array Value)[j]? := fun j => by rw [hW4]; exact (World.cell?_alloc_lt _ _ _ z1).trans (e1 j)
  have hz4 : w1.heap.size < W4.heap.size := by rw [hW4]; show _ < (w1.alloc _).heap.size; simp
  clear e4 hW4 e1 hst
  refine wpAnyH_take (i := 0) (v := .int .u64 h) rfl (by kernel_rfl) (by kernel_rfl) (by kernel_rfl) (fun _ _ _ h => h) (Or.inl ⟨by rfl, ?r⟩) hS ?_
  case r => intro W hW; simp [go_sem, execOp, Act.eval]
  simp only [List.getElem_toArray, List.getElem_cons_zero, Act.put, List.setIfInBounds_toArray, List.set_cons_succ, List.set_cons_zero]
  refine wpAnyH_take (i := 1) (v := .pointer (some ⟨w1.heap.size, 0, none⟩)) rfl (by kernel_rfl) (by kernel_rfl) (by kernel_rfl) (fun _ _ _ h => h) (Or.inl ⟨by rfl, ?r⟩) hS ?_
  case r => intro W hW; simp [go_sem, execOp, Act.eval]
  simp only [List.getElem_toArray, List.getElem_cons_zero, List.getElem_cons_succ, Act.put, List.setIfInBounds_toArray, List.set_cons_succ, List.set_cons_zero]
  refine wpAnyH_take (i := 2) (v := .pointer (some ⟨w1.heap.size, 0, none⟩)) rfl (by kernel_rfl) (by kernel_rfl) (by kernel_rfl) (fun _ _ _ h => h) (Or.inl ⟨by rfl, ?r⟩) hS ?_
  case r => intro W hW; simp [go_sem, execOp, Act.eval]
  simp only [List.getElem_toArray, List.getElem_cons_zero, List.getElem_cons_succ, Act.put, List.setIfInBounds_toArray, List.set_cons_succ, List.set_cons_zero]
  refine wpAnyH_take (i := 3) (v := .int .i64 k) rfl (by kernel_rfl) (by kernel_rfl) (by kernel_rfl) (fun _ _ _ h => h) (Or.inl ⟨by rfl, ?r⟩) hS ?_
  case r => intro W hW; simp [go_sem, execOp, Act.eval, hW, f0]
  simp only [List.getElem_toArray, List.getElem_cons_zero, List.getElem_cons_succ, Act.put, List.setIfInBounds_toArray, List.set_cons_succ, List.set_cons_zero]
  refine wpAnyH_take (i := 4) (v := .int .u64 (uw k)) rfl (by kernel_rfl) (by kernel_rfl) (by kernel_rfl) (fun _ _ _ h => h) (Or.inl ⟨by rfl, ?r⟩) hS ?_
  case r => intro W hW; simp [go_sem, execOp, Act.eval, cvu]
  simp only [List.getElem_toArray, List.getElem_cons_zero, List.getElem_cons_succ, Act.put, List.setIfInBounds_toArray, List.set_cons_succ, List.set_cons_zero]
  refine wpAnyH_take (i := 6) (v := .pointer (some ⟨w1.heap.size, 0, none⟩)) rfl (by kernel_rfl) (by kernel_rfl) (by kernel_rfl) (fun _ _ _ h => h) (Or.inl ⟨by rfl, ?r⟩) hS ?_
  case r => intro W hW; simp [go_sem, execOp, Act.eval]
  simp only [List.getElem_toArray, List.getElem_cons_zero, List.getElem_cons_succ, Act.put, List.setIfInBounds_toArray, List.set_cons_succ, List.set_cons_zero]
  refine wpAnyH_take (i := 7) (v := .pointer (some ⟨w1.heap.size, 1, none⟩)) rfl (by kernel_rfl) (by kernel_rfl) (by kernel_rfl) (fun _ _ _ h => h) (Or.inl ⟨by rfl, ?r⟩) hS ?_
  case r => intro W hW; simp [go_sem, execOp, Act.eval]
  simp only [List.getElem_toArray, List.getElem_cons_zero, List.getElem_cons_succ, Act.put, List.setIfInBounds_toArray, List.set_cons_succ, List.set_cons_zero]
  refine wpAnyH_take (i := 8) (v := .string t) rfl (by kernel_rfl) (by kernel_rfl) (by kernel_rfl) (fun _ _ _ h => h) (Or.inl ⟨by rfl, ?r⟩) hS ?_
  case r => intro W hW; simp [go_sem, execOp, Act.eval, hW, f1]
  simp only [List.getElem_toArray, List.getElem_cons_zero, List.getElem_cons_succ, Act.put, List.setIfInBounds_toArray, List.set_cons_succ, List.set_cons_zero]
  refine wpAnyH_all (rs := [5]) (by kernel_rfl) (by simp) (fun i2 hi2 => ?_)
  obtain rfl : i2 = 5 := by simpa using hi2
  clear hi2
  refine wpOp_step rfl (fun K hK => ite_yes rfl ?_)
  simp only [List.getElem_toArray, List.getElem_cons_zero, List.getElem_cons_succ]
  go_simp
  refine (stirred_any _ _ _).mono ?_
  rintro e w5 ⟨rfl, rfl⟩
  go_simp
  refine hK _ _ ⟨hS, ?_⟩
  clear hK K
  refine wpAnyH_all (rs := [9]) (by kernel_rfl) (by simp) (fun i2 hi2 => ?_)
  obtain rfl : i2 = 9 := by simpa using hi2
  clear hi2
  refine wpOp_step rfl (fun K hK => ite_yes rfl ?_)
  simp only [List.getElem_toArray, List.getElem_cons_zero, List.getElem_cons_succ]
  go_simp
  refine (stirredText_any _ _ _ (by omega)).mono ?_
  rintro e w6 ⟨rfl, rfl⟩
  go_simp
  refine hK _ _ ⟨hS, ?_⟩
  clear hK K
  refine wpAnyH_take (i := 10) (v := .int .u64 (stirT (stir h (uw k)) t)) rfl (by kernel_rfl) (by kernel_rfl) (by kernel_rfl) (fun _ _ _ h => h) (Or.inl ⟨by rfl, ?r⟩) hS ?_
  case r => intro W hW; simp [go_sem, execOp, Act.eval]
  simp only [List.getElem_toArray, List.getElem_cons_zero, List.getElem_cons_succ, Act.put, List.setIfInBounds_toArray, List.set_cons_zero]
  refine wpAnyH_done (by kernel_rfl) ?_ _
  refine NoPanic.normal ?_
  try simp only [Act.put]
  have g2 := (hS 2).trans f2
  have g3 := (hS 3).trans f3
  have g4 := (hS 4).trans f4
  have g5 := (hS 5).trans f5
  have g6 := (hS 6).trans f6
  have hcv : (convert 146 9 (.slice (some ⟨w1.heap.size, 7, none⟩) path.length 100)).run Tryd.prog w6 = .ok (.string (strOfNums path)) w6 :=
    run_convert_bytes_arg w6 146 5 Tryd.underlying146 Tryd.underlying5 w1.heap.size 7 path.length 100 path rfl (fun i hi => (hS (7 + i)).trans (f7.out i hi)) 9 Tryd.underlying9
  have h10 := hI4 10
  simp only [List.getElem?_toArray, List.getElem?_cons_succ, List.getElem?_cons_zero] at h10
  have HI4 : Hid _ := hI4
  have HB4 : Hid (Below w.heap.size w w6) := hB4
  clear hS hsz f0 f1 f2 f3 f4 f5 f6 HC hI4 hB4
  generalize hzz : stirT (stir h (uw k)) t = z0 at *
  have hq : (strOfNums path).size ≤ 140737488351232 := by rw [strOfNums_size]; omega
  generalize hzp : strOfNums path = sp at *
  go_wp2_with (first | (go_at_call 77; refine (stirred_any _ _ _).mono ?_; rintro r w' ⟨rfl, rfl⟩) | (go_at_call 76; refine (stirredText_any _ _ _ (by assumption)).mono ?_; rintro r w' ⟨rfl, rfl⟩))
  have HZ2 : Hid (Z = (items.drop 0).foldl (MD.hash n) (stir (stirT (stir (stirT (stir (stir z0 (IntKind.u64.wrap a)) nf) s) (IntKind.u64.wrap r0)) sp) items.length)) := by
    have h1 := HZ.out
    rw [List.drop_zero]; exact h1
  clear HZ hcv hq hzp hzz g2 g3 g4 g5 g6
  go_loopw [0, 54] (fun x i wr => HashRel n Z items w' x i wr) (fun _ i _ => items.length - (intOf i).toNat)
  case atStart => exact ⟨0, _, Nat.zero_le _, rfl, rfl, HZ2.out, Below.refl _ _⟩
  case round =>
    obtain ⟨j, y, hj, rfl, rfl, hq, hb⟩ := hrel
    have HB : Hid (Below w'.heap.size w' wr) := hb
    have HB0 : Hid (Below w.heap.size w wr) := HB4.out.trans (hb.mono HB4.out.size)
    have hz := HB0.out.size
    have HQ : Hid (Z = (items.drop j).foldl (MD.hash n) y) := hq
    clear hq hb
    by_cases hlt : j < items.length
    · have i1 : (j : Int) < items.length := by omega
      obtain ⟨bb, o, rfl, hbB, hC, hIn⟩ : ∃ bb o, ip = some ⟨bb, o, none⟩ ∧ bb < w.heap.size ∧ MD.CellsAt wr bb (o + j * 11) items[j] ∧ MD.In w.heap.size wr n items[j] := by
        rcases MD.ItemsIn.below HT.out HB0.out with e | ⟨bb, o, e1, e2, e3⟩
        · have e' : items = [] := e
          rw [e'] at hlt; simp at hlt
        · exact ⟨bb, o, e1, e2, e3 j hlt⟩
      have HQ2 : Hid (Z = (items.drop (j + 1)).foldl (MD.hash n) (MD.hash n y items[j])) := by
        have h1 := HQ.out
        rw [List.drop_eq_getElem_cons hlt, List.foldl_cons] at h1
        exact h1
      have HFk := HFi.out _ (List.getElem_mem hlt)
      generalize items[j] = kid at hC hIn HQ2 HFk
      have HK : Hid (∀ W, Below wr.heap.size wr W → Calls Tryd.prog 71 #[.int .u64 y, kid.val] W fun r w' => r = .returned (.int .u64 (MD.hash n y kid)) ∧ Below W.heap.size W w') := fun W hW => HI.out y kid W (MD.In.later hIn hz hW) HFk
      generalize MD.hash n y kid = y2 at HQ2 HK
      obtain ⟨⟨k0, k1, k2, k3, k4, k5, k6, k7, k8, kp, kpath, kpc⟩, kip, kic, kit⟩ := kid
      have c0 : wr.cell? ⟨bb, o + j * 11, none⟩ = some (.int .i64 k0) := hC 0 (by omega)
      have c1 : wr.cell? ⟨bb, o + j * 11 + 1, none⟩ = some (.string k1) := hC 1 (by omega)
      have c2 : wr.cell? ⟨bb, o + j * 11 + 2, none⟩ = some (.int .i64 k2) := hC 2 (by omega)
      have c3 : wr.cell? ⟨bb, o + j * 11 + 3, none⟩ = some (.int .u64 k3) := hC 3 (by omega)
      have c4 : wr.cell? ⟨bb, o + j * 11 + 4, none⟩ = some (.string k4) := hC 4 (by omega)
      have c5 : wr.cell? ⟨bb, o + j * 11 + 5, none⟩ = some (.int .i64 k5) := hC 5 (by omega)
      have c6 : wr.cell? ⟨bb, o + j * 11 + 6, none⟩ = some (.int .i64 k6) := hC 6 (by omega)
      have c7 : wr.cell? ⟨bb, o + j * 11 + 7, none⟩ = some (.int .i64 k7) := hC 7 (by omega)
      have c8 : wr.cell? ⟨bb, o + j * 11 + 8, none⟩ = some (.int .i64 k8) := hC 8 (by omega)
      have c9 : wr.cell? ⟨bb, o + j * 11 + 9, none⟩ = some (.slice kp kpath.length kpc) := hC 9 (by omega)
      have c10 : wr.cell? ⟨bb, o + j * 11 + 10, none⟩ = some (.slice kip kit.length kic) := hC 10 (by omega)
      clear hC hIn HI HFk HFi HT HI4 h10 HQ
      simp only [MD.val, D] at HK
      go_wp2_with (go_at_call 71; refine (HK.out _ (below1 _ _)).mono ?_; rintro r w2 ⟨rfl, b2⟩; have HX : Hid (Below wr.heap.size wr w2) := (below1 _ _).trans (b2.mono (by simp)); clear b2)
      exact ⟨⟨j + 1, _, hlt, by go_num, rfl, HQ2.out, HB.out.trans (HX.out.mono HB.out.size)⟩, by simp [intOf]; omega⟩
    · have i1 : ¬ (j : Int) < items.length := by omega
      have e : Z = y := by
        have h1 := HQ.out
        rw [List.drop_of_length_le (by omega)] at h1
        exact h1
      subst e
      clear HQ HZ2
      go_wp2_with fail
      go_ret
      exact ⟨rfl, HB0.out⟩

theorem stirredIn_any : ∀ n, HashC n
  | 0 => fun _ _ _ h _ => h.elim
  | n + 1 => stirredIn_step n (stirredIn_any n)

set_option maxRecDepth 100000 in
set_option maxHeartbeats 2000000 in
theorem hashed_any (n : Nat) (d : MD) (w : World) (hin : MD.In w.heap.size w n d) (hf : MD.full n d = true) : Calls Tryd.prog 50 #[d.val] w fun r w' => r = .returned (.int .u64 (MD.hash n 14695981039346656037 d)) ∧ Below w.heap.size w w' := by
  have HI : Hid (∀ (h : Int) (W : World), Below w.heap.size w W → Calls Tryd.prog 71 #[.int .u64 h, d.val] W fun r w' => r = .returned (.int .u64 (MD.hash n h d)) ∧ Below W.heap.size W w') := fun h W hW => stirredIn_any n h d W (hin.later (Nat.le_refl _) hW) hf
  have HI2 : Hid (∀ (W : World), Below w.heap.size w W → Calls Tryd.prog 71 #[.int .u64 14695981039346656037, d.val] W fun r w' => r = .returned (.int .u64 (MD.hash n 14695981039346656037 d)) ∧ Below W.heap.size W w') := fun W hW => HI.out _ W hW
  clear HI
  generalize MD.hash n 14695981039346656037 d = z at HI2 ⊢
  obtain ⟨⟨k, t, a, f, s, r0, r1, r2, r3, pp, path, pc⟩, ip, ic, items⟩ := d
  simp only [MD.val, D] at HI2 ⊢
  clear hin hf
  go_enter Tryd.func50, Tryd.ntmps50
  go_wp2_with (go_at_call 71; refine (HI2.out _ (below1 _ _)).mono ?_; rintro r w' ⟨rfl, hb⟩)
  go_ret
  exact ⟨rfl, (below1 _ _).trans (hb.mono (by simp))⟩
end Go.Proofs.YtnhbpcmiolkllaaDoor
namespace Go.Proofs.YtnhbpcmiolkllaaDoor

theorem feq_nz {f g : Int} (f0 : 0 ≤ f) (f1 : f ≤ 18446744073709551615) (g0 : 0 ≤ g) (g1 : g ≤ 18446744073709551615) (h : feq f g = true) : nz f = nz g := by
  rw [feq_rank f g f0 f1 g0 g1] at h
  simp only [Bool.and_eq_true, decide_eq_true_eq] at h
  have h2 := h.2
  unfold rnk at h2
  unfold nz
  by_cases h3 : f = 9223372036854775808 <;> by_cases h4 : g = 9223372036854775808 <;> by_cases h5 : f < 9223372036854775808 <;> by_cases h6 : g < 9223372036854775808 <;> simp only [h3, h4, h5, h6, if_true, if_false] at h2 ⊢ <;> omega

theorem zeroK_of_full {n : Nat} {d : MD} (h : MD.full (n + 1) d = true) : zeroK d.h.k d.h.n d.h.f d.h.s d.h.r0 d.h.r1 d.h.r2 d.h.r3 d.h.path.length d.items.length = true := by
  have h1 : (headOK d.h d.items.length && (d.h.k != 8 || (decide (d.items.length ≤ 30) && d.items.all (MD.full n)))) = true := h
  rw [Bool.and_eq_true] at h1
  have h2 := h1.1
  unfold headOK at h2
  rw [Bool.and_eq_true, Bool.and_eq_true] at h2
  exact h2.1.2

/-- Numbers are floats' bits, at all levels. -/
def MD.Fl : Nat → MD → Prop
  | 0, _ => True
  | n + 1, d => 0 ≤ d.h.f ∧ d.h.f ≤ 18446744073709551615 ∧ ∀ q ∈ d.items, MD.Fl n q
theorem MD.In.fl {B : Nat} {w : World} : ∀ (n : Nat) (d : MD), MD.In B w n d → MD.Fl n d
  | 0, _, h => h.elim
  | n + 1, d, h => by
    refine ⟨h.1.f0, h.1.f1, fun q hq => ?_⟩
    rcases h.2.2.2.2 with e | ⟨b, o, _, _, e3⟩
    · rw [e] at hq; cases hq
    · obtain ⟨i, hi, rfl⟩ := List.getElem_of_mem hq
      exact MD.In.fl n _ (e3 i hi).2

theorem fold_eq (n : Nat) (hI : ∀ (h : Int) (x y : MD), MD.Fl n x → MD.Fl n y → MD.full n x = true → MD.full n y = true → (MD.eqv n x y).1 = true → MD.hash n h x = MD.hash n h y) : ∀ (xs ys : List MD) (h : Int), xs.length = ys.length → (∀ q ∈ xs, MD.Fl n q) → (∀ q ∈ ys, MD.Fl n q) → (∀ q ∈ xs, MD.full n q = true) → (∀ q ∈ ys, MD.full n q = true) → (allEq (MD.eqv n) xs ys).1 = true → xs.foldl (MD.hash n) h = ys.foldl (MD.hash n) h
  | [], [], _, _, _, _, _, _, _ => rfl
  | [], _ :: _, _, hl, _, _, _, _, _ => by simp at hl
  | _ :: _, [], _, hl, _, _, _, _, _ => by simp at hl
  | x :: xs, y :: ys, h, hl, lx, ly, fx, fy, he => by
    unfold allEq at he
    by_cases hq : (MD.eqv n x y).1 = true
    · rw [if_pos hq] at he
      rw [List.foldl_cons, List.foldl_cons, hI h x y (lx x (by simp)) (ly y (by simp)) (fx x (by simp)) (fy y (by simp)) hq]
      exact fold_eq n hI xs ys _ (by simpa using hl) (fun q m => lx q (by simp [m])) (fun q m => ly q (by simp [m])) (fun q m => fx q (by simp [m])) (fun q m => fy q (by simp [m])) he
    · rw [if_neg hq] at he; cases he

theorem bytes_nil {s : ByteArray} (h : s.toList = []) : s = ⟨#[]⟩ := by
  have := size_of_list h
  apply ByteArray.ext
  exact Array.eq_empty_of_size_eq_zero this

theorem hash_eq : ∀ (n : Nat) (h : Int) (x y : MD), MD.Fl n x → MD.Fl n y → MD.full n x = true → MD.full n y = true → (MD.eqv n x y).1 = true → MD.hash n h x = MD.hash n h y
  | 0, _, _, _, _, _, _, _, he => by cases he
  | n + 1, h, x, y, lx, ly, fx, fy, he => by
    have zx := zeroK_of_full fx
    have zy := zeroK_of_full fy
    have ix := full_items fx
    have iy := full_items fy
    unfold MD.eqv at he
    by_cases hty : x.h.k = y.h.k ∧ x.h.t = y.h.t
    · rw [if_pos hty] at he
      unfold zeroK at zx zy
      simp only [Bool.and_eq_true, Bool.or_eq_true, beq_iff_eq] at zx zy
      obtain ⟨⟨⟨⟨⟨⟨⟨⟨x1, x2⟩, x3⟩, x4⟩, x5⟩, x6⟩, x7⟩, x8⟩, x9⟩ := zx
      obtain ⟨⟨⟨⟨⟨⟨⟨⟨y1, y2⟩, y3⟩, y4⟩, y5⟩, y6⟩, y7⟩, y8⟩, y9⟩ := zy
      have pn : ∀ l : List Int, (l.length : Int) = 0 → l = [] := fun l e => List.eq_nil_of_length_eq_zero (by exact_mod_cast e)
      have qn : ∀ l : List MD, (l.length : Int) = 0 → l = [] := fun l e => List.eq_nil_of_length_eq_zero (by exact_mod_cast e)
      show x.items.foldl (MD.hash n) (stirC h x.h.k x.h.t x.h.n x.h.f x.h.s x.h.r0 x.h.path x.items.length) = y.items.foldl (MD.hash n) (stirC h y.h.k y.h.t y.h.n y.h.f y.h.s y.h.r0 y.h.path y.items.length)
      by_cases h8 : x.h.k = 8
      · have k8 : y.h.k = 8 := hty.1 ▸ h8
        rw [if_pos h8] at he
        by_cases hl : x.items.length = y.items.length
        · rw [if_pos hl] at he
          rw [← hl, ← hty.1, ← hty.2]
          have a1 : x.h.n = 0 := by omega
          have a2 : y.h.n = 0 := by omega
          have b1 : x.h.f = 0 := by omega
          have b2 : y.h.f = 0 := by omega
          have c1 : x.h.s = ⟨#[]⟩ := bytes_nil (x3.resolve_left (by omega))
          have c2 : y.h.s = ⟨#[]⟩ := bytes_nil (y3.resolve_left (by omega))
          have d1 : x.h.r0 = 0 := by omega
          have d2 : y.h.r0 = 0 := by omega
          have e1 : x.h.path = [] := pn _ (x8.resolve_left (by omega))
          have e2 : y.h.path = [] := pn _ (y8.resolve_left (by omega))
          rw [a1, a2, b1, b2, c1, c2, d1, d2, e1, e2]
          exact fold_eq n (hash_eq n) _ _ _ hl lx.2.2 ly.2.2 ix iy he
        · rw [if_neg hl] at he; cases he
      · have n8 : y.h.k ≠ 8 := hty.1 ▸ h8
        have m1 : x.items = [] := qn _ (x9.resolve_left h8)
        have m2 : y.items = [] := qn _ (y9.resolve_left n8)
        rw [if_neg h8] at he
        rw [m1, m2, ← hty.1, ← hty.2]
        show stirC _ _ _ _ _ _ _ _ _ = stirC _ _ _ _ _ _ _ _ _
        by_cases h3 : x.h.k = 3
        · have k3 : y.h.k = 3 := hty.1 ▸ h3
          rw [if_pos h3] at he
          have a1 : x.h.n = 0 := by omega
          have a2 : y.h.n = 0 := by omega
          have c1 : x.h.s = ⟨#[]⟩ := bytes_nil (x3.resolve_left (by omega))
          have c2 : y.h.s = ⟨#[]⟩ := bytes_nil (y3.resolve_left (by omega))
          have d1 : x.h.r0 = 0 := by omega
          have d2 : y.h.r0 = 0 := by omega
          have e1 : x.h.path = [] := pn _ (x8.resolve_left (by omega))
          have e2 : y.h.path = [] := pn _ (y8.resolve_left (by omega))
          have := feq_nz lx.1 lx.2.1 ly.1 ly.2.1 he
          unfold stirC
          rw [a1, a2, this, c1, c2, d1, d2, e1, e2]
        · rw [if_neg h3] at he
          by_cases h5 : x.h.k = 5 ∨ x.h.k = 6 ∨ x.h.k = 7
          · rw [if_pos h5] at he; cases he
          · rw [if_neg h5] at he
            obtain ⟨e1, e2, e3, e4, e5⟩ := of_decide_eq_true he
            unfold stirC
            rw [e1, e2, e3, e4, e5]
    · rw [if_neg hty] at he; cases he

theorem allEq_right (n : Nat) (hI : ∀ (x y : MD), MD.Fl n x → MD.Fl n y → (MD.eqv n x y).1 = true → (MD.eqv n y y).1 = true) : ∀ (xs ys : List MD), xs.length = ys.length → (∀ q ∈ xs, MD.Fl n q) → (∀ q ∈ ys, MD.Fl n q) → (allEq (MD.eqv n) xs ys).1 = true → (allEq (MD.eqv n) ys ys).1 = true
  | [], [], _, _, _, _ => rfl
  | [], _ :: _, hl, _, _, _ => by simp at hl
  | _ :: _, [], hl, _, _, _ => by simp at hl
  | x :: xs, y :: ys, hl, lx, ly, he => by
    unfold allEq at he ⊢
    by_cases hq : (MD.eqv n x y).1 = true
    · rw [if_pos hq] at he
      rw [if_pos (hI x y (lx x (by simp)) (ly y (by simp)) hq)]
      exact allEq_right n hI xs ys (by simpa using hl) (fun q m => lx q (by simp [m])) (fun q m => ly q (by simp [m])) he
    · rw [if_neg hq] at he; cases he
/-- What is equal to something is equal to itself. -/
theorem eqv_right : ∀ (n : Nat) (x y : MD), MD.Fl n x → MD.Fl n y → (MD.eqv n x y).1 = true → (MD.eqv n y y).1 = true
  | 0, _, _, _, _, he => by cases he
  | n + 1, x, y, lx, ly, he => by
    unfold MD.eqv at he ⊢
    rw [if_pos ⟨rfl, rfl⟩]
    by_cases hty : x.h.k = y.h.k ∧ x.h.t = y.h.t
    · rw [if_pos hty, hty.1] at he
      by_cases h8 : y.h.k = 8
      · rw [if_pos h8] at he ⊢
        rw [if_pos rfl]
        by_cases hl : x.items.length = y.items.length
        · rw [if_pos hl] at he
          exact allEq_right n (eqv_right n) _ _ hl lx.2.2 ly.2.2 he
        · rw [if_neg hl] at he; cases he
      · rw [if_neg h8] at he ⊢
        by_cases h3 : y.h.k = 3
        · rw [if_pos h3] at he ⊢
          have h1 : feq x.h.f y.h.f = true := he
          rw [feq_rank _ _ lx.1 lx.2.1 ly.1 ly.2.1] at h1
          simp only [Bool.and_eq_true] at h1
          show feq y.h.f y.h.f = true
          rw [feq_rank _ _ ly.1 ly.2.1 ly.1 ly.2.1]
          simp only [Bool.and_eq_true, decide_eq_true_eq]
          exact ⟨⟨h1.1.2, h1.1.2⟩, trivial⟩
        · rw [if_neg h3] at he ⊢
          by_cases h5 : y.h.k = 5 ∨ y.h.k = 6 ∨ y.h.k = 7
          · rw [if_pos h5] at he; cases he
          · rw [if_neg h5]; exact decide_eq_true ⟨rfl, rfl, rfl, rfl, rfl⟩
    · rw [if_neg hty] at he; cases he
end Go.Proofs.YtnhbpcmiolkllaaDoor
namespace Go.Proofs.YtnhbpcmiolkllaaDoor
open Go.RowKit
attribute [local go_sem] refold2 cell3_0 cell3_1 b28_0 b28_01

set_option maxRecDepth 100000 in
set_option maxHeartbeats 4000000 in
theorem Hash_wrong (n : Nat) (x : MD) (w : World) (hN : NamesAt w) (hx : MD.In w.heap.size w n x) (h : MD.right n x = false) : Calls Tryd.prog 26 #[x.val] w fun r w' => (∃ m, r = .returned (.tuple #[.int .u64 0, .iface 79 (.pointer (some ⟨m, 0, none⟩))]) ∧ w'.heap[m]? = some (.cells #[.int .i64 1, .int .i64 0, .string ⟨#[]⟩] 83 (0, 0))) ∧ Below w.heap.size w w' := by
  have HKy : Hid (∀ W, Below w.heap.size w W → Calls Tryd.prog 25 #[x.val] W fun r w' => (∃ m, r = .returned (.iface 79 (.pointer (some ⟨m, 0, none⟩))) ∧ w'.heap[m]? = some (.cells #[.int .i64 1, .int .i64 0, .string ⟨#[]⟩] 83 (0, 0))) ∧ Below W.heap.size W w') := fun W hW => (Key_wrong n x W (hN.kept hW) (hx.later (Nat.le_refl _) hW) h).mono fun _ _ ⟨m, e1, _, e3, e4⟩ => ⟨⟨m, e1, e3⟩, e4⟩
  clear hx h
  obtain ⟨⟨k, t, a, f, s, r0, r1, r2, r3, pp, path, pc⟩, ip, ic, items⟩ := x
  simp only [MD.val, D] at HKy ⊢
  go_enter Tryd.func26, Tryd.ntmps26
  go_wp2_with fail
  refine (HKy.out _ (below1 _ _)).mono ?_
  rintro r w1 ⟨⟨m, rfl, g1⟩, b1⟩
  have q1 : Below w.heap.size w w1 := (below1 _ _).trans (b1.mono (by simp))
  clear b1
  go_wp2_with fail
  refine bodyPost_ret (v := .tuple #[.int .u64 0, .iface 79 (.pointer (some ⟨m, 0, none⟩))]) (by simp [results, Tryd.results26, go_sem]) rfl ⟨⟨m, rfl, g1⟩, q1⟩
set_option maxRecDepth 100000 in
set_option maxHeartbeats 4000000 in
theorem Hash_good (n : Nat) (x : MD) (w : World) (hN : NamesAt w) (hx : MD.In w.heap.size w n x) (h : MD.right n x = true) (hc : (MD.eqv n x x).2 = ⟨#[]⟩) : Calls Tryd.prog 26 #[x.val] w fun r w' => r = .returned (.tuple #[.int .u64 (MD.hash n 14695981039346656037 x), .nilIface]) ∧ Below w.heap.size w w' := by
  have HKy : Hid (∀ W, Below w.heap.size w W → Calls Tryd.prog 25 #[x.val] W fun r w' => r = .returned .nilIface ∧ Below W.heap.size W w') := fun W hW => Key_good n x W (hN.kept hW) (hx.later (Nat.le_refl _) hW) h hc
  have HH : Hid (∀ W, Below w.heap.size w W → Calls Tryd.prog 50 #[x.val] W fun r w' => r = .returned (.int .u64 (MD.hash n 14695981039346656037 x)) ∧ Below W.heap.size W w') := fun W hW => hashed_any n x W (hx.later (Nat.le_refl _) hW) (right_full h)
  clear hx h hc
  generalize MD.hash n 14695981039346656037 x = hv at HH ⊢
  obtain ⟨⟨k, t, a, f, s, r0, r1, r2, r3, pp, path, pc⟩, ip, ic, items⟩ := x
  simp only [MD.val, D] at HKy HH ⊢
  go_enter Tryd.func26, Tryd.ntmps26
  go_wp2_with fail
  refine (HKy.out _ (below1 _ _)).mono ?_
  rintro r w1 ⟨rfl, b1⟩
  have e1 := one_kept _ _ _ b1
  have q1 : Below w.heap.size w w1 := (below1 _ _).trans (b1.mono (by simp))
  clear b1
  go_wp2_with (go_at_call 50; refine (HH.out _ q1).mono ?_; rintro r w2 ⟨rfl, b2⟩)
  refine bodyPost_ret (v := .tuple #[.int .u64 hv, .nilIface]) (by simp [results, Tryd.results26, go_sem]) rfl ⟨rfl, q1.trans (b2.mono q1.size)⟩
set_option maxRecDepth 100000 in
set_option maxHeartbeats 4000000 in
theorem Hash_fault (n : Nat) (x : MD) (w : World) (hN : NamesAt w) (hx : MD.In w.heap.size w n x) (h : MD.right n x = true) (hc : (MD.eqv n x x).2.size ≠ 0) : Calls Tryd.prog 26 #[x.val] w fun r w' => (∃ m, r = .returned (.tuple #[.int .u64 0, .iface 103 (.pointer (some ⟨m, 0, none⟩))]) ∧ w'.heap[m]? = some (.cells #[.string ⟨#[107, 101, 121]⟩, .string (MD.eqv n x x).2] 53 (0, 0))) ∧ Below w.heap.size w w' := by
  have HKy : Hid (∀ W, Below w.heap.size w W → Calls Tryd.prog 25 #[x.val] W fun r w' => (∃ m, r = .returned (.iface 103 (.pointer (some ⟨m, 0, none⟩))) ∧ w'.heap[m]? = some (.cells #[.string ⟨#[107, 101, 121]⟩, .string (MD.eqv n x x).2] 53 (0, 0))) ∧ Below W.heap.size W w') := fun W hW => (Key_fault n x W (hN.kept hW) (hx.later (Nat.le_refl _) hW) h hc).mono fun _ _ ⟨m, e1, _, e3, e4⟩ => ⟨⟨m, e1, e3⟩, e4⟩
  clear hx h hc
  generalize (MD.eqv n x x).2 = c at HKy ⊢
  obtain ⟨⟨k, t, a, f, s, r0, r1, r2, r3, pp, path, pc⟩, ip, ic, items⟩ := x
  simp only [MD.val, D] at HKy ⊢
  go_enter Tryd.func26, Tryd.ntmps26
  go_wp2_with fail
  refine (HKy.out _ (below1 _ _)).mono ?_
  rintro r w1 ⟨⟨m, rfl, g1⟩, b1⟩
  have q1 : Below w.heap.size w w1 := (below1 _ _).trans (b1.mono (by simp))
  clear b1
  go_wp2_with fail
  refine bodyPost_ret (v := .tuple #[.int .u64 0, .iface 103 (.pointer (some ⟨m, 0, none⟩))]) (by simp [results, Tryd.results26, go_sem]) rfl ⟨⟨m, rfl, g1⟩, q1⟩

theorem bytes_none {c : ByteArray} (h : c.size = 0) : c = ⟨#[]⟩ := by apply ByteArray.ext; apply Array.eq_empty_of_size_eq_zero; exact h
/-- Hash of a right datum: if it is equal to another one, there is no fault, and the other one's number. -/
theorem Hash_some (n : Nat) (x y : MD) (w : World) (hN : NamesAt w) (hx : MD.In w.heap.size w n x) (hy : MD.In w.heap.size w n y) (h : MD.right n x = true) (h' : MD.right n y = true) : Calls Tryd.prog 26 #[y.val] w fun r w' => (∃ v e, r = .returned (.tuple #[.int .u64 v, e]) ∧ ((MD.eqv n x y).1 = true → v = MD.hash n 14695981039346656037 x ∧ e = .nilIface)) ∧ Below w.heap.size w w' := by
  by_cases hc : (MD.eqv n y y).2.size = 0
  · refine (Hash_good n y w hN hy h' (bytes_none hc)).mono fun r w' hr => ⟨⟨_, _, hr.1, fun he => ⟨?_, rfl⟩⟩, hr.2⟩
    exact (hash_eq n _ x y (MD.In.fl n x hx) (MD.In.fl n y hy) (right_full h) (right_full h') he).symm
  · refine (Hash_fault n y w hN hy h' hc).mono fun r w' ⟨⟨m, e1, _⟩, e3⟩ => ⟨⟨_, _, e1, fun he => ?_⟩, e3⟩
    have h1 := eqv_right n x y (MD.In.fl n x hx) (MD.In.fl n y hy) he
    exact absurd (by rw [eqv_fault n y y h1]; rfl) hc
end Go.Proofs.YtnhbpcmiolkllaaDoor
namespace Go.Proofs.YtnhbpcmiolkllaaDoor
open Go.RowKit
attribute [local go_sem] refold2 cell3_0 cell3_1 b28_0 b28_01

set_option maxRecDepth 100000 in
set_option maxHeartbeats 4000000 in
theorem keysLaw_wrong (n : Nat) (x y : MD) (w : World) (hN : NamesAt w) (hx : MD.In w.heap.size w n x) (hy : MD.In w.heap.size w n y) (h : MD.right n x = false) : Calls Tryd.prog 7 #[x.val, y.val] w fun r w' => r = .returned (.bool true) ∧ Below w.heap.size w w' := by
  have HRX : Hid (∀ W, Below w.heap.size w W → Calls Tryd.prog 11 #[x.val] W fun r w' => r = .returned (.bool (MD.right n x)) ∧ Below W.heap.size W w') := fun W hW => refRightAny n x W (hx.later (Nat.le_refl _) hW)
  have HRY : Hid (∀ W, Below w.heap.size w W → Calls Tryd.prog 11 #[y.val] W fun r w' => r = .returned (.bool (MD.right n y)) ∧ Below W.heap.size W w') := fun W hW => refRightAny n y W (hy.later (Nat.le_refl _) hW)
  have HKy : Hid (∀ W, Below w.heap.size w W → Calls Tryd.prog 25 #[x.val] W fun r w' => (∃ m, r = .returned (.iface 79 (.pointer (some ⟨m, 0, none⟩))) ∧ w'.heap[m]? = some (.cells #[.int .i64 1, .int .i64 0, .string ⟨#[]⟩] 83 (0, 0))) ∧ Below W.heap.size W w') := fun W hW => (Key_wrong n x W (hN.kept hW) (hx.later (Nat.le_refl _) hW) h).mono fun _ _ ⟨m, e1, _, e3, e4⟩ => ⟨⟨m, e1, e3⟩, e4⟩
  have HH : Hid (∀ W, Below w.heap.size w W → Calls Tryd.prog 26 #[x.val] W fun r w' => (∃ m, r = .returned (.tuple #[.int .u64 0, .iface 79 (.pointer (some ⟨m, 0, none⟩))]) ∧ w'.heap[m]? = some (.cells #[.int .i64 1, .int .i64 0, .string ⟨#[]⟩] 83 (0, 0))) ∧ Below W.heap.size W w') := fun W hW => Hash_wrong n x W (hN.kept hW) (hx.later (Nat.le_refl _) hW) h
  rw [h] at HRX
  clear hx hy h
  generalize MD.right n y = by' at HRY
  obtain ⟨⟨k, t, a, f, s, r0, r1, r2, r3, pp, path, pc⟩, ip, ic, items⟩ := x
  obtain ⟨⟨k', t', a', f', s', r0', r1', r2', r3', pp', path', pc'⟩, ip', ic', items'⟩ := y
  simp only [MD.val, D] at HRX HRY HKy HH ⊢
  obtain ⟨W2, hW2⟩ : ∃ W2, W2 = (w.alloc (.cells #[.int .i64 k, .string t, .int .i64 a, .int .u64 f, .string s, .int .i64 r0, .int .i64 r1, .int .i64 r2, .int .i64 r3, .slice pp path.length pc, .slice ip items.length ic] 28)).alloc (.cells #[.int .i64 k', .string t', .int .i64 a', .int .u64 f', .string s', .int .i64 r0', .int .i64 r1', .int .i64 r2', .int .i64 r3', .slice pp' path'.length pc', .slice ip' items'.length ic'] 28) := ⟨_, rfl⟩
  have HK : Hid (∀ W, Below W2.heap.size W2 W → Below w.heap.size w W ∧ (∀ i, W.cell? ⟨w.heap.size, i, none⟩ = (#[.int .i64 k, .string t, .int .i64 a, .int .u64 f, .string s, .int .i64 r0, .int .i64 r1, .int .i64 r2, .int .i64 r3, .slice pp path.length pc, .slice ip items.length ic] : Array Value)[i]?) ∧ ∀ i, W.cell? ⟨w.heap.size + 1, i, none⟩ = (#[.int .i64 k', .string t', .int .i64 a', .int .u64 f', .string s', .int .i64 r0', .int .i64 r1', .int .i64 r2', .int .i64 r3', .slice pp' path'.length pc', .slice ip' items'.length ic'] : Array Value)[i]?) := fun W hW => by rw [hW2] at hW; exact kept2 hW
  have hz2 : W2.heap.size = w.heap.size + 2 := by rw [hW2]; simp
  have hB2 : Below w.heap.size w W2 := by rw [hW2]; exact below2 _ _ _
  go_enter Tryd.func7, Tryd.ntmps7
  go_wp2_with fail
  rw [← hW2]
  clear hW2
  refine (known_any _ (hN.kept hB2)).mono ?_
  rintro r w3 ⟨rfl, b3⟩
  have HB3 : Hid (Below W2.heap.size W2 w3) := b3
  have hc3 := (HK.out _ HB3.out).2.1
  have hd3 := (HK.out _ HB3.out).2.2
  clear b3
  go_wp2_with fail
  refine (HRX.out _ (HK.out _ HB3.out).1).mono ?_
  rintro r w4 ⟨rfl, b4⟩
  have HB4 : Hid (Below W2.heap.size W2 w4) := HB3.out.trans (b4.mono HB3.out.size)
  have hc4 := (HK.out _ HB4.out).2.1
  have hd4 := (HK.out _ HB4.out).2.2
  clear b4 hc3 hd3
  go_wp2_with fail
  refine (HRY.out _ (HK.out _ HB4.out).1).mono ?_
  rintro r w5 ⟨rfl, b5⟩
  have HB5 : Hid (Below W2.heap.size W2 w5) := HB4.out.trans (b5.mono HB4.out.size)
  have hc5 := (HK.out _ HB5.out).2.1
  have hd5 := (HK.out _ HB5.out).2.2
  clear b5 hc4 hd4
  go_wp2_with fail
  refine (HKy.out _ (HK.out _ HB5.out).1).mono ?_
  rintro r w6 ⟨⟨m, rfl, g6⟩, b6⟩
  have HB6 : Hid (Below W2.heap.size W2 w6) := HB5.out.trans (b6.mono HB5.out.size)
  have hc6 := (HK.out _ HB6.out).2.1
  have hd6 := (HK.out _ HB6.out).2.2
  clear b6 hc5 hd5
  go_wp2_with fail
  refine (HH.out _ (HK.out _ HB6.out).1).mono ?_
  rintro r w7 ⟨⟨m', rfl, g7'⟩, b7⟩
  have HB7 : Hid (Below W2.heap.size W2 w7) := HB6.out.trans (b7.mono HB6.out.size)
  have hc7 := (HK.out _ HB7.out).2.1
  have hd7 := (HK.out _ HB7.out).2.2
  have g7 := (b7.block m (lt_of_some g6)).trans g6
  clear b7 hc6 hd6
  go_wp2_with fail
  refine (HH.out _ (HK.out _ HB7.out).1).mono ?_
  rintro r w8 ⟨⟨m'', rfl, g8''⟩, b8⟩
  have HB8 : Hid (Below W2.heap.size W2 w8) := HB7.out.trans (b8.mono HB7.out.size)
  have hc8 := (HK.out _ HB8.out).2.1
  have hd8 := (HK.out _ HB8.out).2.2
  have g8 := (b8.block m (lt_of_some g7)).trans g7
  have g8' := (b8.block m' (lt_of_some g7')).trans g7'
  clear b8 hc7 hd7
  clear g6 g7 g7' g8'' hc8 hd8
  go_wp2_with fail
  refine (wrong_hit m _ g8).mono ?_
  rintro r w9 ⟨rfl, b9⟩
  have g9 := (b9.block m' (lt_of_some g8')).trans g8'
  have HB9 : Hid (Below W2.heap.size W2 w9) := HB8.out.trans (b9.mono HB8.out.size)
  clear b9 g8 g8'
  go_wp2_with fail
  refine (wrong_hit m' _ g9).mono ?_
  rintro r w10 ⟨rfl, b10⟩
  have HB10 : Hid (Below W2.heap.size W2 w10) := HB9.out.trans (b10.mono HB9.out.size)
  clear b10 g9
  go_wp2_with fail
  go_ret
  exact ⟨rfl, (HK.out _ HB10.out).1⟩
set_option maxRecDepth 100000 in
set_option maxHeartbeats 4000000 in
theorem keysLaw_good (n : Nat) (x y : MD) (w : World) (hN : NamesAt w) (hx : MD.In w.heap.size w n x) (hy : MD.In w.heap.size w n y) (h : MD.right n x = true) (hc : (MD.eqv n x x).2 = ⟨#[]⟩) : Calls Tryd.prog 7 #[x.val, y.val] w fun r w' => r = .returned (.bool true) ∧ Below w.heap.size w w' := by
  have HRX : Hid (∀ W, Below w.heap.size w W → Calls Tryd.prog 11 #[x.val] W fun r w' => r = .returned (.bool (MD.right n x)) ∧ Below W.heap.size W w') := fun W hW => refRightAny n x W (hx.later (Nat.le_refl _) hW)
  have HRY : Hid (∀ W, Below w.heap.size w W → Calls Tryd.prog 11 #[y.val] W fun r w' => r = .returned (.bool (MD.right n y)) ∧ Below W.heap.size W w') := fun W hW => refRightAny n y W (hy.later (Nat.le_refl _) hW)
  have HKy : Hid (∀ W, Below w.heap.size w W → Calls Tryd.prog 25 #[x.val] W fun r w' => r = .returned .nilIface ∧ Below W.heap.size W w') := fun W hW => Key_good n x W (hN.kept hW) (hx.later (Nat.le_refl _) hW) h hc
  have HH : Hid (∀ W, Below w.heap.size w W → Calls Tryd.prog 26 #[x.val] W fun r w' => r = .returned (.tuple #[.int .u64 (MD.hash n 14695981039346656037 x), .nilIface]) ∧ Below W.heap.size W w') := fun W hW => Hash_good n x W (hN.kept hW) (hx.later (Nat.le_refl _) hW) h hc
  have HRK : Hid (∀ W, Below w.heap.size w W → Calls Tryd.prog 27 #[x.val] W fun r w' => r = .returned (.agg #[.string ⟨#[]⟩, .string ⟨#[]⟩]) ∧ Below W.heap.size W w') := fun W hW => refKey_good n x W (hx.later (Nat.le_refl _) hW) (right_full h) hc
  have HRE : Hid (MD.right n y = true → ∀ W, Below w.heap.size w W → Calls Tryd.prog 23 #[x.val, y.val] W fun r w' => r = .returned (.tuple #[.bool (MD.eqv n x y).1, .agg #[.string (fw (MD.eqv n x y).2), .string (MD.eqv n x y).2]]) ∧ Below W.heap.size W w') := fun h' W hW => refEq_any n x y W (hx.later (Nat.le_refl _) hW) (hy.later (Nat.le_refl _) hW) (right_full h) (right_full h')
  have HHY : Hid (MD.right n y = true → ∀ W, Below w.heap.size w W → Calls Tryd.prog 26 #[y.val] W fun r w' => (∃ v e, r = .returned (.tuple #[.int .u64 v, e]) ∧ ((MD.eqv n x y).1 = true → v = MD.hash n 14695981039346656037 x ∧ e = .nilIface)) ∧ Below W.heap.size W w') := fun h' W hW => Hash_some n x y W (hN.kept hW) (hx.later (Nat.le_refl _) hW) (hy.later (Nat.le_refl _) hW) h h'
  have HFC : Hid ((MD.eqv n x y).1 = true → fw (MD.eqv n x y).2 = ⟨#[]⟩) := fun hq => by rw [eqv_fault n x y hq]; unfold fw; rw [if_pos (by rfl)]
  rw [h] at HRX
  generalize (MD.eqv n x y).1 = q at HRE HHY HFC
  generalize fw (MD.eqv n x y).2 = fc at HRE HFC
  generalize (MD.eqv n x y).2 = c2 at HRE
  generalize MD.right n y = by' at HRY HRE HHY
  generalize MD.hash n 14695981039346656037 x = z at HH HHY
  clear hx hy h hc
  obtain ⟨⟨k, t, a, f, s, r0, r1, r2, r3, pp, path, pc⟩, ip, ic, items⟩ := x
  obtain ⟨⟨k', t', a', f', s', r0', r1', r2', r3', pp', path', pc'⟩, ip', ic', items'⟩ := y
  simp only [MD.val, D] at HRX HRY HKy HH HRK HRE HHY ⊢
  obtain ⟨W2, hW2⟩ : ∃ W2, W2 = (w.alloc (.cells #[.int .i64 k, .string t, .int .i64 a, .int .u64 f, .string s, .int .i64 r0, .int .i64 r1, .int .i64 r2, .int .i64 r3, .slice pp path.length pc, .slice ip items.length ic] 28)).alloc (.cells #[.int .i64 k', .string t', .int .i64 a', .int .u64 f', .string s', .int .i64 r0', .int .i64 r1', .int .i64 r2', .int .i64 r3', .slice pp' path'.length pc', .slice ip' items'.length ic'] 28) := ⟨_, rfl⟩
  have HK : Hid (∀ W, Below W2.heap.size W2 W → Below w.heap.size w W ∧ (∀ i, W.cell? ⟨w.heap.size, i, none⟩ = (#[.int .i64 k, .string t, .int .i64 a, .int .u64 f, .string s, .int .i64 r0, .int .i64 r1, .int .i64 r2, .int .i64 r3, .slice pp path.length pc, .slice ip items.length ic] : Array Value)[i]?) ∧ ∀ i, W.cell? ⟨w.heap.size + 1, i, none⟩ = (#[.int .i64 k', .string t', .int .i64 a', .int .u64 f', .string s', .int .i64 r0', .int .i64 r1', .int .i64 r2', .int .i64 r3', .slice pp' path'.length pc', .slice ip' items'.length ic'] : Array Value)[i]?) := fun W hW => by rw [hW2] at hW; exact kept2 hW
  have hz2 : W2.heap.size = w.heap.size + 2 := by rw [hW2]; simp
  have hB2 : Below w.heap.size w W2 := by rw [hW2]; exact below2 _ _ _
  go_enter Tryd.func7, Tryd.ntmps7
  go_wp2_with fail
  rw [← hW2]
  clear hW2
  refine (known_any _ (hN.kept hB2)).mono ?_
  rintro r w3 ⟨rfl, b3⟩
  have HB3 : Hid (Below W2.heap.size W2 w3) := b3
  have hc3 := (HK.out _ HB3.out).2.1
  have hd3 := (HK.out _ HB3.out).2.2
  clear b3
  go_wp2_with fail
  refine (HRX.out _ (HK.out _ HB3.out).1).mono ?_
  rintro r w4 ⟨rfl, b4⟩
  have HB4 : Hid (Below W2.heap.size W2 w4) := HB3.out.trans (b4.mono HB3.out.size)
  have hc4 := (HK.out _ HB4.out).2.1
  have hd4 := (HK.out _ HB4.out).2.2
  clear b4 hc3 hd3
  go_wp2_with fail
  refine (HRY.out _ (HK.out _ HB4.out).1).mono ?_
  rintro r w5 ⟨rfl, b5⟩
  have HB5 : Hid (Below W2.heap.size W2 w5) := HB4.out.trans (b5.mono HB4.out.size)
  have hc5 := (HK.out _ HB5.out).2.1
  have hd5 := (HK.out _ HB5.out).2.2
  clear b5 hc4 hd4
  go_wp2_with fail
  refine (HKy.out _ (HK.out _ HB5.out).1).mono ?_
  rintro r w6 ⟨rfl, b6⟩
  have HB6 : Hid (Below W2.heap.size W2 w6) := HB5.out.trans (b6.mono HB5.out.size)
  have hc6 := (HK.out _ HB6.out).2.1
  have hd6 := (HK.out _ HB6.out).2.2
  clear b6 hc5 hd5
  go_wp2_with fail
  refine (HH.out _ (HK.out _ HB6.out).1).mono ?_
  rintro r w7 ⟨rfl, b7⟩
  have HB7 : Hid (Below W2.heap.size W2 w7) := HB6.out.trans (b7.mono HB6.out.size)
  have hc7 := (HK.out _ HB7.out).2.1
  have hd7 := (HK.out _ HB7.out).2.2
  clear b7 hc6 hd6
  go_wp2_with fail
  refine (HH.out _ (HK.out _ HB7.out).1).mono ?_
  rintro r w8 ⟨rfl, b8⟩
  have HB8 : Hid (Below W2.heap.size W2 w8) := HB7.out.trans (b8.mono HB7.out.size)
  have hc8 := (HK.out _ HB8.out).2.1
  have hd8 := (HK.out _ HB8.out).2.2
  clear b8 hc7 hd7
  go_wp2_with fail
  refine (HRK.out _ (HK.out _ HB8.out).1).mono ?_
  rintro r w9 ⟨rfl, b9⟩
  have HB9 : Hid (Below W2.heap.size W2 w9) := HB8.out.trans (b9.mono HB8.out.size)
  have hc9 := (HK.out _ HB9.out).2.1
  have hd9 := (HK.out _ HB9.out).2.2
  clear b9 hc8 hd8
  clear hc9 hd9
  go_wp2_with fail
  refine (told_none _).mono ?_
  rintro r w10 ⟨rfl, b10⟩
  have HA10 : Hid (Below W2.heap.size W2 w10) := (HB9.out.alloc HB9.out.size (.cells #[.string ⟨#[]⟩, .string ⟨#[]⟩] 53)).trans (b10.mono (HB9.out.alloc HB9.out.size (.cells #[.string ⟨#[]⟩, .string ⟨#[]⟩] 53)).size)
  have HG10 : Hid (w10.heap[w9.heap.size]? = some (.cells #[.string ⟨#[]⟩, .string ⟨#[]⟩] 53 (0, 0))) := (b10.block w9.heap.size (by simp)).trans (heap_alloc_new w9 (.cells #[.string ⟨#[]⟩, .string ⟨#[]⟩] 53))
  have gx10 := row_at HG10.out
  have gl10 := lt_of_some HG10.out
  clear b10
  go_wp2_with fail
  refine (told_none _).mono ?_
  rintro r w11 ⟨rfl, b11⟩
  have HA11 : Hid (Below W2.heap.size W2 w11) := HA10.out.trans (b11.mono HA10.out.size)
  have HG11 : Hid _ := (b11.block w9.heap.size gl10).trans HG10.out
  have gx11 := row_at HG11.out
  have gl11 := lt_of_some HG11.out
  clear b11 gx10 gl10
  go_wp2_with fail
  refine (told_none _).mono ?_
  rintro r w12 ⟨rfl, b12⟩
  have HA12 : Hid (Below W2.heap.size W2 w12) := HA11.out.trans (b12.mono HA11.out.size)
  have HG12 : Hid _ := (b12.block w9.heap.size gl11).trans HG11.out
  have gx12 := row_at HG12.out
  have gl12 := lt_of_some HG12.out
  have hc12 := (HK.out _ HA12.out).2.1
  have hd12 := (HK.out _ HA12.out).2.2
  clear b12 gx11 gl11
  cases by'
  · go_wp2_with fail
    go_ret
    exact ⟨rfl, (HK.out _ HA12.out).1⟩
  · have HRE2 : Hid _ := HRE.out rfl
    have HHY2 : Hid _ := HHY.out rfl
    clear HRE HHY
    go_wp2_with fail
    refine (HRE2.out _ (HK.out _ HA12.out).1).mono ?_
    rintro r w13 ⟨rfl, b13⟩
    have HA13 : Hid (Below W2.heap.size W2 w13) := HA12.out.trans (b13.mono HA12.out.size)
    have HG13 : Hid _ := (b13.block w9.heap.size gl12).trans HG12.out
    have hd13 := (HK.out _ HA13.out).2.2
    clear b13 gx12 gl12 hc12 hd12
    obtain ⟨W14, hW14⟩ : ∃ W14, W14 = w13.alloc (.cells #[.string fc, .string c2] 53) := ⟨_, rfl⟩
    have HA14 : Hid (Below W2.heap.size W2 W14) := by rw [hW14]; exact HA13.out.alloc HA13.out.size _
    have HG14 : Hid _ := (show W14.heap[w9.heap.size]? = _ by rw [hW14]; exact Below.heap_alloc w13 _ _ (lt_of_some HG13.out)).trans HG13.out
    have HF14 : Hid (W14.heap[w13.heap.size]? = some (.cells #[.string fc, .string c2] 53 (0, 0))) := by rw [hW14]; exact heap_alloc_new _ _
    have hl13 : w.heap.size + 1 < w13.heap.size := by have := HA13.out.size; omega
    have HW14 : Hid _ := hW14
    have hd14 : ∀ i, (w13.alloc (.cells #[.string fc, .string c2] 53)).cell? ⟨w.heap.size + 1, i, none⟩ = (#[.int .i64 k', .string t', .int .i64 a', .int .u64 f', .string s', .int .i64 r0', .int .i64 r1', .int .i64 r2', .int .i64 r3', .slice pp' path'.length pc', .slice ip' items'.length ic'] : Array Value)[i]? := fun i => by rw [← hW14]; exact (HK.out _ HA14.out).2.2 i
    clear hW14
    go_wp2_with fail
    rw [← HW14.out]
    refine (HHY2.out _ (HK.out _ HA14.out).1).mono ?_
    rintro r w15 ⟨⟨v, e, rfl, hve⟩, b15⟩
    have HA15 : Hid (Below W2.heap.size W2 w15) := HA14.out.trans (b15.mono HA14.out.size)
    have gx15 := row_at ((b15.block w9.heap.size (lt_of_some HG14.out)).trans HG14.out)
    have gf15 := row_at ((b15.block w13.heap.size (lt_of_some HF14.out)).trans HF14.out)
    clear b15 hd13 hd14 hl13
    cases q
    · clear hve HFC
      go_wp2_with fail
      go_ret
      exact ⟨rfl, (HK.out _ HA15.out).1⟩
    · obtain ⟨rfl, rfl⟩ := hve rfl
      obtain rfl := HFC.out rfl
      clear HFC
      go_wp2_with fail
      go_ret
      exact ⟨rfl, (HK.out _ HA15.out).1⟩
set_option maxRecDepth 100000 in
set_option maxHeartbeats 4000000 in
theorem keysLaw_fault (n : Nat) (x y : MD) (w : World) (hN : NamesAt w) (hx : MD.In w.heap.size w n x) (hy : MD.In w.heap.size w n y) (h : MD.right n x = true) (hc : (MD.eqv n x x).2.size ≠ 0) : Calls Tryd.prog 7 #[x.val, y.val] w fun r w' => r = .returned (.bool true) ∧ Below w.heap.size w w' := by
  have HRX : Hid (∀ W, Below w.heap.size w W → Calls Tryd.prog 11 #[x.val] W fun r w' => r = .returned (.bool (MD.right n x)) ∧ Below W.heap.size W w') := fun W hW => refRightAny n x W (hx.later (Nat.le_refl _) hW)
  have HRY : Hid (∀ W, Below w.heap.size w W → Calls Tryd.prog 11 #[y.val] W fun r w' => r = .returned (.bool (MD.right n y)) ∧ Below W.heap.size W w') := fun W hW => refRightAny n y W (hy.later (Nat.le_refl _) hW)
  have HKy : Hid (∀ W, Below w.heap.size w W → Calls Tryd.prog 25 #[x.val] W fun r w' => (∃ m, r = .returned (.iface 103 (.pointer (some ⟨m, 0, none⟩))) ∧ w'.heap[m]? = some (.cells #[.string ⟨#[107, 101, 121]⟩, .string (MD.eqv n x x).2] 53 (0, 0))) ∧ Below W.heap.size W w') := fun W hW => (Key_fault n x W (hN.kept hW) (hx.later (Nat.le_refl _) hW) h hc).mono fun _ _ ⟨m, e1, _, e3, e4⟩ => ⟨⟨m, e1, e3⟩, e4⟩
  have HH : Hid (∀ W, Below w.heap.size w W → Calls Tryd.prog 26 #[x.val] W fun r w' => (∃ m, r = .returned (.tuple #[.int .u64 0, .iface 103 (.pointer (some ⟨m, 0, none⟩))]) ∧ w'.heap[m]? = some (.cells #[.string ⟨#[107, 101, 121]⟩, .string (MD.eqv n x x).2] 53 (0, 0))) ∧ Below W.heap.size W w') := fun W hW => Hash_fault n x W (hN.kept hW) (hx.later (Nat.le_refl _) hW) h hc
  have HRK : Hid (∀ W, Below w.heap.size w W → Calls Tryd.prog 27 #[x.val] W fun r w' => r = .returned (.agg #[.string ⟨#[107, 101, 121]⟩, .string (MD.eqv n x x).2]) ∧ Below W.heap.size W w') := fun W hW => refKey_fault n x W (hx.later (Nat.le_refl _) hW) (right_full h) hc
  have HRE : Hid (MD.right n y = true → ∀ W, Below w.heap.size w W → Calls Tryd.prog 23 #[x.val, y.val] W fun r w' => r = .returned (.tuple #[.bool (MD.eqv n x y).1, .agg #[.string (fw (MD.eqv n x y).2), .string (MD.eqv n x y).2]]) ∧ Below W.heap.size W w') := fun h' W hW => refEq_any n x y W (hx.later (Nat.le_refl _) hW) (hy.later (Nat.le_refl _) hW) (right_full h) (right_full h')
  have HHY : Hid (MD.right n y = true → ∀ W, Below w.heap.size w W → Calls Tryd.prog 26 #[y.val] W fun r w' => (∃ v e, r = .returned (.tuple #[.int .u64 v, e]) ∧ ((MD.eqv n x y).1 = true → v = MD.hash n 14695981039346656037 x ∧ e = .nilIface)) ∧ Below W.heap.size W w') := fun h' W hW => Hash_some n x y W (hN.kept hW) (hx.later (Nat.le_refl _) hW) (hy.later (Nat.le_refl _) hW) h h'
  have HFC : Hid ((MD.eqv n x y).1 = true → fw (MD.eqv n x y).2 = ⟨#[]⟩) := fun hq => by rw [eqv_fault n x y hq]; unfold fw; rw [if_pos (by rfl)]
  rw [h] at HRX
  generalize (MD.eqv n x x).2 = c at HKy HH HRK
  generalize (MD.eqv n x y).1 = q at HRE HHY HFC
  generalize fw (MD.eqv n x y).2 = fc at HRE HFC
  generalize (MD.eqv n x y).2 = c2 at HRE
  generalize MD.right n y = by' at HRY HRE HHY
  generalize MD.hash n 14695981039346656037 x = z at HHY
  clear hx hy h hc
  obtain ⟨⟨k, t, a, f, s, r0, r1, r2, r3, pp, path, pc⟩, ip, ic, items⟩ := x
  obtain ⟨⟨k', t', a', f', s', r0', r1', r2', r3', pp', path', pc'⟩, ip', ic', items'⟩ := y
  simp only [MD.val, D] at HRX HRY HKy HH HRK HRE HHY ⊢
  obtain ⟨W2, hW2⟩ : ∃ W2, W2 = (w.alloc (.cells #[.int .i64 k, .string t, .int .i64 a, .int .u64 f, .string s, .int .i64 r0, .int .i64 r1, .int .i64 r2, .int .i64 r3, .slice pp path.length pc, .slice ip items.length ic] 28)).alloc (.cells #[.int .i64 k', .string t', .int .i64 a', .int .u64 f', .string s', .int .i64 r0', .int .i64 r1', .int .i64 r2', .int .i64 r3', .slice pp' path'.length pc', .slice ip' items'.length ic'] 28) := ⟨_, rfl⟩
  have HK : Hid (∀ W, Below W2.heap.size W2 W → Below w.heap.size w W ∧ (∀ i, W.cell? ⟨w.heap.size, i, none⟩ = (#[.int .i64 k, .string t, .int .i64 a, .int .u64 f, .string s, .int .i64 r0, .int .i64 r1, .int .i64 r2, .int .i64 r3, .slice pp path.length pc, .slice ip items.length ic] : Array Value)[i]?) ∧ ∀ i, W.cell? ⟨w.heap.size + 1, i, none⟩ = (#[.int .i64 k', .string t', .int .i64 a', .int .u64 f', .string s', .int .i64 r0', .int .i64 r1', .int .i64 r2', .int .i64 r3', .slice pp' path'.length pc', .slice ip' items'.length ic'] : Array Value)[i]?) := fun W hW => by rw [hW2] at hW; exact kept2 hW
  have hz2 : W2.heap.size = w.heap.size + 2 := by rw [hW2]; simp
  have hB2 : Below w.heap.size w W2 := by rw [hW2]; exact below2 _ _ _
  go_enter Tryd.func7, Tryd.ntmps7
  go_wp2_with fail
  rw [← hW2]
  clear hW2
  refine (known_any _ (hN.kept hB2)).mono ?_
  rintro r w3 ⟨rfl, b3⟩
  have HB3 : Hid (Below W2.heap.size W2 w3) := b3
  have hc3 := (HK.out _ HB3.out).2.1
  have hd3 := (HK.out _ HB3.out).2.2
  clear b3
  go_wp2_with fail
  refine (HRX.out _ (HK.out _ HB3.out).1).mono ?_
  rintro r w4 ⟨rfl, b4⟩
  have HB4 : Hid (Below W2.heap.size W2 w4) := HB3.out.trans (b4.mono HB3.out.size)
  have hc4 := (HK.out _ HB4.out).2.1
  have hd4 := (HK.out _ HB4.out).2.2
  clear b4 hc3 hd3
  go_wp2_with fail
  refine (HRY.out _ (HK.out _ HB4.out).1).mono ?_
  rintro r w5 ⟨rfl, b5⟩
  have HB5 : Hid (Below W2.heap.size W2 w5) := HB4.out.trans (b5.mono HB4.out.size)
  have hc5 := (HK.out _ HB5.out).2.1
  have hd5 := (HK.out _ HB5.out).2.2
  clear b5 hc4 hd4
  go_wp2_with fail
  refine (HKy.out _ (HK.out _ HB5.out).1).mono ?_
  rintro r w6 ⟨⟨m, rfl, g6⟩, b6⟩
  have HB6 : Hid (Below W2.heap.size W2 w6) := HB5.out.trans (b6.mono HB5.out.size)
  have hc6 := (HK.out _ HB6.out).2.1
  have hd6 := (HK.out _ HB6.out).2.2
  clear b6 hc5 hd5
  go_wp2_with fail
  refine (HH.out _ (HK.out _ HB6.out).1).mono ?_
  rintro r w7 ⟨⟨m', rfl, g7'⟩, b7⟩
  have HB7 : Hid (Below W2.heap.size W2 w7) := HB6.out.trans (b7.mono HB6.out.size)
  have hc7 := (HK.out _ HB7.out).2.1
  have hd7 := (HK.out _ HB7.out).2.2
  have g7 := (b7.block m (lt_of_some g6)).trans g6
  clear b7 hc6 hd6
  go_wp2_with fail
  refine (HH.out _ (HK.out _ HB7.out).1).mono ?_
  rintro r w8 ⟨⟨m'', rfl, g8''⟩, b8⟩
  have HB8 : Hid (Below W2.heap.size W2 w8) := HB7.out.trans (b8.mono HB7.out.size)
  have hc8 := (HK.out _ HB8.out).2.1
  have hd8 := (HK.out _ HB8.out).2.2
  have g8 := (b8.block m (lt_of_some g7)).trans g7
  have g8' := (b8.block m' (lt_of_some g7')).trans g7'
  clear b8 hc7 hd7
  go_wp2_with fail
  refine (HRK.out _ (HK.out _ HB8.out).1).mono ?_
  rintro r w9 ⟨rfl, b9⟩
  have HB9 : Hid (Below W2.heap.size W2 w9) := HB8.out.trans (b9.mono HB8.out.size)
  have hc9 := (HK.out _ HB9.out).2.1
  have hd9 := (HK.out _ HB9.out).2.2
  have g9 := (b9.block m (lt_of_some g8)).trans g8
  have g9' := (b9.block m' (lt_of_some g8')).trans g8'
  have g9'' := (b9.block m'' (lt_of_some g8'')).trans g8''
  clear b9 hc8 hd8
  clear hc9 hd9 g6 g7 g7' g8 g8' g8''
  have g9a := (Below.heap_alloc w9 (.cells #[.string ⟨#[107, 101, 121]⟩, .string c] 53) m (lt_of_some g9)).trans g9
  have g9b := (Below.heap_alloc w9 (.cells #[.string ⟨#[107, 101, 121]⟩, .string c] 53) m' (lt_of_some g9')).trans g9'
  have g9c := (Below.heap_alloc w9 (.cells #[.string ⟨#[107, 101, 121]⟩, .string c] 53) m'' (lt_of_some g9'')).trans g9''
  go_wp2_with fail
  refine (told_hit m _ _ _ g9a (by decide)).mono ?_
  rintro r w10 ⟨rfl, b10⟩
  have g10b := (b10.block m' (lt_of_some g9b)).trans g9b
  have g10c := (b10.block m'' (lt_of_some g9c)).trans g9c
  have HA10 : Hid (Below W2.heap.size W2 w10) := (HB9.out.alloc HB9.out.size (.cells #[.string ⟨#[107, 101, 121]⟩, .string c] 53)).trans (b10.mono (HB9.out.alloc HB9.out.size (.cells #[.string ⟨#[107, 101, 121]⟩, .string c] 53)).size)
  have HG10 : Hid (w10.heap[w9.heap.size]? = some (.cells #[.string ⟨#[107, 101, 121]⟩, .string c] 53 (0, 0))) := (b10.block w9.heap.size (by simp)).trans (heap_alloc_new w9 (.cells #[.string ⟨#[107, 101, 121]⟩, .string c] 53))
  have gx10 := row_at HG10.out
  have gl10 := lt_of_some HG10.out
  clear b10
  go_wp2_with fail
  refine (told_hit m' _ _ _ g10b (by decide)).mono ?_
  rintro r w11 ⟨rfl, b11⟩
  have g11c := (b11.block m'' (lt_of_some g10c)).trans g10c
  have HA11 : Hid (Below W2.heap.size W2 w11) := HA10.out.trans (b11.mono HA10.out.size)
  have HG11 : Hid _ := (b11.block w9.heap.size gl10).trans HG10.out
  have gx11 := row_at HG11.out
  have gl11 := lt_of_some HG11.out
  clear b11 gx10 gl10
  go_wp2_with fail
  refine (told_hit m'' _ _ _ g11c (by decide)).mono ?_
  rintro r w12 ⟨rfl, b12⟩
  have HA12 : Hid (Below W2.heap.size W2 w12) := HA11.out.trans (b12.mono HA11.out.size)
  have HG12 : Hid _ := (b12.block w9.heap.size gl11).trans HG11.out
  have gx12 := row_at HG12.out
  have gl12 := lt_of_some HG12.out
  have hc12 := (HK.out _ HA12.out).2.1
  have hd12 := (HK.out _ HA12.out).2.2
  clear b12 gx11 gl11
  clear g9 g9' g9'' g9a g9b g9c g10b g10c g11c
  cases by'
  · go_wp2_with fail
    go_ret
    exact ⟨rfl, (HK.out _ HA12.out).1⟩
  · have HRE2 : Hid _ := HRE.out rfl
    have HHY2 : Hid _ := HHY.out rfl
    clear HRE HHY
    go_wp2_with fail
    refine (HRE2.out _ (HK.out _ HA12.out).1).mono ?_
    rintro r w13 ⟨rfl, b13⟩
    have HA13 : Hid (Below W2.heap.size W2 w13) := HA12.out.trans (b13.mono HA12.out.size)
    have HG13 : Hid _ := (b13.block w9.heap.size gl12).trans HG12.out
    have hd13 := (HK.out _ HA13.out).2.2
    clear b13 gx12 gl12 hc12 hd12
    obtain ⟨W14, hW14⟩ : ∃ W14, W14 = w13.alloc (.cells #[.string fc, .string c2] 53) := ⟨_, rfl⟩
    have HA14 : Hid (Below W2.heap.size W2 W14) := by rw [hW14]; exact HA13.out.alloc HA13.out.size _
    have HG14 : Hid _ := (show W14.heap[w9.heap.size]? = _ by rw [hW14]; exact Below.heap_alloc w13 _ _ (lt_of_some HG13.out)).trans HG13.out
    have HF14 : Hid (W14.heap[w13.heap.size]? = some (.cells #[.string fc, .string c2] 53 (0, 0))) := by rw [hW14]; exact heap_alloc_new _ _
    have hl13 : w.heap.size + 1 < w13.heap.size := by have := HA13.out.size; omega
    have HW14 : Hid _ := hW14
    have hd14 : ∀ i, (w13.alloc (.cells #[.string fc, .string c2] 53)).cell? ⟨w.heap.size + 1, i, none⟩ = (#[.int .i64 k', .string t', .int .i64 a', .int .u64 f', .string s', .int .i64 r0', .int .i64 r1', .int .i64 r2', .int .i64 r3', .slice pp' path'.length pc', .slice ip' items'.length ic'] : Array Value)[i]? := fun i => by rw [← hW14]; exact (HK.out _ HA14.out).2.2 i
    clear hW14
    go_wp2_with fail
    rw [← HW14.out]
    refine (HHY2.out _ (HK.out _ HA14.out).1).mono ?_
    rintro r w15 ⟨⟨v, e, rfl, hve⟩, b15⟩
    have HA15 : Hid (Below W2.heap.size W2 w15) := HA14.out.trans (b15.mono HA14.out.size)
    have gx15 := row_at ((b15.block w9.heap.size (lt_of_some HG14.out)).trans HG14.out)
    have gf15 := row_at ((b15.block w13.heap.size (lt_of_some HF14.out)).trans HF14.out)
    clear b15 hd13 hd14 hl13
    cases q
    · clear hve HFC
      go_wp2_with fail
      go_ret
      exact ⟨rfl, (HK.out _ HA15.out).1⟩
    · obtain ⟨rfl, rfl⟩ := hve rfl
      obtain rfl := HFC.out rfl
      clear HFC
      go_wp2_with fail
      go_ret
      exact ⟨rfl, (HK.out _ HA15.out).1⟩
theorem keysLaw_any (n : Nat) (x y : MD) (w : World) (hN : NamesAt w) (hx : MD.In w.heap.size w n x) (hy : MD.In w.heap.size w n y) : Calls Tryd.prog 7 #[x.val, y.val] w fun r w' => r = .returned (.bool true) ∧ Below w.heap.size w w' := by
  by_cases h : MD.right n x = true
  · by_cases hc : (MD.eqv n x x).2.size = 0
    · exact keysLaw_good n x y w hN hx hy h (bytes_none hc)
    · exact keysLaw_fault n x y w hN hx hy h hc
  · exact keysLaw_wrong n x y w hN hx hy (by simpa using h)
end Go.Proofs.YtnhbpcmiolkllaaDoor
