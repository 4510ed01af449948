/-
  The walks of strings.Clone at texts of any size that memory has room for, of tree.All and of its iterator, at every tree.
-/
import Derived.Test.YthbnegggohegkaaGreatDoorFJ
import Derived.Test.YthbnegggohegkaaGreatDoorNg
import Derived.Test.YthbnegggohegkaaGreatDoorCoJ
import Derived.Test.YthbnegggohegkaaGreatDoorRsJ
import Derived.RangeFuncBox
namespace Go.Proofs.YthbnegggohegkaaGreatDoor
open Go.RowKit

set_option maxRecDepth 100000 in
set_option maxHeartbeats 1000000 in
/-- A copy of a text is that text; nothing that was there has turned. -/
theorem clone_big (s : ByteArray) (w : World) (hlim : s.size ≤ 140737488351232) :
    Calls Tryz.prog 39 #[.string s] w fun e w' => e = .returned (.string s) ∧ Below w.heap.size w w' := by
  by_cases h0 : s.size = 0
  · obtain rfl : s = ⟨#[]⟩ := ByteArray.ext (Array.eq_empty_of_size_eq_zero h0)
    go_enter Tryz.func39, Tryz.ntmps39
    go_wp2
    go_ret
    exact ⟨rfl, Below.refl _ _⟩
  · obtain ⟨i0, hi, hz0, hz1, hz2⟩ := info_parts info5
    have hinfo : (Tryz.prog.info? 5).map (·.size) = some 1 := by rw [hi]; simp [hz1]
    have hco : Tryz.prog.cellsOf 5 = 1 := by kernel_rfl
    obtain ⟨M, hM⟩ : ∃ M, M = madeCells (Value.int .u8 0).cells (((s.size : Nat) : Int).toNat * i0.size) := ⟨_, rfl⟩
    have hMs : M.size = s.size := by rw [hM, size_madeCells, hz1]; simp
    have hmk : ∀ W : World, (Instr.makeSlice 82 (.int .i64 (s.size : Int)) (.int .i64 (s.size : Int))).run Tryz.prog W = .ok (.slice (some ⟨W.heap.size, 0, none⟩) s.size s.size) (W.alloc (.cells M 5)) := fun W => by
      have h := run_make (P := Tryz.prog) W 82 5 i0 (.int .u8 0) Tryz.underlying82 hi hz0 .i64 .i64 (s.size : Int) (s.size : Int) (by omega) (by omega) (by rw [hz2]; omega) (by omega)
      rw [← hM] at h
      simpa using h
    clear hM
    have hcp := Lib.run_copy_row_string (P := Tryz.prog) (w.alloc (.cells M 5)) 82 9 3 5 w.heap.size 0 s.size s.size s M 5 Tryz.underlying82 hinfo (heap_alloc_new w _) (Nat.le_refl _) (by omega)
    obtain ⟨Y, hY⟩ : ∃ Y, Y = (M.toList.take 0 ++ Lib.byteCells s.data.toList ++ M.toList.drop (0 + s.size)).toArray := ⟨_, rfl⟩
    rw [← hY] at hcp
    have hYl : Y.toList = Lib.byteCells s.data.toList := by
      rw [hY, List.toList_toArray, List.take_zero, List.nil_append, List.drop_of_length_le (by rw [Array.length_toList]; omega), List.append_nil]
    have hYs : Y.size = s.size := by rw [← Array.length_toList, hYl, Lib.byteCells_length, ← Lib.size_eq]
    have hgY : ((w.alloc (.cells M 5)).setRow w.heap.size Y).heap[w.heap.size]? = some (.cells Y 5 (0, 0)) := setRow_heap _ _ M _ 5 (0, 0) (heap_alloc_new w _)
    have hne : s.data.toList ≠ [] := fun e => h0 (by rw [Lib.size_eq, e]; rfl)
    have hUS := Lib.run_unsafeString_row (P := Tryz.prog) ((w.alloc (.cells M 5)).setRow w.heap.size Y) 141 3 9 5 Tryz.underlying141 hco w.heap.size Y.size (by unfold World.shape?; rw [hgY]) s.data.toList hne (by rw [← Lib.size_eq]; omega) (by rw [← Lib.size_eq]; omega)
      (fun j x hx => Lib.cells_of_row hgY Y.size j _ (by rw [List.take_of_length_le (by rw [Array.length_toList]; exact Nat.le_refl _), hYl]; simp [Lib.byteCells, hx]))
    rw [← Lib.size_eq] at hUS
    clear hY
    go_enter Tryz.func39, Tryz.ntmps39
    go_wp2
    go_ret
    have hb1 : Below w.heap.size w (w.alloc (.cells M 5)) := (Below.refl _ w).alloc (Nat.le_refl _) _
    have hb2 : Below w.heap.size (w.alloc (.cells M 5)) ((w.alloc (.cells M 5)).setRow w.heap.size Y) := ⟨rfl, rfl, rfl, by simp, fun k hk => setRow_other _ _ _ _ (by omega)⟩
    exact ⟨rfl, Lib.below_freeze (hb1.trans hb2) (p := ⟨w.heap.size, 0, none⟩) (Nat.le_refl _) _⟩
end Go.Proofs.YthbnegggohegkaaGreatDoor
namespace Go.Proofs.YthbnegggohegkaaGreatDoor
open Go.RowKit Go.Shelf

attribute [local go_sem] Oper.semAt_some

set_option maxHeartbeats 1000000 in
theorem all_any (t : MT) (w : World) :
    Calls Tryz.prog 22 #[nodeV t] w fun e w' => e = .returned (.func (.func 38) #[] #[.pointer (some ⟨w.heap.size, 0, none⟩)]) ∧ w' = w.alloc (nodeO t) := by
  go_enter Tryz.func22, Tryz.ntmps22
  go_wp2
  go_ret
  exact ⟨rfl, rfl⟩

/-- A node without its Kids. -/
abbrev bareV (t : MT) : Value := .agg #[.int .i64 t.kind, .string t.text, .int .i64 t.num, .int .i64 t.at_, .slice none 0 0]

/-- A step of All as it lies in memory. -/
def stepCells (x : Nat × MT) : List Value := [.int .i64 x.1, .int .i64 x.2.kind, .string x.2.text, .int .i64 x.2.num, .int .i64 x.2.at_, .slice none 0 0]
def stepsL (xs : List (Nat × MT)) : List Value := xs.flatMap stepCells
theorem stepsL_length (xs : List (Nat × MT)) : (stepsL xs).length = xs.length * 6 := by
  induction xs with
  | nil => rfl
  | cons x xs ih => simp only [stepsL, List.flatMap_cons, List.length_append, List.length_cons] at *; rw [ih]; simp [stepCells]; omega
theorem stepsL_snoc (xs : List (Nat × MT)) (x : Nat × MT) : stepsL (xs ++ [x]) = stepsL xs ++ stepCells x := by simp [stepsL]

/-- What holds between two rounds of All's first loop. -/
structure AiInv (Bs : Nat) (J : World → Prop) (pre : List (Nat × MT)) (S : Nat → Prop) (A : World) (v : Value) : Prop where
  box : Boxed A Bs 77 v
  own : A.ownsRow (Bs + 3) 79 6 v pre.length (stepsL pre)
  mine : ∀ k, S k ↔ k = Bs ∨ v.ownBlock = some k
  j : J A

theorem AiInv.lt {Bs : Nat} {J : World → Prop} {pre : List (Nat × MT)} {S : Nat → Prop} {A : World} {v : Value} (h : AiInv Bs J pre S A v) : ∀ k, S k → k < A.heap.size := by
  intro k hk
  rcases (h.mine k).1 hk with rfl | hk
  · exact h.box.lt
  · exact (h.own.lt k hk).2

theorem info79 : (Tryz.prog.info? 79).map (fun i => (i.zero, i.size, i.bytes)) = some (some (.agg #[.int .i64 0, .int .i64 0, .string ⟨#[]⟩, .int .i64 0, .int .i64 0, .slice none 0 0]), 6, 72) := by kernel_rfl

theorem six_new (w : World) (x : Nat × MT) (t : TypeId) (n : Nat) (hn : n = w.heap.size) : ∀ j u, (stepCells x)[j]? = some u → (w.alloc (.cells (stepCells x).toArray t)).cell? ((⟨n, 0, none⟩ : Addr).add j) = some u := by
  subst hn
  intro j u hj
  have e : (⟨w.heap.size, 0, none⟩ : Addr).add j = ⟨w.heap.size, j, none⟩ := by unfold Addr.add; split <;> simp_all
  rw [e, World.cell?_alloc_new]
  simpa using hj

theorem stepsL_get (xs : List (Nat × MT)) (j : Nat) (hj : j < xs.length) (i : Nat) (hi : i < 6) : (stepsL xs)[j * 6 + i]? = (stepCells xs[j])[i]? := by
  induction xs generalizing j with
  | nil => simp at hj
  | cons x xs ih =>
    have hl : (stepCells x).length = 6 := rfl
    cases j with
    | zero =>
      simp only [stepsL, List.flatMap_cons, Nat.zero_mul, Nat.zero_add, List.getElem_cons_zero]
      rw [List.getElem?_append_left (by omega)]
    | succ j =>
      simp only [stepsL, List.flatMap_cons, List.getElem_cons_succ]
      rw [List.getElem?_append_right (by omega), hl, show (j + 1) * 6 + i - 6 = j * 6 + i by omega]
      exact ih j (by simpa using hj)

set_option maxRecDepth 100000 in
set_option maxHeartbeats 2000000 in
theorem all1_in (n : Nat) (hn : 5 ≤ n) (t : MT) (Bn B : Nat) (w : World) (hBn : BoxAt w Bn t) (ht : t.In B w) (hB : B ≤ w.heap.size) (hn' : Bn < w.heap.size)
    (hsm : ∀ x ∈ (MT.ord 1 t).take 1000000, x.2.text.size ≤ 140737488351232) :
    SeqAll Fence.wide n Tryz.prog 38 #[.pointer (some ⟨Bn, 0, none⟩)] (fun x : Nat × MT => #[.int .i64 x.1, bareV x.2]) (fun k => k < B ∨ k = Bn) ((MT.ord 1 t).take 1000000) w := by
  intro l J W X hW hX hJ hY h0
  have hBn' := hBn.below hn' hW
  have ht' := MT.In.below (hW.mono hB) t ht
  have hz := hW.size
  have hBl : Bn < W.heap.size := by omega
  obtain ⟨k0, k1, k2, k3, k4⟩ := hBn'
  refine callsIn_of_wp_marks Tryz.func38 rfl trivial ?_ rfl
  simp only [Tryz.ntmps38, List.size_toArray, List.length_cons, List.length_nil, Nat.reduceAdd, Nat.reduceSub, Array.replicate_succ, Array.replicate_zero, List.push_toArray, List.append_toArray, List.nil_append, List.cons_append]
  gi_wp2_with fail
  refine ⟨trivial, fun _ => by omega, ?_⟩
  refine (callsIn_wide.2 (nodes_any t _ _)).mono ?_
  rintro e w' ⟨rfl, rfl⟩
  gi_wp2_with fail
  have hB3 : Below W.heap.size W (((W.alloc (.cells #[.slice none 0 0] 77)).alloc (nodeO t)).alloc (.cells #[.int .i64 1000000] 3)) := below3 W _ _ _
  have hn1 : BoxAt (((W.alloc (.cells #[.slice none 0 0] 77)).alloc (nodeO t)).alloc (.cells #[.int .i64 1000000] 3)) (W.heap.size + 1) t := by
    have := (BoxAt.new (W.alloc (.cells #[.slice none 0 0] 77)) t).below (B := W.heap.size + 2) (by simp) ((Below.refl _ _).alloc (by simp) (.cells #[.int .i64 1000000] 3))
    simpa using this
  have hm1 : (((W.alloc (.cells #[.slice none 0 0] 77)).alloc (nodeO t)).alloc (.cells #[.int .i64 1000000] 3)).cell? ⟨W.heap.size + 1 + 1, 0, none⟩ = some (.int .i64 ((1000000 : Nat) : Int)) := by
    have := World.cell?_alloc_new ((W.alloc (.cells #[.slice none 0 0] 77)).alloc (nodeO t)) #[.int .i64 1000000] 3 0
    simp only [World.size_alloc] at this
    rw [this]; rfl
  have hb1 : Boxed (((W.alloc (.cells #[.slice none 0 0] 77)).alloc (nodeO t)).alloc (.cells #[.int .i64 1000000] 3)) W.heap.size 77 (.slice none 0 0) := ((Boxed.new W 77 (.slice none 0 0)).alloc _).alloc _
  have hz3 : (((W.alloc (.cells #[.slice none 0 0] 77)).alloc (nodeO t)).alloc (.cells #[.int .i64 1000000] 3)).heap.size = W.heap.size + 3 := by simp
  have ht3 := MT.In.below (hB3.mono (show B ≤ W.heap.size by omega)) t ht'
  have hJ3 : J [] (((W.alloc (.cells #[.slice none 0 0] 77)).alloc (nodeO t)).alloc (.cells #[.int .i64 1000000] 3)) :=
    hJ _ _ _ none (hJ _ _ _ none (hJ _ _ _ none h0 (World.grownBy_alloc _ _ _) (fun r e => by cases e)) (World.grownBy_alloc _ _ _) (fun r e => by cases e)) (World.grownBy_alloc _ _ _) (fun r e => by cases e)
  have HW : ∃ W3, W3 = (((W.alloc (.cells #[.slice none 0 0] 77)).alloc (nodeO t)).alloc (.cells #[.int .i64 1000000] 3)) := ⟨_, rfl⟩
  obtain ⟨W3, hW3⟩ := HW
  rw [← hW3] at hB3 hn1 hm1 hb1 hz3 ht3 hJ3 ⊢
  clear hW3 k0 k1 k2 k3 k4
  refine wpIn_rangeFunc_own rfl (by omega) (gf := 59) (lb := #[.pointer (some ⟨W.heap.size + 1, 0, none⟩), .pointer (some ⟨W.heap.size + 1 + 1, 0, none⟩)]) rfl trivial (enters_of Tryz.func59 (by kernel_rfl) rfl)
    (nodes1_own (n - 1) (by omega) t 1000000 (by omega) (W.heap.size + 1) (W.heap.size + 1 + 1) B W3 hn1 hm1 ht3 (by omega) (by omega) (by omega)) (fun _ => rfl)
    (by rintro k (h | h | h) <;> omega) (fun k => k = W.heap.size ∨ (Value.slice none 0 0).ownBlock = some k) (by rintro k (rfl | h); exact ⟨by omega, by omega⟩; cases h)
    (fun pre S A => ∃ v, AiInv W.heap.size (J []) pre S A v) (fun _ _ _ ⟨v, h⟩ => h.lt) ?ab ⟨_, hb1, World.ownsRow_nil _ _ _ _, fun _ => Iff.rfl, hJ3⟩
    (fun x A => { tmps := #[.func (.yield l) #[] #[], .pointer (some ⟨Bn, 0, none⟩), undef, .pointer (some ⟨W.heap.size, 0, none⟩), .int .i64 x.1, .pointer (some ⟨A.heap.size, 0, none⟩), undef, undef, nodeV t, .func (.func 59) #[] #[.pointer (some ⟨W.heap.size + 1, 0, none⟩), .pointer (some ⟨W.heap.size + 1 + 1, 0, none⟩)], .int .i64 x.1, nodeV x.2, undef, undef, undef, undef, undef, undef, undef, undef, undef, undef, undef, undef, undef, undef, undef, undef, undef, undef, undef, undef, undef, undef, undef, undef, undef, undef, undef], defers := [] })
    (fun x A => A.alloc (nodeO x.2)) (fun x A => World.grownBy_alloc _ _ _) ?assign ?body ?done
  case ab =>
    rintro s S A A' row ⟨v, h⟩ hg hr
    have h1 : some W.heap.size ≠ row := fun e => (hr _ e.symm).2 ((h.mine _).2 (.inl rfl))
    refine ⟨v, h.box.kept hg h1, h.own.kept hg ?_, h.mine, hJ _ _ _ _ h.j hg (fun r e => by have := (hr r e).1; omega)⟩
    cases hv : v.ownBlock with
    | none => exact .inl rfl
    | some k => exact .inr fun e => (hr k e.symm).2 ((h.mine k).2 (.inr hv))
  case assign =>
    intro l' x A K hK
    gi_wp2
    refine cast (congrArg (fun z => K ⟨z, []⟩ (A.alloc (nodeO x.2))) ?_) hK
    simp
  case body =>
    rintro l' pre x S A V hpre ⟨v, hI⟩ hVz hl' hVo
    have hlen : pre.length < 1000000 := by
      have := hpre.length_le
      simp at this; omega
    have hAV : V.heap[A.heap.size]? = some (nodeO x.2) := (hVo _ (by omega)).trans (heap_alloc_new A _)
    have hbx : BoxAt V A.heap.size x.2 := by
      have h1 := BoxAt.new A x.2
      have hc : ∀ o, V.cell? ⟨A.heap.size, o, none⟩ = (A.alloc (nodeO x.2)).cell? ⟨A.heap.size, o, none⟩ := fun o => World.cell?_of_block (a := ⟨A.heap.size, o, none⟩) (hAV.trans (heap_alloc_new A _).symm)
      exact ⟨(hc _).trans h1.k0, (hc _).trans h1.k1, (hc _).trans h1.k2, (hc _).trans h1.k3, (hc _).trans h1.k4⟩
    have hfx : V.frozen? ⟨A.heap.size, 4, none⟩ = false := by simp [World.frozen?, hAV]
    simp only [World.size_alloc] at hVz
    obtain ⟨k0, k1, k2, k3, k4⟩ := hbx
    have hsA : W.heap.size < A.heap.size := by
      have := hI.box.lt
      rw [hVz] at this
      rcases Nat.lt_or_ge W.heap.size A.heap.size with h | h
      · exact h
      · have e : W.heap.size = A.heap.size := by omega
        have h2 := hI.box
        unfold Boxed at h2
        rw [e, hAV] at h2
        simp at h2
    have hbc := hI.box.cell
    have hbf := hI.box.frozen
    have hown := hI.own
    obtain ⟨p, c, rfl⟩ : ∃ p c, v = .slice p pre.length c := by
      rcases hown.2 with ⟨rfl, h0⟩ | ⟨g, cap, cur, rfl, _⟩
      · exact ⟨none, 0, by rw [h0]⟩
      · exact ⟨_, _, rfl⟩
    have hne : (Value.slice p pre.length c).ownBlock ≠ some A.heap.size := fun e => by
      have h1 := hown.2
      rcases h1 with ⟨h1, _⟩ | ⟨g, cap, cur, h1, _, hg, _⟩
      · rw [h1] at e; cases e
      · rw [h1] at e
        simp only [Value.ownBlock, Option.some.injEq] at e
        subst e
        rw [hAV] at hg
        simp at hg
    obtain ⟨i0, hi, hz0, hz1, hz2⟩ := info_parts info79
    have hown2 : ((V.setCell ⟨A.heap.size, 4, none⟩ (.slice none 0 0)).alloc (.cells #[.int .i64 x.1, .int .i64 x.2.kind, .string x.2.text, .int .i64 x.2.num, .int .i64 x.2.at_, .slice none 0 0] 79)).ownsRow (W.heap.size + 3) 79 6 (.slice p pre.length c) pre.length (stepsL pre) :=
      (hown.kept (grownBy_set V A.heap.size 4 _) (.inr hne)).alloc _
    have HI : Hid (AiInv W.heap.size (J []) pre S V (.slice p pre.length c)) := hI
    have HO : Hid (((V.setCell ⟨A.heap.size, 4, none⟩ (.slice none 0 0)).alloc (.cells #[.int .i64 x.1, .int .i64 x.2.kind, .string x.2.text, .int .i64 x.2.num, .int .i64 x.2.at_, .slice none 0 0] 79)).ownsRow (W.heap.size + 3) 79 6 (.slice p pre.length c) pre.length (stepsL pre)) := hown2
    have HBn : Hid (some W.heap.size ≠ (Value.slice p pre.length c).ownBlock) := hI.box.not_row (by decide) hown
    have HB2 : Hid (Boxed ((V.setCell ⟨A.heap.size, 4, none⟩ (.slice none 0 0)).alloc (.cells #[.int .i64 x.1, .int .i64 x.2.kind, .string x.2.text, .int .i64 x.2.num, .int .i64 x.2.at_, .slice none 0 0] 79)) W.heap.size 77 (.slice p pre.length c)) :=
      (hI.box.kept (grownBy_set V A.heap.size 4 _) (by simp; omega)).alloc _
    clear hI hown hown2 hAV hVo
    gi_wp2_with (gi_at_builtin; refine wpListIn_append_there _ rfl _ _ 77 rfl (W.heap.size + 3) 79 i0 _ 6 72 Tryz.underlying77 hi hz0 hz1 hz2 rfl (by decide) _ _ _ rfl HO.out ⟨A.heap.size + 1, 0, none⟩ 1 1 (stepCells x) rfl rfl ?_ (by simp [stepCells, Value.oneCell']) (by unfold maxLen; omega) (by omega) (by simp; omega) ?_; exact six_new _ x _ _ (by simp; omega); intro v' w6 hown6 hgr6 hthere; obtain ⟨g', cap', hv'⟩ := ownsRow_succ hown6; subst hv'; have hb6 := HB2.out.kept hgr6 HBn.out; have hb6c := hb6.cell; have hb6f := hb6.frozen; have HB6 : Hid (Boxed w6 W.heap.size 77 (.slice p pre.length c)) := hb6; clear hb6)
    have hI := HI.out
    have hz6 := hgr6.size
    simp only [World.size_alloc, World.size_setCell] at hz6
    have hg6 : W.heap.size + 3 ≤ g' ∧ g' < w6.heap.size := hown6.lt g' rfl
    refine ⟨fun k => k = W.heap.size ∨ k = g', by simp; omega, ?_, ?_, .slice (some ⟨g', 0, none⟩) (pre.length + 1) cap', ?_⟩
    · intro k hk hS
      have h1 : ¬ (k = W.heap.size ∨ (Value.slice p pre.length c).ownBlock = some k) := fun h => hS ((hI.mine k).2 h)
      refine (Below.heap_setCell w6 ⟨W.heap.size, 0, none⟩ _ k (fun e => h1 (.inl e))).trans ((hgr6.block k (by simp; omega) (fun e => h1 (.inr e.symm))).trans ((Below.heap_alloc _ _ k (by simp; omega)).trans (Below.heap_setCell V ⟨A.heap.size, 4, none⟩ _ k (by show k ≠ A.heap.size; omega))))
    · rintro k (rfl | rfl)
      · exact .inl ((hI.mine _).2 (.inl rfl))
      · rcases hthere with h | h
        · exact .inl ((hI.mine _).2 (.inr h.symm))
        · simp only [Value.ownBlock, World.size_alloc, World.size_setCell, Option.some.injEq] at h
          right; omega
    · refine ⟨HB6.out.set _, ?_, fun k => by simp [Value.ownBlock, eq_comm], ?_⟩
      · have h1 := hown6.kept (grownBy_set w6 W.heap.size 0 (.slice (some ⟨g', 0, none⟩) (pre.length + 1) cap')) (.inr (by simp [Value.ownBlock]; omega))
        rw [stepsL_snoc, List.length_append]
        exact h1
      · exact hJ _ _ _ _ (hJ _ _ _ _ (hJ _ _ _ none (hJ _ _ _ _ hI.j (grownBy_set V A.heap.size 4 _) (fun r e => by cases e; omega)) (World.grownBy_alloc _ _ _) (fun r e => by cases e)) hgr6 (fun r e => by have := (HO.out.lt r e).1; omega)) (grownBy_set w6 W.heap.size 0 _) (fun r e => by cases e; omega)
  case done =>
    rintro D S A hD hSD ⟨v, hI⟩ hK
    have hbc := hI.box.cell
    have hown := hI.own
    have hjA := hI.j
    have hordl : ((MT.ord 1 t).take 1000000).length ≤ 1000000 := by simp; omega
    generalize hord : (MT.ord 1 t).take 1000000 = ord at *
    obtain ⟨p, c, rfl⟩ : ∃ p c, v = .slice p ord.length c := by
      rcases hown.2 with ⟨rfl, h0⟩ | ⟨g, cap, cur, rfl, _⟩
      · exact ⟨none, 0, by rw [h0]⟩
      · exact ⟨_, _, rfl⟩
    have HO : Hid (A.ownsRow (W.heap.size + 3) 79 6 (.slice p ord.length c) ord.length (stepsL ord)) := hown
    clear hI hown hb1 hm1 hn1 ht3 hJ3 ht' h0
    gi_wp2
    gi_loopg [21] ord.length (fun gk i wr => ∃ j : Nat, j ≤ ord.length ∧ gk = ord.length - j ∧ i = .int .i64 j ∧ J (ord.take j) wr ∧ Hid (wr.ownsRow (W.heap.size + 3) 79 6 (.slice p ord.length c) ord.length (stepsL ord)) ∧ wr.heap[D]? = some (.deferred (some [])))
    case atStart => exact ⟨0, Nat.zero_le _, rfl, rfl, hjA, HO, hK⟩
    case round =>
      obtain ⟨j, hjl, hgk, rfl, hjj, HR, hKr⟩ := hrel
      clear hK HO hjA hbc
      by_cases hj : j < ord.length
      · obtain ⟨g, rfl⟩ : ∃ g, p = some ⟨g, 0, none⟩ := by
          rcases HR.out.2 with ⟨h, h0⟩ | ⟨g, cap, cur, h, _⟩
          · omega
          · cases h; exact ⟨g, rfl⟩
        obtain ⟨hg1, hg2⟩ := HR.out.lt g rfl
        have hcap : ord.length ≤ c := by
          rcases HR.out.2 with ⟨h, h0⟩ | ⟨g, cap, cur, h, _, _, h1, _⟩
          · cases h
          · cases h; exact h1
        have hDl := (Array.getElem?_eq_some_iff.1 hKr).1
        obtain ⟨x, hx⟩ : ∃ x, ord[j] = x := ⟨_, rfl⟩
        have hcell : ∀ i u, i < 6 → (stepCells x)[i]? = some u → wr.cell? ⟨g, j * 6 + i, none⟩ = some u := by
          intro i u hi hu
          have h1 := HR.out.cells (g := g) rfl (j * 6 + i) u (by rw [stepsL_get ord j hj i hi, hx]; exact hu)
          have e : (⟨g, 0, none⟩ : Addr).add (j * 6 + i) = ⟨g, j * 6 + i, none⟩ := by unfold Addr.add; split <;> simp_all
          rw [e] at h1; exact h1
        have c0 := hcell 0 _ (by omega) rfl
        have c1 := hcell 1 _ (by omega) rfl
        have c2 := hcell 2 _ (by omega) rfl
        have c3 := hcell 3 _ (by omega) rfl
        have c4 := hcell 4 _ (by omega) rfl
        have c5 := hcell 5 _ (by omega) rfl
        rw [Nat.add_zero] at c0
        have HP : Hid (ord.take j ++ [x] <+: ord) := by
          rw [← hx, List.take_append_getElem hj]; exact List.take_prefix _ _
        have HT : Hid (ord.take (j + 1) = ord.take j ++ [x]) := by show _ = _; rw [← hx, List.take_append_getElem hj]
        have HK : Hid (wr.heap[D]? = some (.deferred (some []))) := hKr
        have HJ : Hid (J (ord.take j) wr) := hjj
        have HY : Hid (∀ (pre : List (Nat × MT)) (x : Nat × MT) (W1 : World), pre ++ [x] <+: ord → J pre W1 → YieldAt Fence.wide (n - 1) Tryz.prog l #[.int .i64 x.1, bareV x.2] W1 fun e W' => e = .returned (.bool true) ∧ J (pre ++ [x]) W' ∧ KeepsX X W1 W') := hY
        have hxs : x.2.text.size ≤ 140737488351232 := hsm x (by rw [← hx]; exact List.getElem_mem hj)
        clear hcell hx hKr hjj hY hord hsm
        gi_wp2_with fail
        refine ⟨trivial, fun _ => by omega, ?_⟩
        refine (callsIn_wide.2 (clone_big x.2.text _ hxs)).mono ?_
        rintro e w5 ⟨rfl, hb5⟩
        clear c0 c1 c2 c3 c4 c5
        have hz5 := hb5.size
        simp only [World.size_alloc] at hz5
        have hnew : ∀ i u, (stepCells x)[i]? = some u → w5.cell? ⟨wr.heap.size, i, none⟩ = some u := by
          intro i u hu
          refine (hb5.cell (p := ⟨wr.heap.size, i, none⟩) (by simp)).trans ?_
          rw [World.cell?_alloc_new]
          simpa [stepCells] using hu
        have d0 := hnew 0 _ rfl
        have d1 := hnew 1 _ rfl
        have d2 := hnew 2 _ rfl
        have d3 := hnew 3 _ rfl
        have d4 := hnew 4 _ rfl
        have d5 := hnew 5 _ rfl
        have f2 : w5.frozen? ⟨wr.heap.size, 2, none⟩ = false := by
          refine (hb5.frozen (p := ⟨wr.heap.size, 2, none⟩) (by simp)).trans ?_
          unfold World.frozen?
          rw [heap_alloc_new]
          rfl
        have hg5 : (wr.alloc (.cells #[.int .i64 x.1, .int .i64 x.2.kind, .string x.2.text, .int .i64 x.2.num, .int .i64 x.2.at_, .slice none 0 0] 79)).grownBy w5 none := by
          obtain ⟨a1, a2, a3, a4, a5⟩ := hb5
          exact ⟨a1, a2, a3, a4, fun k hk _ => a5 k hk⟩
        have hJ6 : J (ord.take j) (w5.setCell ⟨wr.heap.size, 2, none⟩ (.string x.2.text)) :=
          hJ _ _ _ _ (hJ _ _ _ none (hJ _ _ _ none HJ.out (World.grownBy_alloc _ _ _) (fun r e => by cases e)) hg5 (fun r e => by cases e)) (grownBy_set w5 wr.heap.size 2 _) (fun r e => by cases e; omega)
        have HB5 : Hid (∀ k, k < wr.heap.size → (w5.setCell ⟨wr.heap.size, 2, none⟩ (.string x.2.text)).heap[k]? = wr.heap[k]?) := fun k hk =>
          (Below.heap_setCell w5 ⟨wr.heap.size, 2, none⟩ _ k (by show k ≠ wr.heap.size; omega)).trans ((hb5.block k (by simp; omega)).trans (Below.heap_alloc wr _ k hk))
        obtain ⟨fn, tmps, assign, body, hy, hR⟩ := HY.out (ord.take j) x (w5.setCell ⟨wr.heap.size, 2, none⟩ (.string x.2.text)) HP.out hJ6
        clear hJ6 hg5 hnew hb5
        dsimp only [bareV] at hy
        gi_wp2
        refine ⟨fun _ => by omega, hR.mono ?_⟩
        rintro e W7 ⟨rfl, hJ7, hk7⟩
        clear hy hR d0 d1 d2 d3 d4 d5 f2
        have HJ7 : Hid (J (ord.take j ++ [x]) W7) := hJ7
        have HK7 : Hid (KeepsX X (w5.setCell ⟨wr.heap.size, 2, none⟩ (.string x.2.text)) W7) := hk7
        clear hJ7 hk7
        gi_wp2
        gi_roundg (ord.length - (j + 1))
        case measure => omega
        case rel =>
          have hblk : ∀ k, k < wr.heap.size → W.heap.size ≤ k → W7.heap[k]? = wr.heap[k]? := fun k hk hW =>
            (HK7.out.same k (by simp; omega) (fun hx => by have := (hX k hx).1; omega)).trans (HB5.out k hk)
          refine ⟨j + 1, by omega, rfl, by simp, by rw [HT.out]; exact HJ7.out, own_same HR.out (hblk g hg2 (by omega)), (hblk D hDl (by omega)).trans HK.out⟩
      · obtain rfl : j = ord.length := by omega
        rw [List.take_length] at hjj
        gi_wp2
        refine ⟨by simp, .inl ⟨_, _, rfl, run_takeDeferred hKr, ?_⟩⟩
        refine ⟨_, results_none rfl _ _ _, ⟨_, rfl⟩, ?_⟩
        rw [hord]
        exact hJ _ _ _ (some D) hjj (grownBy_putObj' _ _ _) (fun r e => by cases e; omega)
end Go.Proofs.YthbnegggohegkaaGreatDoor
