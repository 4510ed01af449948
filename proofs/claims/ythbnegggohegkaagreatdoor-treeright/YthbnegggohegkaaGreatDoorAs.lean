/-
  A loop over an iterator that may be left by a return, and tree.All's iterator as one that may; the walks of guiseref2.told, guiseref2.Order and guiselaw2.twin.
-/
import Derived.Test.YthbnegggohegkaaGreatDoorAi
import Derived.Test.YthbnegggohegkaaGreatDoorMw
namespace Go.Proofs.YthbnegggohegkaaGreatDoor
open Go.RowKit Go.Shelf

/-- The contract of an iterator that gives ord until a round answers no. -/
def SeqStop {α : Type} (F : Fence) (n : Nat) (P : Program) (g : Nat) (lb : Array Value) (encs : α → Array Value) (ord : List α) (w : World) : Prop :=
  ∀ (l : Nat) (J : List α → World → Prop) (R : World → Prop) (W : World) (X : Nat → Prop), Below w.heap.size w W → (∀ k, X k → k < W.heap.size) → AbA W.heap.size J → AbA W.heap.size (fun (_ : Unit) => R) →
    (∀ pre x W1, pre ++ [x] <+: ord → J pre W1 → YieldAt F (n - 1) P l (encs x) W1 fun e W' => (e = .returned (.bool true) ∧ J (pre ++ [x]) W' ∧ KeepsX X W1 W') ∨ (e = .returned (.bool false) ∧ R W' ∧ KeepsX X W1 W')) →
    J [] W →
    CallsIn F n P g (#[.func (.yield l) #[] #[]] ++ lb) W fun e W' => (∃ v, e = .returned v) ∧ (J ord W' ∨ R W')

/-- How the body of a round is left; N: how many blocks there were ahead of it. -/
def stopPost {α : Type} (N : Nat) (S : Nat → Prop) (I : List α → World → Prop) (Ix : World → Prop) (xs : List α) (W : World) : Exit → Act → World → Prop
  | .normal, _, W' => W.heap.size ≤ W'.heap.size ∧ (∀ k, k < N → ¬ S k → W'.heap[k]? = W.heap[k]?) ∧ I xs W'
  | .ret, _, W' => W.heap.size ≤ W'.heap.size ∧ (∀ k, k < N → ¬ S k → W'.heap[k]? = W.heap[k]?) ∧ Ix W'
  | _, _, _ => False

section
variable {F : Fence} {n : Nat} {P : Program}

theorem wpIn_rangeFunc_stop {α : Type} {g : Operand} {ps : Array Tmp} {assign body : Code} {Q : Exit → Act → World → Prop} {a : Act} {w : World}
    (hro : F.round = none) (h1 : 1 ≤ n) {gf : Nat} {lb : Array Value} (hg : a.eval g = .func (.func gf) #[] lb) (hFg : F.fn gf) (eg : ∀ args w, (callFunc gf args).run P w = .ok (.enter gf args) w)
    {encs : α → Array Value} {ord : List α} (hseq : SeqStop F (n - 1) P gf lb encs ord w) (hps : ∀ x, (encs x).size = ps.size)
    (S : Nat → Prop) (hS : ∀ k, S k → k < w.heap.size)
    (I : List α → World → Prop) (Ix : World → Prop) (hI : AbA w.heap.size I) (hIx : AbA w.heap.size (fun (_ : Unit) => Ix)) (h0 : I [] w) (a₁ : α → World → Act) (g₁ : α → World → World) (hg₁ : ∀ (x : α) (W : World), W.grownBy (g₁ x W) none)
    (hassign : ∀ (l : Nat) (x : α) (W : World) (K : Act → World → Prop), K (a₁ x W) (g₁ x W) →
      assign.wpIn (F.inRound l) (n - 1 - 1) P (Exit.then K (fun _ _ _ => False)) { tmps := (ps.zip (encs x)).foldl (fun t (p, v) => t.setIfInBounds p v) a.tmps, defers := [] } W)
    (hbody : ∀ (l : Nat) (pre : List α) (x : α) (W W' : World), pre ++ [x] <+: ord → I pre W' → w.heap.size ≤ W.heap.size → W'.heap.size = (g₁ x W).heap.size → l < W.heap.size → (∀ k, k ≠ l → W'.heap[k]? = (g₁ x W).heap[k]?) → body.wpIn (F.inRound l) (n - 1 - 1) P (stopPost W.heap.size S I Ix (pre ++ [x]) W') (a₁ x W) W')
    (hdone : ∀ (D : Nat) (W : World), w.heap.size ≤ D → I ord W → W.heap[D]? = some (.deferred (some [])) → Q .normal { a with defers := { target := .collected D, args := #[] } :: a.defers } W)
    (hstop : ∀ (D : Nat) (W : World), w.heap.size ≤ D → Ix W → W.heap[D]? = some (.deferred (some [])) → Q .ret { a with defers := { target := .collected D, args := #[] } :: a.defers } W) :
    (Code.rangeFunc g ps assign body).wpIn F n P Q a w := by
  refine wpIn_rangeFunc ?_
  intro fn hfn
  rw [hro]
  obtain ⟨rec, hrec⟩ : ∃ rec : LoopState → Option Code → Loop, rec = fun st pe => { state := st, pending := pe, fn, tmps := a.tmps, params := ps, assign, body, defers := w.heap.size } := ⟨_, rfl⟩
  obtain ⟨W1, hW1⟩ : ∃ W1, (w.alloc (.deferred (some []))).alloc (.loop (rec .ready none)) = W1 := ⟨_, rfl⟩
  have hz1 : W1.heap.size = w.heap.size + 2 := by rw [← hW1]; simp
  have hL1 : W1.heap[w.heap.size + 1]? = some (.loop (rec .ready none)) := by
    rw [← hW1]; have := heap_alloc_new (w.alloc (.deferred (some []))) (.loop (rec .ready none)); rwa [World.size_alloc] at this
  have hK1 : W1.heap[w.heap.size]? = some (.deferred (some [])) := by
    rw [← hW1]; exact (Below.heap_alloc _ _ _ (by simp)).trans (heap_alloc_new w _)
  have hI1 : I [] W1 := by
    rw [← hW1]; exact hI _ _ _ none (hI _ _ _ none h0 (World.grownBy_alloc _ _ _) (fun r e => by cases e)) (World.grownBy_alloc _ _ _) (fun r e => by cases e)
  have hb1 : Below w.heap.size w W1 := by
    rw [← hW1]; exact ((Below.refl _ w).alloc (Nat.le_refl _) _).alloc (by simp) _
  refine ⟨w.heap.size + 1, [{ target := .collected w.heap.size, args := #[] }], W1, { target := .fn (.func gf) lb, args := #[.func (.yield (w.heap.size + 1)) #[] #[]] }, W1, gf,
    #[.func (.yield (w.heap.size + 1)) #[] #[]] ++ lb, W1, ?_, ?_, ?_, ?_, fun _ => h1, ?_⟩
  · rw [← hW1, hrec]; exact run_enterLoop_outer _ _ _ _ _
  · simp only [resolve, hg]
    simp [go_sem]
  · intro f' hf'; simp [Target.leads] at hf'; subst hf'; exact hFg
  · simp [invoke, go_sem, eg]
  · refine (hseq (w.heap.size + 1)
      (fun pre W => I pre W ∧ W.heap[w.heap.size + 1]? = some (.loop (rec .ready none)) ∧ W.heap[w.heap.size]? = some (.deferred (some [])))
      (fun W => Ix W ∧ W.heap[w.heap.size + 1]? = some (.loop (rec .done (some .ret))) ∧ W.heap[w.heap.size]? = some (.deferred (some [])))
      W1 (fun k => S k ∨ k = w.heap.size + 1) hb1 ?_ ?_ ?_ ?_ ⟨hI1, hL1, hK1⟩).mono ?_
    · rintro k (hk | rfl)
      · have := hS k hk; omega
      · omega
    · rintro s A A' row ⟨hi, hl, hk⟩ hgr hr
      have hlt := (Array.getElem?_eq_some_iff.1 hl).1
      refine ⟨hI s A A' row hi hgr (fun r e => by have := hr r e; omega), (hgr.block _ hlt ?_).trans hl, (hgr.block _ (by omega) ?_).trans hk⟩
      · intro e; have := hr _ e.symm; omega
      · intro e; have := hr _ e.symm; omega
    · rintro s A A' row ⟨hi, hl, hk⟩ hgr hr
      have hlt := (Array.getElem?_eq_some_iff.1 hl).1
      refine ⟨hIx () A A' row hi hgr (fun r e => by have := hr r e; omega), (hgr.block _ hlt ?_).trans hl, (hgr.block _ (by omega) ?_).trans hk⟩
      · intro e; have := hr _ e.symm; omega
      · intro e; have := hr _ e.symm; omega
    · rintro pre x W hpre ⟨hi, hl, hk⟩
      have hlt' : w.heap.size + 1 < W.heap.size := (Array.getElem?_eq_some_iff.1 hl).1
      have hy := run_yield (P := P) (args := encs x) hl (by rw [hrec]; exact hps x)
      rw [hrec] at hy
      have hgr := hg₁ x W
      have hz2 := hgr.size
      have hs1 : ¬ S (w.heap.size + 1) := fun h => by have := hS _ h; omega
      have hs2 : ¬ S w.heap.size := fun h => by have := hS _ h; omega
      have hl0 : (g₁ x W).heap[w.heap.size + 1]? = some (.loop (rec .ready none)) := (hgr.block _ hlt' (by simp)).trans hl
      have hk0 : (g₁ x W).heap[w.heap.size]? = some (.deferred (some [])) := (hgr.block _ (by omega) (by simp)).trans hk
      refine ⟨fn, _, assign, body, hy, roundIn_of_wpIn hfn (hassign _ x W _ ⟨_, run_beginRound hl0 (by rw [hrec]), ?_⟩)⟩
      obtain ⟨V, hV⟩ : ∃ V, V = (g₁ x W).putObj (w.heap.size + 1) (.loop { rec .ready none with state := .busy }) := ⟨_, rfl⟩
      have hVz : V.heap.size = (g₁ x W).heap.size := by rw [hV]; simp
      have hl2 : V.heap[w.heap.size + 1]? = some (.loop { rec .ready none with state := .busy }) := by rw [hV]; exact World.putObj_heap_same (by omega)
      have hk2 : V.heap[w.heap.size]? = some (.deferred (some [])) := by rw [hV]; exact (World.putObj_heap_other (by omega)).trans hk0
      have hVo : ∀ k, k ≠ w.heap.size + 1 → V.heap[k]? = (g₁ x W).heap[k]? := fun k hk => by rw [hV]; exact World.putObj_heap_other (fun e => hk e)
      have hIV : I pre V := by
        rw [hV]
        exact hI pre _ _ (some (w.heap.size + 1)) (hI pre W _ none hi hgr (fun r e => by cases e)) (grownBy_putObj' _ _ _) (fun r e => by cases e; omega)
      rw [← hV]
      refine wpIn_mono (hbody _ pre x W V hpre hIV (by omega) hVz hlt' hVo) ?_
      have fin : ∀ (W3 : World) (o : Obj), V.heap.size ≤ W3.heap.size → (∀ k, k < W.heap.size → ¬ S k → W3.heap[k]? = V.heap[k]?) → KeepsX (fun k => S k ∨ k = w.heap.size + 1) W (W3.putObj (w.heap.size + 1) o) := fun W3 o hz hk3 =>
        ⟨by simp; omega, fun k hk' hx => (World.putObj_heap_other (fun e => hx (.inr e))).trans ((hk3 k hk' (fun e => hx (.inl e))).trans ((hVo k (fun e => hx (.inr e))).trans (hgr.block k hk' (by simp))))⟩
      rintro e a3 W3 hp
      cases e with
      | normal =>
        obtain ⟨hz3, hk3, hi3⟩ := hp
        have hl3 : W3.heap[w.heap.size + 1]? = some (.loop { rec .ready none with state := .busy }) := (hk3 _ hlt' hs1).trans hl2
        have hk4 : W3.heap[w.heap.size]? = some (.deferred (some [])) := (hk3 _ (by omega) hs2).trans hk2
        have hr := run_endRound (P := P) none hl3
        rw [hrec] at hr
        refine ⟨_, _, hr, .inl ⟨rfl, ⟨hI _ W3 _ (some (w.heap.size + 1)) hi3 (grownBy_putObj' _ _ _) (fun r e => by cases e; omega), ?_, (World.putObj_heap_other (by omega)).trans hk4⟩, fin W3 _ hz3 hk3⟩⟩
        rw [hrec]; exact World.putObj_heap_same (Array.getElem?_eq_some_iff.1 hl3).1
      | ret =>
        obtain ⟨hz3, hk3, hi3⟩ := hp
        have hl3 : W3.heap[w.heap.size + 1]? = some (.loop { rec .ready none with state := .busy }) := (hk3 _ hlt' hs1).trans hl2
        have hk4 : W3.heap[w.heap.size]? = some (.deferred (some [])) := (hk3 _ (by omega) hs2).trans hk2
        have hr := run_endRound (P := P) (some .ret) hl3
        rw [hrec] at hr
        refine ⟨_, _, hr, .inr ⟨rfl, ⟨hIx () W3 _ (some (w.heap.size + 1)) hi3 (grownBy_putObj' _ _ _) (fun r e => by cases e; omega), ?_, (World.putObj_heap_other (by omega)).trans hk4⟩, fin W3 _ hz3 hk3⟩⟩
        rw [hrec]; exact World.putObj_heap_same (Array.getElem?_eq_some_iff.1 hl3).1
      | exit id => exact hp.elim
      | goto t => exact hp.elim
      | panic ch => exact hp.elim
      | outgrown => exact hp.elim
    · rintro e W2 ⟨⟨v, rfl⟩, ⟨hi, hl, hk⟩ | ⟨hi, hl, hk⟩⟩
      · exact ⟨none, _, by have := run_endLoop (P := P) hl (by rw [hrec]; simp); rw [hrec] at this; exact this, hdone _ _ (Nat.le_refl _) (hI _ W2 _ (some (w.heap.size + 1)) hi (grownBy_putObj' _ _ _) (fun r e => by cases e; omega)) ((World.putObj_heap_other (by omega)).trans hk)⟩
      · exact ⟨some .ret, _, by have := run_endLoop (P := P) hl (by rw [hrec]; simp); rw [hrec] at this; exact this, wpIn_ret (hstop _ _ (Nat.le_refl _) (hIx () W2 _ (some (w.heap.size + 1)) hi (grownBy_putObj' _ _ _) (fun r e => by cases e; omega)) ((World.putObj_heap_other (by omega)).trans hk))⟩
end

attribute [local go_sem] Oper.semAt_some

set_option maxRecDepth 100000 in
set_option maxHeartbeats 2000000 in
theorem all1_stop (n : Nat) (hn : 5 ≤ n) (t : MT) (Bn B : Nat) (w : World) (hBn : BoxAt w Bn t) (ht : t.In B w) (hB : B ≤ w.heap.size) (hn' : Bn < w.heap.size)
    (hsm : ∀ x ∈ (MT.ord 1 t).take 1000000, x.2.text.size ≤ 140737488351232) :
    SeqStop Fence.wide n Tryz.prog 38 #[.pointer (some ⟨Bn, 0, none⟩)] (fun x : Nat × MT => #[.int .i64 x.1, bareV x.2]) ((MT.ord 1 t).take 1000000) w := by
  intro l J R W X hW hX hJ hR hY h0
  have hBn' := hBn.below hn' hW
  have ht' := MT.In.below (hW.mono hB) t ht
  have hz := hW.size
  have hBl : Bn < W.heap.size := by omega
  obtain ⟨k0, k1, k2, k3, k4⟩ := hBn'
  refine callsIn_of_wp_marks Tryz.func38 rfl trivial ?_ rfl
  simp only [Tryz.ntmps38, List.size_toArray, List.length_cons, List.length_nil, Nat.reduceAdd, Nat.reduceSub, Array.replicate_succ, Array.replicate_zero, List.push_toArray, List.append_toArray, List.nil_append, List.cons_append]
  gi_wp2_with fail
  refine ⟨trivial, fun _ => by omega, ?_⟩
  refine (callsIn_wide.2 (nodes_any t _ _)).mono ?_
  rintro e w' ⟨rfl, rfl⟩
  gi_wp2_with fail
  have hB3 : Below W.heap.size W (((W.alloc (.cells #[.slice none 0 0] 77)).alloc (nodeO t)).alloc (.cells #[.int .i64 1000000] 3)) := below3 W _ _ _
  have hn1 : BoxAt (((W.alloc (.cells #[.slice none 0 0] 77)).alloc (nodeO t)).alloc (.cells #[.int .i64 1000000] 3)) (W.heap.size + 1) t := by
    have := (BoxAt.new (W.alloc (.cells #[.slice none 0 0] 77)) t).below (B := W.heap.size + 2) (by simp) ((Below.refl _ _).alloc (by simp) (.cells #[.int .i64 1000000] 3))
    simpa using this
  have hm1 : (((W.alloc (.cells #[.slice none 0 0] 77)).alloc (nodeO t)).alloc (.cells #[.int .i64 1000000] 3)).cell? ⟨W.heap.size + 1 + 1, 0, none⟩ = some (.int .i64 ((1000000 : Nat) : Int)) := by
    have := World.cell?_alloc_new ((W.alloc (.cells #[.slice none 0 0] 77)).alloc (nodeO t)) #[.int .i64 1000000] 3 0
    simp only [World.size_alloc] at this
    rw [this]; rfl
  have hb1 : Boxed (((W.alloc (.cells #[.slice none 0 0] 77)).alloc (nodeO t)).alloc (.cells #[.int .i64 1000000] 3)) W.heap.size 77 (.slice none 0 0) := ((Boxed.new W 77 (.slice none 0 0)).alloc _).alloc _
  have hz3 : (((W.alloc (.cells #[.slice none 0 0] 77)).alloc (nodeO t)).alloc (.cells #[.int .i64 1000000] 3)).heap.size = W.heap.size + 3 := by simp
  have ht3 := MT.In.below (hB3.mono (show B ≤ W.heap.size by omega)) t ht'
  have hJ3 : J [] (((W.alloc (.cells #[.slice none 0 0] 77)).alloc (nodeO t)).alloc (.cells #[.int .i64 1000000] 3)) :=
    hJ _ _ _ none (hJ _ _ _ none (hJ _ _ _ none h0 (World.grownBy_alloc _ _ _) (fun r e => by cases e)) (World.grownBy_alloc _ _ _) (fun r e => by cases e)) (World.grownBy_alloc _ _ _) (fun r e => by cases e)
  have HW : ∃ W3, W3 = (((W.alloc (.cells #[.slice none 0 0] 77)).alloc (nodeO t)).alloc (.cells #[.int .i64 1000000] 3)) := ⟨_, rfl⟩
  obtain ⟨W3, hW3⟩ := HW
  rw [← hW3] at hB3 hn1 hm1 hb1 hz3 ht3 hJ3 ⊢
  clear hW3 k0 k1 k2 k3 k4
  refine wpIn_rangeFunc_own rfl (by omega) (gf := 59) (lb := #[.pointer (some ⟨W.heap.size + 1, 0, none⟩), .pointer (some ⟨W.heap.size + 1 + 1, 0, none⟩)]) rfl trivial (enters_of Tryz.func59 (by kernel_rfl) rfl)
    (nodes1_own (n - 1) (by omega) t 1000000 (by omega) (W.heap.size + 1) (W.heap.size + 1 + 1) B W3 hn1 hm1 ht3 (by omega) (by omega) (by omega)) (fun _ => rfl)
    (by rintro k (h | h | h) <;> omega) (fun k => k = W.heap.size ∨ (Value.slice none 0 0).ownBlock = some k) (by rintro k (rfl | h); exact ⟨by omega, by omega⟩; cases h)
    (fun pre S A => ∃ v, AiInv W.heap.size (J []) pre S A v) (fun _ _ _ ⟨v, h⟩ => h.lt) ?ab ⟨_, hb1, World.ownsRow_nil _ _ _ _, fun _ => Iff.rfl, hJ3⟩
    (fun x A => { tmps := #[.func (.yield l) #[] #[], .pointer (some ⟨Bn, 0, none⟩), undef, .pointer (some ⟨W.heap.size, 0, none⟩), .int .i64 x.1, .pointer (some ⟨A.heap.size, 0, none⟩), undef, undef, nodeV t, .func (.func 59) #[] #[.pointer (some ⟨W.heap.size + 1, 0, none⟩), .pointer (some ⟨W.heap.size + 1 + 1, 0, none⟩)], .int .i64 x.1, nodeV x.2, undef, undef, undef, undef, undef, undef, undef, undef, undef, undef, undef, undef, undef, undef, undef, undef, undef, undef, undef, undef, undef, undef, undef, undef, undef, undef, undef], defers := [] })
    (fun x A => A.alloc (nodeO x.2)) (fun x A => World.grownBy_alloc _ _ _) ?assign ?body ?done
  case ab =>
    rintro s S A A' row ⟨v, h⟩ hg hr
    have h1 : some W.heap.size ≠ row := fun e => (hr _ e.symm).2 ((h.mine _).2 (.inl rfl))
    refine ⟨v, h.box.kept hg h1, h.own.kept hg ?_, h.mine, hJ _ _ _ _ h.j hg (fun r e => by have := (hr r e).1; omega)⟩
    cases hv : v.ownBlock with
    | none => exact .inl rfl
    | some k => exact .inr fun e => (hr k e.symm).2 ((h.mine k).2 (.inr hv))
  case assign =>
    intro l' x A K hK
    gi_wp2
    refine cast (congrArg (fun z => K ⟨z, []⟩ (A.alloc (nodeO x.2))) ?_) hK
    simp
  case body =>
    rintro l' pre x S A V hpre ⟨v, hI⟩ hVz hl' hVo
    have hlen : pre.length < 1000000 := by
      have := hpre.length_le
      simp at this; omega
    have hAV : V.heap[A.heap.size]? = some (nodeO x.2) := (hVo _ (by omega)).trans (heap_alloc_new A _)
    have hbx : BoxAt V A.heap.size x.2 := by
      have h1 := BoxAt.new A x.2
      have hc : ∀ o, V.cell? ⟨A.heap.size, o, none⟩ = (A.alloc (nodeO x.2)).cell? ⟨A.heap.size, o, none⟩ := fun o => World.cell?_of_block (a := ⟨A.heap.size, o, none⟩) (hAV.trans (heap_alloc_new A _).symm)
      exact ⟨(hc _).trans h1.k0, (hc _).trans h1.k1, (hc _).trans h1.k2, (hc _).trans h1.k3, (hc _).trans h1.k4⟩
    have hfx : V.frozen? ⟨A.heap.size, 4, none⟩ = false := by simp [World.frozen?, hAV]
    simp only [World.size_alloc] at hVz
    obtain ⟨k0, k1, k2, k3, k4⟩ := hbx
    have hsA : W.heap.size < A.heap.size := by
      have := hI.box.lt
      rw [hVz] at this
      rcases Nat.lt_or_ge W.heap.size A.heap.size with h | h
      · exact h
      · have e : W.heap.size = A.heap.size := by omega
        have h2 := hI.box
        unfold Boxed at h2
        rw [e, hAV] at h2
        simp at h2
    have hbc := hI.box.cell
    have hbf := hI.box.frozen
    have hown := hI.own
    obtain ⟨p, c, rfl⟩ : ∃ p c, v = .slice p pre.length c := by
      rcases hown.2 with ⟨rfl, h0⟩ | ⟨g, cap, cur, rfl, _⟩
      · exact ⟨none, 0, by rw [h0]⟩
      · exact ⟨_, _, rfl⟩
    have hne : (Value.slice p pre.length c).ownBlock ≠ some A.heap.size := fun e => by
      have h1 := hown.2
      rcases h1 with ⟨h1, _⟩ | ⟨g, cap, cur, h1, _, hg, _⟩
      · rw [h1] at e; cases e
      · rw [h1] at e
        simp only [Value.ownBlock, Option.some.injEq] at e
        subst e
        rw [hAV] at hg
        simp at hg
    obtain ⟨i0, hi, hz0, hz1, hz2⟩ := info_parts info79
    have hown2 : ((V.setCell ⟨A.heap.size, 4, none⟩ (.slice none 0 0)).alloc (.cells #[.int .i64 x.1, .int .i64 x.2.kind, .string x.2.text, .int .i64 x.2.num, .int .i64 x.2.at_, .slice none 0 0] 79)).ownsRow (W.heap.size + 3) 79 6 (.slice p pre.length c) pre.length (stepsL pre) :=
      (hown.kept (grownBy_set V A.heap.size 4 _) (.inr hne)).alloc _
    have HI : Hid (AiInv W.heap.size (J []) pre S V (.slice p pre.length c)) := hI
    have HO : Hid (((V.setCell ⟨A.heap.size, 4, none⟩ (.slice none 0 0)).alloc (.cells #[.int .i64 x.1, .int .i64 x.2.kind, .string x.2.text, .int .i64 x.2.num, .int .i64 x.2.at_, .slice none 0 0] 79)).ownsRow (W.heap.size + 3) 79 6 (.slice p pre.length c) pre.length (stepsL pre)) := hown2
    have HBn : Hid (some W.heap.size ≠ (Value.slice p pre.length c).ownBlock) := hI.box.not_row (by decide) hown
    have HB2 : Hid (Boxed ((V.setCell ⟨A.heap.size, 4, none⟩ (.slice none 0 0)).alloc (.cells #[.int .i64 x.1, .int .i64 x.2.kind, .string x.2.text, .int .i64 x.2.num, .int .i64 x.2.at_, .slice none 0 0] 79)) W.heap.size 77 (.slice p pre.length c)) :=
      (hI.box.kept (grownBy_set V A.heap.size 4 _) (by simp; omega)).alloc _
    clear hI hown hown2 hAV hVo
    gi_wp2_with (gi_at_builtin; refine wpListIn_append_there _ rfl _ _ 77 rfl (W.heap.size + 3) 79 i0 _ 6 72 Tryz.underlying77 hi hz0 hz1 hz2 rfl (by decide) _ _ _ rfl HO.out ⟨A.heap.size + 1, 0, none⟩ 1 1 (stepCells x) rfl rfl ?_ (by simp [stepCells, Value.oneCell']) (by unfold maxLen; omega) (by omega) (by simp; omega) ?_; exact six_new _ x _ _ (by simp; omega); intro v' w6 hown6 hgr6 hthere; obtain ⟨g', cap', hv'⟩ := ownsRow_succ hown6; subst hv'; have hb6 := HB2.out.kept hgr6 HBn.out; have hb6c := hb6.cell; have hb6f := hb6.frozen; have HB6 : Hid (Boxed w6 W.heap.size 77 (.slice p pre.length c)) := hb6; clear hb6)
    have hI := HI.out
    have hz6 := hgr6.size
    simp only [World.size_alloc, World.size_setCell] at hz6
    have hg6 : W.heap.size + 3 ≤ g' ∧ g' < w6.heap.size := hown6.lt g' rfl
    refine ⟨fun k => k = W.heap.size ∨ k = g', by simp; omega, ?_, ?_, .slice (some ⟨g', 0, none⟩) (pre.length + 1) cap', ?_⟩
    · intro k hk hS
      have h1 : ¬ (k = W.heap.size ∨ (Value.slice p pre.length c).ownBlock = some k) := fun h => hS ((hI.mine k).2 h)
      refine (Below.heap_setCell w6 ⟨W.heap.size, 0, none⟩ _ k (fun e => h1 (.inl e))).trans ((hgr6.block k (by simp; omega) (fun e => h1 (.inr e.symm))).trans ((Below.heap_alloc _ _ k (by simp; omega)).trans (Below.heap_setCell V ⟨A.heap.size, 4, none⟩ _ k (by show k ≠ A.heap.size; omega))))
    · rintro k (rfl | rfl)
      · exact .inl ((hI.mine _).2 (.inl rfl))
      · rcases hthere with h | h
        · exact .inl ((hI.mine _).2 (.inr h.symm))
        · simp only [Value.ownBlock, World.size_alloc, World.size_setCell, Option.some.injEq] at h
          right; omega
    · refine ⟨HB6.out.set _, ?_, fun k => by simp [Value.ownBlock, eq_comm], ?_⟩
      · have h1 := hown6.kept (grownBy_set w6 W.heap.size 0 (.slice (some ⟨g', 0, none⟩) (pre.length + 1) cap')) (.inr (by simp [Value.ownBlock]; omega))
        rw [stepsL_snoc, List.length_append]
        exact h1
      · exact hJ _ _ _ _ (hJ _ _ _ _ (hJ _ _ _ none (hJ _ _ _ _ hI.j (grownBy_set V A.heap.size 4 _) (fun r e => by cases e; omega)) (World.grownBy_alloc _ _ _) (fun r e => by cases e)) hgr6 (fun r e => by have := (HO.out.lt r e).1; omega)) (grownBy_set w6 W.heap.size 0 _) (fun r e => by cases e; omega)
  case done =>
    rintro D S A hD hSD ⟨v, hI⟩ hK
    have hbc := hI.box.cell
    have hown := hI.own
    have hjA := hI.j
    have hordl : ((MT.ord 1 t).take 1000000).length ≤ 1000000 := by simp; omega
    generalize hord : (MT.ord 1 t).take 1000000 = ord at *
    obtain ⟨p, c, rfl⟩ : ∃ p c, v = .slice p ord.length c := by
      rcases hown.2 with ⟨rfl, h0⟩ | ⟨g, cap, cur, rfl, _⟩
      · exact ⟨none, 0, by rw [h0]⟩
      · exact ⟨_, _, rfl⟩
    have HO : Hid (A.ownsRow (W.heap.size + 3) 79 6 (.slice p ord.length c) ord.length (stepsL ord)) := hown
    clear hI hown hb1 hm1 hn1 ht3 hJ3 ht' h0
    gi_wp2
    gi_loopg [21] ord.length (fun gk i wr => ∃ j : Nat, j ≤ ord.length ∧ gk = ord.length - j ∧ i = .int .i64 j ∧ J (ord.take j) wr ∧ Hid (wr.ownsRow (W.heap.size + 3) 79 6 (.slice p ord.length c) ord.length (stepsL ord)) ∧ wr.heap[D]? = some (.deferred (some [])))
    case atStart => exact ⟨0, Nat.zero_le _, rfl, rfl, hjA, HO, hK⟩
    case round =>
      obtain ⟨j, hjl, hgk, rfl, hjj, HR, hKr⟩ := hrel
      clear hK HO hjA hbc
      by_cases hj : j < ord.length
      · obtain ⟨g, rfl⟩ : ∃ g, p = some ⟨g, 0, none⟩ := by
          rcases HR.out.2 with ⟨h, h0⟩ | ⟨g, cap, cur, h, _⟩
          · omega
          · cases h; exact ⟨g, rfl⟩
        obtain ⟨hg1, hg2⟩ := HR.out.lt g rfl
        have hcap : ord.length ≤ c := by
          rcases HR.out.2 with ⟨h, h0⟩ | ⟨g, cap, cur, h, _, _, h1, _⟩
          · cases h
          · cases h; exact h1
        have hDl := (Array.getElem?_eq_some_iff.1 hKr).1
        obtain ⟨x, hx⟩ : ∃ x, ord[j] = x := ⟨_, rfl⟩
        have hcell : ∀ i u, i < 6 → (stepCells x)[i]? = some u → wr.cell? ⟨g, j * 6 + i, none⟩ = some u := by
          intro i u hi hu
          have h1 := HR.out.cells (g := g) rfl (j * 6 + i) u (by rw [stepsL_get ord j hj i hi, hx]; exact hu)
          have e : (⟨g, 0, none⟩ : Addr).add (j * 6 + i) = ⟨g, j * 6 + i, none⟩ := by unfold Addr.add; split <;> simp_all
          rw [e] at h1; exact h1
        have c0 := hcell 0 _ (by omega) rfl
        have c1 := hcell 1 _ (by omega) rfl
        have c2 := hcell 2 _ (by omega) rfl
        have c3 := hcell 3 _ (by omega) rfl
        have c4 := hcell 4 _ (by omega) rfl
        have c5 := hcell 5 _ (by omega) rfl
        rw [Nat.add_zero] at c0
        have HP : Hid (ord.take j ++ [x] <+: ord) := by
          rw [← hx, List.take_append_getElem hj]; exact List.take_prefix _ _
        have HT : Hid (ord.take (j + 1) = ord.take j ++ [x]) := by show _ = _; rw [← hx, List.take_append_getElem hj]
        have HK : Hid (wr.heap[D]? = some (.deferred (some []))) := hKr
        have HJ : Hid (J (ord.take j) wr) := hjj
        have HY : Hid (∀ (pre : List (Nat × MT)) (x : Nat × MT) (W1 : World), pre ++ [x] <+: ord → J pre W1 → YieldAt Fence.wide (n - 1) Tryz.prog l #[.int .i64 x.1, bareV x.2] W1 fun e W' => (e = .returned (.bool true) ∧ J (pre ++ [x]) W' ∧ KeepsX X W1 W') ∨ (e = .returned (.bool false) ∧ R W' ∧ KeepsX X W1 W')) := hY
        have hxs : x.2.text.size ≤ 140737488351232 := hsm x (by rw [← hx]; exact List.getElem_mem hj)
        clear hcell hx hKr hjj hY hord hsm
        gi_wp2_with fail
        refine ⟨trivial, fun _ => by omega, ?_⟩
        refine (callsIn_wide.2 (clone_big x.2.text _ hxs)).mono ?_
        rintro e w5 ⟨rfl, hb5⟩
        clear c0 c1 c2 c3 c4 c5
        have hz5 := hb5.size
        simp only [World.size_alloc] at hz5
        have hnew : ∀ i u, (stepCells x)[i]? = some u → w5.cell? ⟨wr.heap.size, i, none⟩ = some u := by
          intro i u hu
          refine (hb5.cell (p := ⟨wr.heap.size, i, none⟩) (by simp)).trans ?_
          rw [World.cell?_alloc_new]
          simpa [stepCells] using hu
        have d0 := hnew 0 _ rfl
        have d1 := hnew 1 _ rfl
        have d2 := hnew 2 _ rfl
        have d3 := hnew 3 _ rfl
        have d4 := hnew 4 _ rfl
        have d5 := hnew 5 _ rfl
        have f2 : w5.frozen? ⟨wr.heap.size, 2, none⟩ = false := by
          refine (hb5.frozen (p := ⟨wr.heap.size, 2, none⟩) (by simp)).trans ?_
          unfold World.frozen?
          rw [heap_alloc_new]
          rfl
        have hg5 : (wr.alloc (.cells #[.int .i64 x.1, .int .i64 x.2.kind, .string x.2.text, .int .i64 x.2.num, .int .i64 x.2.at_, .slice none 0 0] 79)).grownBy w5 none := by
          obtain ⟨a1, a2, a3, a4, a5⟩ := hb5
          exact ⟨a1, a2, a3, a4, fun k hk _ => a5 k hk⟩
        have hJ6 : J (ord.take j) (w5.setCell ⟨wr.heap.size, 2, none⟩ (.string x.2.text)) :=
          hJ _ _ _ _ (hJ _ _ _ none (hJ _ _ _ none HJ.out (World.grownBy_alloc _ _ _) (fun r e => by cases e)) hg5 (fun r e => by cases e)) (grownBy_set w5 wr.heap.size 2 _) (fun r e => by cases e; omega)
        have HB5 : Hid (∀ k, k < wr.heap.size → (w5.setCell ⟨wr.heap.size, 2, none⟩ (.string x.2.text)).heap[k]? = wr.heap[k]?) := fun k hk =>
          (Below.heap_setCell w5 ⟨wr.heap.size, 2, none⟩ _ k (by show k ≠ wr.heap.size; omega)).trans ((hb5.block k (by simp; omega)).trans (Below.heap_alloc wr _ k hk))
        obtain ⟨fn, tmps, assign, body, hy, hRR⟩ := HY.out (ord.take j) x (w5.setCell ⟨wr.heap.size, 2, none⟩ (.string x.2.text)) HP.out hJ6
        clear hJ6 hg5 hnew hb5
        dsimp only [bareV] at hy
        gi_wp2
        refine ⟨fun _ => by omega, hRR.mono ?_⟩
        rintro e W7 (⟨rfl, hJ7, hk7⟩ | ⟨rfl, hR7, hk7⟩)
        · clear hy hRR d0 d1 d2 d3 d4 d5 f2
          have HJ7 : Hid (J (ord.take j ++ [x]) W7) := hJ7
          have HK7 : Hid (KeepsX X (w5.setCell ⟨wr.heap.size, 2, none⟩ (.string x.2.text)) W7) := hk7
          clear hJ7 hk7
          gi_wp2
          gi_roundg (ord.length - (j + 1))
          case measure => omega
          case rel =>
            have hblk : ∀ k, k < wr.heap.size → W.heap.size ≤ k → W7.heap[k]? = wr.heap[k]? := fun k hk hW =>
              (HK7.out.same k (by simp; omega) (fun hx => by have := hX k hx; omega)).trans (HB5.out k hk)
            refine ⟨j + 1, by omega, rfl, by simp, by rw [HT.out]; exact HJ7.out, own_same HR.out (hblk g hg2 (by omega)), (hblk D hDl (by omega)).trans HK.out⟩
        · clear hy hRR d0 d1 d2 d3 d4 d5 f2
          have hK7 : W7.heap[D]? = some (.deferred (some [])) := (hk7.same D (by simp; omega) (fun hx => by have := hX D hx; omega)).trans ((HB5.out D hDl).trans HK.out)
          have HR7 : Hid (R W7) := hR7
          clear hR7 hk7
          gi_wp2
          refine ⟨by simp, .inl ⟨_, _, rfl, run_takeDeferred hK7, ?_⟩⟩
          refine ⟨_, results_none rfl _ _ _, ⟨_, rfl⟩, .inr ?_⟩
          exact hR () _ _ (some D) HR7.out (grownBy_putObj' _ _ _) (fun r e => by cases e; omega)
      · obtain rfl : j = ord.length := by omega
        rw [List.take_length] at hjj
        gi_wp2
        refine ⟨by simp, .inl ⟨_, _, rfl, run_takeDeferred hKr, ?_⟩⟩
        refine ⟨_, results_none rfl _ _ _, ⟨_, rfl⟩, .inl ?_⟩
        rw [hord]
        exact hJ _ _ _ (some D) hjj (grownBy_putObj' _ _ _) (fun r e => by cases e; omega)
end Go.Proofs.YthbnegggohegkaaGreatDoor
namespace Go.Proofs.YthbnegggohegkaaGreatDoor
open Go.RowKit

theorem take_more {α : Type} (l B : List α) (m : Nat) : (l.take m ++ B).take m = (l ++ B).take m := by
  rcases Nat.le_total l.length m with h | h
  · rw [List.take_of_length_le h]
  · rw [List.take_append_of_le_length (by simp; omega), List.take_take, Nat.min_self, List.take_append_of_le_length h]

theorem MT.ordL_append (d : Nat) (xs ys : List MT) : MT.ordL d (xs ++ ys) = MT.ordL d xs ++ MT.ordL d ys := by
  induction xs with
  | nil => simp [MT.ordL_nil]
  | cons x xs ih => simp [MT.ordL_cons, ih]

theorem grown_comp {a b c : World} {r1 r2 : Option Nat} (h : a.grownBy b r1) (k : b.grownBy c r2) (hr : ∀ j, r2 = some j → r1 = some j ∨ a.heap.size ≤ j) : a.grownBy c r1 :=
  ⟨k.os.trans h.os, k.tape.trans h.tape, k.output.trans h.output, Nat.le_trans h.size k.size, fun i hi hne => (k.block i (Nat.lt_of_lt_of_le hi h.size) (fun e => by
    rcases hr i e.symm with h1 | h1
    · exact hne h1.symm
    · omega)).trans (h.block i hi hne)⟩

theorem own_shape {w : World} {base e size n : Nat} {v : Value} {xs : List Value} (h : w.ownsRow base e size v n xs) : ∃ p c, v = .slice p n c := by
  rcases h.2 with ⟨rfl, h0⟩ | ⟨g, cap, cur, rfl, _⟩
  · exact ⟨none, 0, by rw [h0]⟩
  · exact ⟨_, _, rfl⟩

theorem info46 : (Tryz.prog.info? 46).map (fun i => (i.zero, i.size, i.bytes)) = some (some (.agg #[.int .i64 0, .int .i64 0, .string ⟨#[]⟩, .int .i64 0, .int .i64 0, .slice none 0 0]), 6, 72) := by kernel_rfl

/-- A node without its Kids, as an object. -/
abbrev bareO (t : MT) : Obj := .cells #[.int .i64 t.kind, .string t.text, .int .i64 t.num, .int .i64 t.at_, .slice none 0 0] 24

/-- What holds between two rounds of told. -/
structure TdRel (t : MT) (d m : Nat) (xs : List (Nat × MT)) (own0 : Option Nat) (base : Nat) (w : World) (k : Nat) (v : Value) (wr : World) : Prop where
  own : wr.ownsRow base 46 6 v (((xs ++ [(d, t)]) ++ MT.ordL (d + 1) (t.kids.take k)).take m).length (stepsL (((xs ++ [(d, t)]) ++ MT.ordL (d + 1) (t.kids.take k)).take m))
  grown : w.grownBy wr own0
  there : v.ownBlock = own0 ∨ ∃ g, v.ownBlock = some g ∧ w.heap.size < g
  box : BoxAt wr w.heap.size t
  big : w.heap.size < wr.heap.size

set_option maxRecDepth 100000 in
set_option maxHeartbeats 2000000 in
theorem toldRef_any (N : Nat) : ∀ (t : MT) (d m : Nat) (xs : List (Nat × MT)) (p : Option Addr) (c B base : Nat) (w : World), t.size ≤ N → xs.length ≤ m → m ≤ 3001 → d ≤ xs.length + 1 → t.In B w → B ≤ base → base ≤ w.heap.size →
    w.ownsRow base 46 6 (.slice p xs.length c) xs.length (stepsL xs) →
    Calls Tryz.prog 37 #[.slice p xs.length c, nodeV t, .int .i64 d, .int .i64 m] w fun e w' => ∃ p' c', e = .returned (.slice p' ((xs ++ MT.ord d t).take m).length c') ∧
      Hid (w'.ownsRow base 46 6 (.slice p' ((xs ++ MT.ord d t).take m).length c') ((xs ++ MT.ord d t).take m).length (stepsL ((xs ++ MT.ord d t).take m))) ∧ Hid (w.grownBy w' (Value.slice p xs.length c).ownBlock) ∧
      Hid ((Value.slice p' ((xs ++ MT.ord d t).take m).length c').ownBlock = (Value.slice p xs.length c).ownBlock ∨ ∃ g, (Value.slice p' ((xs ++ MT.ord d t).take m).length c').ownBlock = some g ∧ w.heap.size ≤ g) := by
  induction N with
  | zero => intro t d m xs p c B base w h; have := t.size_pos; omega
  | succ N ih =>
    intro t d m xs p c B base w hN hxm hm hd hin hBb hbw hown
    have HI : Hid _ := ih
    clear ih
    by_cases hlt : xs.length < m
    · have HO : Hid (w.ownsRow base 46 6 (.slice p xs.length c) xs.length (stepsL xs)) := hown
      have hol : ∀ g, (Value.slice p xs.length c).ownBlock = some g → base ≤ g ∧ g < w.heap.size := hown.lt
      have HOL : Hid (∀ g, (Value.slice p xs.length c).ownBlock = some g → base ≤ g ∧ g < w.heap.size) := hol
      clear hown hol
      obtain ⟨i0, hi, hz0, hz1, hz2⟩ := info_parts info46
      have hW3 : w.grownBy (((w.alloc (nodeO t)).alloc (bareO t)).alloc (.cells #[.int .i64 d, .int .i64 t.kind, .string t.text, .int .i64 t.num, .int .i64 t.at_, .slice none 0 0] 46)) none :=
        grown_comp (grown_comp (World.grownBy_alloc w (nodeO t) none) (World.grownBy_alloc _ (bareO t) none) (fun j e => by cases e)) (World.grownBy_alloc _ _ none) (fun j e => by cases e)
      have HW3 : Hid (w.grownBy (((w.alloc (nodeO t)).alloc (bareO t)).alloc (.cells #[.int .i64 d, .int .i64 t.kind, .string t.text, .int .i64 t.num, .int .i64 t.at_, .slice none 0 0] 46)) none) := hW3
      have HO3 : Hid ((((w.alloc (nodeO t)).alloc (bareO t)).alloc (.cells #[.int .i64 d, .int .i64 t.kind, .string t.text, .int .i64 t.num, .int .i64 t.at_, .slice none 0 0] 46)).ownsRow base 46 6 (.slice p xs.length c) xs.length (stepsL xs)) :=
        HO.out.kept hW3 (by cases h : (Value.slice p xs.length c).ownBlock <;> simp)
      have HB3 : Hid (BoxAt (((w.alloc (nodeO t)).alloc (bareO t)).alloc (.cells #[.int .i64 d, .int .i64 t.kind, .string t.text, .int .i64 t.num, .int .i64 t.at_, .slice none 0 0] 46)) w.heap.size t) := by
        refine (BoxAt.new w t).below (B := w.heap.size + 1) (by omega) ?_
        exact ((Below.refl _ _).alloc (by simp) _).alloc (by simp) _
      clear hW3
      go_enter Tryz.func37, Tryz.ntmps37
      go_wp2_with (at_builtin; refine wpList_append_own_at _ rfl _ _ 40 rfl base 46 i0 _ 6 72 Tryz.underlying40 hi hz0 hz1 hz2 rfl (by decide) _ _ _ rfl HO3.out ⟨w.heap.size + 1 + 1, 0, none⟩ 1 1 (stepCells (d, t)) rfl rfl ?_ (by simp [stepCells, Value.oneCell']) (by unfold maxLen; omega) (by omega) (by simp; omega) ?_; exact six_new _ (d, t) _ _ (by simp); intro v6 w6 hown6 hgr6 _ hth6)
      have hx1 : (xs ++ [(d, t)]).take m = xs ++ [(d, t)] := List.take_of_length_le (by simp; omega)
      have HR0 : Hid (TdRel t d m xs (Value.slice p xs.length c).ownBlock base w 0 v6 w6) := by
        have hz6 := hgr6.size
        simp only [World.size_alloc] at hz6
        refine ⟨?_, ?_, ?_, ?_, by omega⟩
        · rw [List.take_zero, MT.ordL_nil, List.append_nil, hx1, stepsL_snoc, List.length_append]; exact hown6
        · refine grown_comp (r1 := (Value.slice p xs.length c).ownBlock) ⟨HW3.out.os, HW3.out.tape, HW3.out.output, HW3.out.size, fun k hk _ => HW3.out.block k hk (by simp)⟩ hgr6 (fun j e => .inl e)
        · rcases hth6 with h | h
          · exact .inl h
          · exact .inr ⟨_, h, by simp; omega⟩
        · have hbb : w6.heap[w.heap.size]? = _ := hgr6.block w.heap.size (by simp; omega) (fun e => by have := (HOL.out _ e.symm).2; omega)
          have hc : ∀ o, w6.cell? ⟨w.heap.size, o, none⟩ = _ := fun o => World.cell?_of_block (a := ⟨w.heap.size, o, none⟩) hbb
          exact ⟨(hc _).trans HB3.out.k0, (hc _).trans HB3.out.k1, (hc _).trans HB3.out.k2, (hc _).trans HB3.out.k3, (hc _).trans HB3.out.k4⟩
      clear hown6 hgr6 hth6 HB3 HO3 HW3
      have HIN : Hid (t.In B w) := hin
      clear hin
      go_loopw [0, 10] (fun v i wr => ∃ k : Nat, k ≤ t.kids.length ∧ i = .int .i64 k ∧ Hid (TdRel t d m xs (Value.slice p xs.length c).ownBlock base w k v wr)) (fun _ i _ => t.kids.length - (intOf i).toNat)
      case atStart => exact ⟨0, Nat.zero_le _, rfl, HR0⟩
      case round =>
        obtain ⟨k, hk, rfl, HR⟩ := hrel
        clear HR0
        obtain ⟨p1, c1, hv1⟩ := own_shape HR.out.own
        subst hv1
        have k4 := HR.out.box.k4
        have hbig := HR.out.big
        have hcap := HIN.out.cap_le
        have hlc := HIN.out.len_le
        unfold maxLen at hcap
        by_cases hkl : k < t.kids.length
        · obtain ⟨b, o, hp, hbB, hL⟩ : ∃ b o, t.ptr = some ⟨b, o, none⟩ ∧ b < B ∧ MT.InL B wr b o t.kids := by
            have hin' : t.In B wr := MT.In.keep (fun k' o hk' => World.cell?_of_block (a := ⟨k', o, none⟩) (HR.out.grown.block k' (by omega) (fun e => by have := (HOL.out _ e.symm).1; omega))) t HIN.out
            rcases hin'.kidsL with h | h
            · rw [h] at hkl; simp at hkl
            · exact h
          rw [hp] at k4
          clear hp
          obtain ⟨hC, hIk⟩ := hL.get k hkl
          have HSZ : Hid ((t.kids[k]).size ≤ N) := by
            have h1 := MT.sizeL_take_succ t.kids k hkl
            have h2 := MT.sizeL_take_le t.kids (k + 1)
            have h3 := t.size_eq
            show _ ≤ _
            omega
          have HOrd : Hid (((xs ++ [(d, t)]) ++ MT.ordL (d + 1) (t.kids.take (k + 1))).take m = ((((xs ++ [(d, t)]) ++ MT.ordL (d + 1) (t.kids.take k)).take m) ++ MT.ord (d + 1) t.kids[k]).take m) := by
            show _ = _
            rw [take_more, ← List.take_append_getElem hkl, MT.ordL_append, MT.ordL_cons, MT.ordL_nil, List.append_nil]
            simp [List.append_assoc]
          generalize hkid : t.kids[k] = kid at hC hIk HSZ HOrd
          obtain ⟨c0, c1', c2, c3, c4⟩ := hC
          have HK : Hid (kid.In B wr) := hIk
          have HYL : Hid ((((xs ++ [(d, t)]) ++ MT.ordL (d + 1) (t.kids.take k)).take m).length ≤ m ∧ d + 1 ≤ (((xs ++ [(d, t)]) ++ MT.ordL (d + 1) (t.kids.take k)).take m).length + 1) := by
            refine ⟨by simp; omega, ?_⟩
            rw [List.length_take]
            simp only [List.length_append, List.length_cons, List.length_nil]
            omega
          have hbB' : b < wr.heap.size := by omega
          have HRR : Hid (TdRel t d m xs (Value.slice p xs.length c).ownBlock base w k (.slice p1 ((((xs ++ [(d, t)]) ++ MT.ordL (d + 1) (t.kids.take k)).take m).length) c1) wr) := HR.out
          clear hL hIk hkid HR
          generalize hys : (((xs ++ [(d, t)]) ++ MT.ordL (d + 1) (t.kids.take k)).take m) = ys at *
          have HOW : Hid (wr.ownsRow base 46 6 (.slice p1 ys.length c1) ys.length (stepsL ys)) := by
            have := HRR.out.own; rw [hys] at this; exact this
          have HGR := HRR.out.grown
          have HGRH : Hid (w.grownBy wr (Value.slice p xs.length c).ownBlock) := HGR
          have HTH : Hid ((Value.slice p1 ys.length c1).ownBlock = (Value.slice p xs.length c).ownBlock ∨ ∃ g, (Value.slice p1 ys.length c1).ownBlock = some g ∧ w.heap.size < g) := HRR.out.there
          have HBX : Hid (BoxAt wr w.heap.size t) := HRR.out.box
          clear hys HGR
          go_wp2_with (go_at_call 37; refine (HI.out kid (d + 1) m ys p1 c1 B base wr HSZ.out HYL.out.1 hm HYL.out.2 HK.out hBb (by omega) HOW.out).mono ?_; rintro e w2 ⟨p2, c2', rfl, HO2, HG2, HT2⟩)
          have hmin : min m (ys.length + (MT.ord (d + 1) kid).length) = ((ys ++ MT.ord (d + 1) kid).take m).length := by simp
          rw [hmin]
          refine ⟨⟨k + 1, hkl, by simp, ?_⟩, by simp [intOf]; omega⟩
          have hG := HG2.out
          have hT := HTH.out
          have hne : ∀ j, (Value.slice p1 ys.length c1).ownBlock = some j → (Value.slice p xs.length c).ownBlock = some j ∨ w.heap.size < j := by
            intro j e
            rcases hT with h | ⟨g, h, hg⟩
            · exact .inl (h.symm.trans e)
            · rw [h] at e; cases e; exact .inr hg
          refine ⟨?_, ?_, ?_, ?_, by have := hG.size; omega⟩
          · rw [HOrd.out]; exact HO2.out
          · exact grown_comp HGRH.out hG (fun j e => (hne j e).imp id (fun h => by omega))
          · rcases HT2.out with h | ⟨g, h, hg⟩
            · rcases hT with h' | ⟨g, h', hg⟩
              · exact .inl (h.trans h')
              · exact .inr ⟨g, h.trans h', hg⟩
            · exact .inr ⟨g, h, by omega⟩
          · have hbb : w2.heap[w.heap.size]? = wr.heap[w.heap.size]? := hG.block w.heap.size hbig (fun e => by
              rcases hne _ e.symm with h | h
              · have := (HOL.out _ h).2; omega
              · omega)
            have hc : ∀ o, w2.cell? ⟨w.heap.size, o, none⟩ = wr.cell? ⟨w.heap.size, o, none⟩ := fun o => World.cell?_of_block (a := ⟨w.heap.size, o, none⟩) hbb
            exact ⟨(hc _).trans HBX.out.k0, (hc _).trans HBX.out.k1, (hc _).trans HBX.out.k2, (hc _).trans HBX.out.k3, (hc _).trans HBX.out.k4⟩
        · have hke : k = t.kids.length := by omega
          have HE : Hid (((xs ++ [(d, t)]) ++ MT.ordL (d + 1) (t.kids.take k)).take m = (xs ++ MT.ord d t).take m) := by
            show _ = _
            rw [List.take_of_length_le (show t.kids.length ≤ k by omega), MT.ord_eq]; simp
          clear hke
          have hf := HR.out
          have HF : Hid (TdRel t d m xs (Value.slice p xs.length c).ownBlock base w k (.slice p1 ((((xs ++ [(d, t)]) ++ MT.ordL (d + 1) (t.kids.take k)).take m).length) c1) wr) := hf
          clear hf HR
          rw [HE.out] at HF
          rw [HE.out]
          go_wp2_with fail
          go_ret
          refine ⟨p1, c1, rfl, ?_, HF.out.grown, ?_⟩
          · have := HF.out.own; rw [HE.out] at this; exact this
          · rcases HF.out.there with h | ⟨g, h, hg⟩
            · exact .inl h
            · exact .inr ⟨g, h, by omega⟩
    · have e : (xs ++ MT.ord d t).take m = xs := by rw [List.take_append_of_le_length (by omega), List.take_of_length_le (by omega)]
      rw [e]
      have HO : Hid (w.ownsRow base 46 6 (.slice p xs.length c) xs.length (stepsL xs)) := hown
      clear hown
      go_enter Tryz.func37, Tryz.ntmps37
      go_wp2_with fail
      go_ret
      exact ⟨p, c, rfl, HO.out.alloc _, World.grownBy_alloc _ _ _, .inl rfl⟩

set_option maxHeartbeats 1000000 in
theorem order_any (t : MT) (m : Nat) (w : World) (hm : m ≤ 3001) (hin : t.In w.heap.size w) :
    Calls Tryz.prog 21 #[nodeV t, .int .i64 m] w fun e w' => ∃ p' c', e = .returned (.slice p' ((MT.ord 1 t).take m).length c') ∧
      Hid (w'.ownsRow (w.heap.size + 1) 46 6 (.slice p' ((MT.ord 1 t).take m).length c') ((MT.ord 1 t).take m).length (stepsL ((MT.ord 1 t).take m))) ∧ Below w.heap.size w w' := by
  have HC : Hid (Calls Tryz.prog 37 #[.slice none 0 0, nodeV t, .int .i64 1, .int .i64 m] (w.alloc (nodeO t)) fun e w' => ∃ p' c', e = .returned (.slice p' ((MT.ord 1 t).take m).length c') ∧
      Hid (w'.ownsRow (w.heap.size + 1) 46 6 (.slice p' ((MT.ord 1 t).take m).length c') ((MT.ord 1 t).take m).length (stepsL ((MT.ord 1 t).take m))) ∧ Below w.heap.size w w') := by
    have h := toldRef_any t.size t 1 m [] none 0 w.heap.size (w.heap.size + 1) (w.alloc (nodeO t)) (Nat.le_refl _) (Nat.zero_le _) hm (by simp) (MT.In.below (below1 w _) t hin) (by omega) (by simp) (World.ownsRow_nil _ _ _ _)
    refine h.mono ?_
    rintro e w' ⟨p', c', rfl, h1, h2, _⟩
    refine ⟨p', c', rfl, h1, ?_⟩
    exact Below.grown (below1 w (nodeO t)) h2.out (by simp) (fun j e => by cases e)
  go_enter Tryz.func21, Tryz.ntmps21
  go_wp2_with fail
  refine HC.out.mono ?_
  rintro e w' ⟨p', c', rfl, h1, h2⟩
  go_wp2_with fail
  go_ret
  exact ⟨p', c', by rw [List.length_take]; rfl, h1, h2⟩
end Go.Proofs.YthbnegggohegkaaGreatDoor
namespace Go.Proofs.YthbnegggohegkaaGreatDoor
open Go.RowKit

namespace MT
mutual
/-- A tree's list of Kids lies in blocks of which ok holds. -/
def At (ok : Nat → Prop) (w : World) : MT → Prop
  | node _ s _ _ p c ks => s.size ≤ maxLen ∧ ks.length ≤ c ∧ c ≤ maxLen ∧ (ks = [] ∨ ∃ b o, p = some ⟨b, o, none⟩ ∧ ok b ∧ AtL ok w b o ks)
def AtL (ok : Nat → Prop) (w : World) (b o : Nat) : List MT → Prop
  | [] => True
  | t :: ts => CellsAt w b o t ∧ At ok w t ∧ AtL ok w b (o + 5) ts
end

mutual
theorem At.keep {ok ok' : Nat → Prop} {w w' : World} (ho : ∀ b, ok b → ok' b) (hc : ∀ k o, ok k → w'.cell? ⟨k, o, none⟩ = w.cell? ⟨k, o, none⟩) : ∀ (t : MT), At ok w t → At ok' w' t
  | node _ s _ _ p c ks, h => by
    rw [At] at h ⊢
    obtain ⟨h1, h2, h3, h4⟩ := h
    refine ⟨h1, h2, h3, ?_⟩
    rcases h4 with h4 | ⟨b, o, hp, hlt, hl⟩
    · exact .inl h4
    · exact .inr ⟨b, o, hp, ho b hlt, AtL.keep ho hc b o hlt ks hl⟩
theorem AtL.keep {ok ok' : Nat → Prop} {w w' : World} (ho : ∀ b, ok b → ok' b) (hc : ∀ k o, ok k → w'.cell? ⟨k, o, none⟩ = w.cell? ⟨k, o, none⟩) (b o : Nat) (hb : ok b) : ∀ (ts : List MT), AtL ok w b o ts → AtL ok' w' b o ts
  | [], _ => by rw [AtL]; trivial
  | t :: ts, h => by
    rw [AtL] at h ⊢
    exact ⟨h.1.keep (fun o => hc b o hb), At.keep ho hc t h.2.1, AtL.keep ho hc b (o + 5) hb ts h.2.2⟩
end

mutual
theorem At.toIn {ok : Nat → Prop} {w : World} {B : Nat} (ho : ∀ b, ok b → b < B) : ∀ (t : MT), At ok w t → In B w t
  | node _ s _ _ p c ks, h => by
    rw [At] at h
    rw [In]
    obtain ⟨h1, h2, h3, h4⟩ := h
    refine ⟨h1, h2, h3, ?_⟩
    rcases h4 with h4 | ⟨b, o, hp, hlt, hl⟩
    · exact .inl h4
    · exact .inr ⟨b, o, hp, ho b hlt, AtL.toIn ho b o ks hl⟩
theorem AtL.toIn {ok : Nat → Prop} {w : World} {B : Nat} (ho : ∀ b, ok b → b < B) (b o : Nat) : ∀ (ts : List MT), AtL ok w b o ts → InL B w b o ts
  | [], _ => by rw [InL]; trivial
  | t :: ts, h => by
    rw [AtL] at h
    rw [InL]
    exact ⟨h.1, At.toIn ho t h.2.1, AtL.toIn ho b (o + 5) ts h.2.2⟩
end

theorem AtL.mk {ok : Nat → Prop} {w : World} {b : Nat} : ∀ {ts : List MT} {o : Nat}, (∀ (i : Nat) (hi : i < ts.length), CellsAt w b (o + i * 5) ts[i] ∧ At ok w ts[i]) → AtL ok w b o ts
  | [], _, _ => by rw [AtL]; trivial
  | t :: ts, o, h => by
    rw [AtL]
    have h0 := h 0 (by simp)
    refine ⟨by simpa using h0.1, by simpa using h0.2, AtL.mk fun i hi => ?_⟩
    have := h (i + 1) (by simpa using hi)
    rw [show o + (i + 1) * 5 = o + 5 + i * 5 by omega] at this
    simpa using this

mutual
/-- The same tree in other memory. -/
def twin : MT → MT → Prop
  | node k s n a _ _ ks, b => b.kind = k ∧ b.text = s ∧ b.num = n ∧ b.at_ = a ∧ twinL ks b.kids
def twinL : List MT → List MT → Prop
  | [], ys => ys = []
  | x :: xs, ys => ∃ y ys', ys = y :: ys' ∧ twin x y ∧ twinL xs ys'
end

theorem twin_eq (t b : MT) : twin t b ↔ b.kind = t.kind ∧ b.text = t.text ∧ b.num = t.num ∧ b.at_ = t.at_ ∧ twinL t.kids b.kids := by cases t; rw [twin]; rfl

theorem twinL_snoc : ∀ {xs ys : List MT} {x y : MT}, twinL xs ys → twin x y → twinL (xs ++ [x]) (ys ++ [y])
  | [], ys, x, y, h, hx => by rw [twinL] at h; subst h; rw [List.nil_append, List.nil_append, twinL]; exact ⟨y, [], rfl, hx, by rw [twinL]⟩
  | a :: xs, ys, x, y, h, hx => by
    rw [twinL] at h
    obtain ⟨b, ys', rfl, hab, hl⟩ := h
    rw [List.cons_append, List.cons_append, twinL]
    exact ⟨b, ys' ++ [y], rfl, hab, twinL_snoc hl hx⟩

mutual
theorem twin_steps : ∀ (t t' : MT) (d : Nat), twin t t' → (MT.ord d t').map stepCells = (MT.ord d t).map stepCells
  | node k s n a p c ks, t', d, h => by
    rw [twin] at h
    obtain ⟨h1, h2, h3, h4, h5⟩ := h
    rw [MT.ord_eq d t', MT.ord, List.map_cons, List.map_cons, twinL_steps ks t'.kids (d + 1) h5]
    congr 1
    simp [stepCells, h1, h2, h3, h4, MT.kind_node, MT.text_node, MT.num_node, MT.at_node]
theorem twinL_steps : ∀ (ts ts' : List MT) (d : Nat), twinL ts ts' → (MT.ordL d ts').map stepCells = (MT.ordL d ts).map stepCells
  | [], ts', d, h => by rw [twinL] at h; subst h; rfl
  | x :: xs, ts', d, h => by
    rw [twinL] at h
    obtain ⟨y, ys', rfl, hx, hl⟩ := h
    rw [MT.ordL_cons, MT.ordL_cons, List.map_append, List.map_append, twin_steps x y d hx, twinL_steps xs ys' d hl]
end

theorem twinL_length : ∀ {xs ys : List MT}, twinL xs ys → ys.length = xs.length
  | [], ys, h => by rw [twinL] at h; subst h; rfl
  | x :: xs, ys, h => by
    rw [twinL] at h
    obtain ⟨y, ys', rfl, _, hl⟩ := h
    simp [twinL_length hl]
end MT

theorem set5 (A R : List Value) (z0 z1 z2 z3 z4 v0 v1 v2 v3 v4 : Value) (n : Nat) (hn : n = A.length) :
    (((((A ++ z0 :: z1 :: z2 :: z3 :: z4 :: R).set n v0).set (n + 1) v1).set (n + 2) v2).set (n + 3) v3).set (n + 4) v4 = A ++ v0 :: v1 :: v2 :: v3 :: v4 :: R := by
  subst hn
  simp [List.set_append_right]

/-- What holds between two rounds of twin. -/
structure TwRel (t : MT) (g : Nat) (W2 : World) (k : Nat) (ts : List MT) (rest : List Value) (wr : World) : Prop where
  own : wr.ownsRow g 24 5 (.slice (some ⟨g, 0, none⟩) (t.kids.length + 2) (t.kids.length + 2)) (t.kids.length + 2) (nodesL ts ++ rest)
  rest : rest.length = (t.kids.length + 2 - k) * 5
  tw : MT.twinL (t.kids.take k) ts
  mem : ∀ x ∈ ts, x.At (fun b => g < b ∧ b < wr.heap.size) wr
  below : Below g W2 wr

theorem five_of {α : Type} {l : List α} (h : 5 ≤ l.length) : ∃ a b c d e r, l = a :: b :: c :: d :: e :: r := by
  match l, h with
  | a :: b :: c :: d :: e :: r, _ => exact ⟨a, b, c, d, e, r, rfl⟩

abbrev zeroO : Obj := .cells #[.int .i64 0, .string ⟨#[]⟩, .int .i64 0, .int .i64 0, .slice none 0 0] 24

theorem below_grown {B : Nat} {w w' : World} (h : Below B w w') (hB : w.heap.size ≤ B) : w.grownBy w' none :=
  ⟨h.os, h.tape, h.output, h.size, fun k hk _ => h.block k (by omega)⟩

/-- Five cells written. -/
abbrev set5W (w : World) (g o : Nat) (v0 v1 v2 v3 v4 : Value) : World := ((((w.setCell ⟨g, o, none⟩ v0).setCell ⟨g, o + 1, none⟩ v1).setCell ⟨g, o + 2, none⟩ v2).setCell ⟨g, o + 3, none⟩ v3).setCell ⟨g, o + 4, none⟩ v4
theorem set5W_block (w : World) (g o : Nat) (v0 v1 v2 v3 v4 : Value) (k : Nat) (h : k ≠ g) : (set5W w g o v0 v1 v2 v3 v4).heap[k]? = w.heap[k]? :=
  (Below.heap_setCell _ ⟨g, _, none⟩ _ k h).trans ((Below.heap_setCell _ ⟨g, _, none⟩ _ k h).trans ((Below.heap_setCell _ ⟨g, _, none⟩ _ k h).trans ((Below.heap_setCell _ ⟨g, _, none⟩ _ k h).trans (Below.heap_setCell _ ⟨g, _, none⟩ _ k h))))
theorem set5W_size (w : World) (g o : Nat) (v0 v1 v2 v3 v4 : Value) : (set5W w g o v0 v1 v2 v3 v4).heap.size = w.heap.size := by simp [set5W]
theorem set5W_below {B : Nat} {w0 w : World} (h : Below B w0 w) (g o : Nat) (hg : B ≤ g) (v0 v1 v2 v3 v4 : Value) : Below B w0 (set5W w g o v0 v1 v2 v3 v4) :=
  ((((h.setCell (p := ⟨g, _, none⟩) hg _).setCell (p := ⟨g, _, none⟩) hg _).setCell (p := ⟨g, _, none⟩) hg _).setCell (p := ⟨g, _, none⟩) hg _).setCell (p := ⟨g, _, none⟩) hg _
theorem set5W_own {w : World} {base e size n g cap : Nat} {A R : List Value} {z0 z1 z2 z3 z4 : Value} (h : w.ownsRow base e size (.slice (some ⟨g, 0, none⟩) n cap) n (A ++ z0 :: z1 :: z2 :: z3 :: z4 :: R)) (o : Nat) (ho : o = A.length) (v0 v1 v2 v3 v4 : Value) :
    (set5W w g o v0 v1 v2 v3 v4).ownsRow base e size (.slice (some ⟨g, 0, none⟩) n cap) n (A ++ v0 :: v1 :: v2 :: v3 :: v4 :: R) := by
  have := own_set (own_set (own_set (own_set (own_set h o v0) (o + 1) v1) (o + 2) v2) (o + 3) v3) (o + 4) v4
  rwa [set5 A R z0 z1 z2 z3 z4 v0 v1 v2 v3 v4 o ho] at this

set_option maxRecDepth 100000 in
set_option maxHeartbeats 2000000 in
theorem twin_any (N : Nat) (hN0 : N ≤ 30000) : ∀ (t : MT) (w : World), t.size ≤ N → t.In w.heap.size w →
    Calls Tryz.prog 12 #[nodeV t] w fun e w' => ∃ t' : MT, e = .returned (nodeV t') ∧ Hid (MT.twin t t') ∧ Hid (t'.At (fun b => w.heap.size ≤ b ∧ b < w'.heap.size) w') ∧ Hid (∃ (g : Nat) (cur : Array Value), t'.ptr = some ⟨g, 0, none⟩ ∧ w.heap.size ≤ g ∧ w'.heap[g]? = some (.cells cur 24 (0, 0)) ∧ cur.size = (t'.kids.length + 2) * 5 ∧ t'.cap = t'.kids.length + 2) ∧ Below w.heap.size w w' := by
  induction N with
  | zero => intro t w h; have := t.size_pos; omega
  | succ N ih =>
    intro t w hN hin
    have HI : Hid _ := ih (by omega)
    clear ih
    have hkl : t.kids.length ≤ 30000 := by
      have h1 := MT.size_eq t
      have h2 := MT.length_le_sizeL t.kids
      omega
    obtain ⟨i0, hi, hz0, hz1, hz2⟩ := info_parts info24
    obtain ⟨L, hL⟩ : ∃ L, L = t.kids.length + 2 := ⟨_, rfl⟩
    have hLc : ((L : Nat) : Int) = (t.kids.length : Int) + 2 := by rw [hL]; simp
    obtain ⟨M, hM⟩ : ∃ M, M = madeCells (Value.agg #[.int .i64 0, .string ⟨#[]⟩, .int .i64 0, .int .i64 0, .slice none 0 0]).cells (((L : Nat) : Int).toNat * i0.size) := ⟨_, rfl⟩
    have hMs : M.size = (t.kids.length + 2) * 5 := by rw [hM, size_madeCells, hz1, Int.toNat_natCast, hL]
    have hmk : ∀ W : World, (Instr.makeSlice 22 (.int .i64 ((t.kids.length : Int) + 2)) (.int .i64 ((t.kids.length : Int) + 2))).run Tryz.prog W = .ok (.slice (some ⟨W.heap.size, 0, none⟩) (t.kids.length + 2) (t.kids.length + 2)) (W.alloc (.cells M 24)) := fun W => by
      have h := run_make (P := Tryz.prog) W 22 24 i0 _ Tryz.underlying22 hi hz0 .i64 .i64 ((L : Nat) : Int) ((L : Nat) : Int) (by omega) (by omega) (by rw [hz2]; omega) (by omega)
      rw [← hM, Int.toNat_natCast, hLc, hL] at h
      exact h
    clear hM hLc hL
    have HR0 : Hid (TwRel t (w.heap.size + 2) ((w.alloc (nodeO t)).alloc zeroO) 0 [] M.toList (((w.alloc (nodeO t)).alloc zeroO).alloc (.cells M 24))) := by
      refine ⟨⟨by simp [nodesL, hMs], .inr ⟨_, _, M, rfl, Nat.le_refl _, ?_, Nat.le_refl _, by unfold maxLen; omega, hMs, ?_⟩⟩, by simp [hMs], (by rw [List.take_zero, MT.twinL]), (fun x hx => by cases hx), ?_⟩
      · have := heap_alloc_new ((w.alloc (nodeO t)).alloc zeroO) (.cells M 24)
        rwa [World.size_alloc, World.size_alloc] at this
      · rw [List.take_of_length_le (by rw [Array.length_toList]; omega)]; simp [nodesL]
      · exact (Below.refl _ _).alloc (by simp) _
    have HB2 : Hid (BoxAt ((w.alloc (nodeO t)).alloc zeroO) w.heap.size t) := (BoxAt.new w t).below (B := w.heap.size + 1) (by omega) ((Below.refl _ _).alloc (by simp) _)
    have HW2 : Hid (Below w.heap.size w ((w.alloc (nodeO t)).alloc zeroO)) := below2 w _ _
    have hz2' : ((w.alloc (nodeO t)).alloc zeroO).heap.size = w.heap.size + 2 := by simp
    go_enter Tryz.func12, Tryz.ntmps12
    go_wp2_with fail
    have HIN : Hid (t.In w.heap.size w) := hin
    have hcap := hin.cap_le
    have hlc := hin.len_le
    unfold maxLen at hcap
    have HSE : Hid (t.size ≤ N + 1) := hN
    clear hin hmk hMs hi hz0 hz1 hz2 hN
    obtain ⟨W2, hW2⟩ : ∃ W2, W2 = ((w.alloc (nodeO t)).alloc zeroO) := ⟨_, rfl⟩
    rw [← hW2] at HR0 HB2 HW2 hz2' ⊢
    go_loopw [4] (fun i wr => ∃ (k : Nat) (ts : List MT) (rest : List Value), k ≤ t.kids.length ∧ i = .int .i64 k ∧ Hid (TwRel t (w.heap.size + 2) W2 k ts rest wr)) (fun i _ => t.kids.length - (intOf i).toNat)
    case atStart => exact ⟨0, [], _, Nat.zero_le _, rfl, HR0⟩
    case round =>
      obtain ⟨k, ts, rest, hk, rfl, HR⟩ := hrel
      rename_i Kx hKx
      have HKX : Hid _ := hKx
      clear HR0 hKx
      have hbz := HR.out.below.size
      have k4 := (HB2.out.below (B := w.heap.size + 2) (by omega) HR.out.below).k4
      have HBW : Hid (Below w.heap.size w wr) := HW2.out.trans (HR.out.below.mono (by omega))
      have hrl := HR.out.rest
      have hgl : w.heap.size + 2 < wr.heap.size := (HR.out.own.lt _ rfl).2
      by_cases hkl' : k < t.kids.length
      · obtain ⟨b, o, hp, hbB, hL⟩ : ∃ b o, t.ptr = some ⟨b, o, none⟩ ∧ b < w.heap.size ∧ MT.InL w.heap.size wr b o t.kids := by
          rcases (MT.In.below HBW.out t HIN.out).kidsL with h | h
          · rw [h] at hkl'; simp at hkl'
          · exact h
        rw [hp] at k4
        clear hp
        obtain ⟨hC, hIk⟩ := hL.get k hkl'
        have HSZ : Hid ((t.kids[k]).size ≤ N) := by
          have h1 := MT.sizeL_take_succ t.kids k hkl'
          have h2 := MT.sizeL_take_le t.kids (k + 1)
          have h3 := t.size_eq
          have h4 := HSE.out
          show _ ≤ _
          omega
        have HTK : Hid (t.kids.take (k + 1) = t.kids.take k ++ [t.kids[k]]) := by show _ = _; rw [List.take_append_getElem hkl']
        generalize t.kids[k] = kid at hC hIk HSZ HTK
        obtain ⟨c0, c1, c2, c3, c4⟩ := hC
        have HK : Hid (kid.In wr.heap.size wr) := MT.In.mono (by omega) _ hIk
        clear hL hIk
        have hbB' : b < wr.heap.size := by omega
        have hr5 : 5 ≤ rest.length := by omega
        obtain ⟨z0, z1, z2, z3, z4, R, hR5⟩ := five_of hr5
        subst hR5
        have htl : ts.length = k := by have := MT.twinL_length HR.out.tw; rw [this, List.length_take]; omega
        have hnl : (nodesL ts).length = k * 5 := by rw [nodesL_length, htl]
        go_wp2_with (go_at_call 12; refine (HI.out kid wr HSZ.out HK.out).mono ?_; rintro e w2 ⟨t1, rfl, HT1, HA1, _, hb2⟩; have hz2w := hb2.size; have ho2 := HR.out.own.kept (below_grown hb2 (Nat.le_refl _)) (.inr (by simp [Value.ownBlock])); have e0 := own_cell ho2 (k * 5) z0 (by rw [List.getElem?_append_right (by omega), hnl]; simp); have e1 := own_cell ho2 (k * 5 + 1) z1 (by rw [List.getElem?_append_right (by omega), hnl]; simp); have e2 := own_cell ho2 (k * 5 + 2) z2 (by rw [List.getElem?_append_right (by omega), hnl]; simp); have e3 := own_cell ho2 (k * 5 + 3) z3 (by rw [List.getElem?_append_right (by omega), hnl]; simp); have e4 := own_cell ho2 (k * 5 + 4) z4 (by rw [List.getElem?_append_right (by omega), hnl]; simp); obtain ⟨e0a, e0b⟩ := e0; obtain ⟨e1a, e1b⟩ := e1; obtain ⟨e2a, e2b⟩ := e2; obtain ⟨e3a, e3b⟩ := e3; obtain ⟨e4a, e4b⟩ := e4; have HO2 : Hid (w2.ownsRow (w.heap.size + 2) 24 5 (.slice (some ⟨w.heap.size + 2, 0, none⟩) (t.kids.length + 2) (t.kids.length + 2)) (t.kids.length + 2) (nodesL ts ++ z0 :: z1 :: z2 :: z3 :: z4 :: R)) := ho2; clear ho2)
        refine ⟨⟨k + 1, ts ++ [t1], R, hkl', by simp, ?_⟩, by simp [intOf]; omega⟩
        have h5 := set5W_own HO2.out (k * 5) hnl.symm (.int .i64 t1.kind) (.string t1.text) (.int .i64 t1.num) (.int .i64 t1.at_) (.slice t1.ptr t1.kids.length t1.cap)
        refine ⟨?_, by simp at hrl; omega, ?_, ?_, ?_⟩
        · rw [nodesL_append, List.append_assoc]; exact h5
        · rw [HTK.out]; exact MT.twinL_snoc HR.out.tw HT1.out
        · intro x hx
          rw [set5W_size]
          rcases List.mem_append.1 hx with hx | hx
          · refine MT.At.keep (fun b hb => ⟨hb.1, by omega⟩) (fun k' o hk' => ?_) x (HR.out.mem x hx)
            exact World.cell?_of_block (a := ⟨k', o, none⟩) ((set5W_block _ _ _ _ _ _ _ _ k' (by omega)).trans (hb2.block k' hk'.2))
          · obtain rfl := List.mem_singleton.1 hx
            refine MT.At.keep (fun b hb => ⟨by omega, hb.2⟩) (fun k' o hk' => ?_) x HA1.out
            exact World.cell?_of_block (a := ⟨k', o, none⟩) (set5W_block _ _ _ _ _ _ _ _ k' (by omega))
        · exact set5W_below (HR.out.below.trans (hb2.mono (by omega))) _ _ (Nat.le_refl _) _ _ _ _ _
      · have hke : k = t.kids.length := by omega
        subst hke
        have htl : ts.length = t.kids.length := by have := MT.twinL_length HR.out.tw; rw [this, List.length_take]; omega
        have hnl : (nodesL ts).length = t.kids.length * 5 := by rw [nodesL_length, htl]
        have hrl' : rest.length = 10 := by omega
        obtain ⟨z0, z1, z2, z3, z4, R, hR5⟩ := five_of (show 5 ≤ rest.length by omega)
        subst hR5
        obtain ⟨y0, y1, y2, y3, y4, R', hR6⟩ := five_of (show 5 ≤ R.length by simp at hrl'; omega)
        subst hR6
        have ho := HR.out.own
        have HO : Hid (wr.ownsRow (w.heap.size + 2) 24 5 (.slice (some ⟨w.heap.size + 2, 0, none⟩) (t.kids.length + 2) (t.kids.length + 2)) (t.kids.length + 2) (nodesL ts ++ z0 :: z1 :: z2 :: z3 :: z4 :: (y0 :: y1 :: y2 :: y3 :: y4 :: R'))) := ho
        clear ho
        go_wp2_with fail
        refine HKX.out _ _ ?_
        refine wp_seq_k ?_
        intro K1 hK1
        have HK1 : Hid _ := hK1
        clear hK1 HKX
        obtain ⟨a0, b0⟩ := own_cell HO.out (t.kids.length * 5) z0 (by rw [List.getElem?_append_right (by omega), hnl]; simp)
        obtain ⟨a1, b1⟩ := own_cell HO.out (t.kids.length * 5 + 1) z1 (by rw [List.getElem?_append_right (by omega), hnl]; simp)
        obtain ⟨a2, b2⟩ := own_cell HO.out (t.kids.length * 5 + 2) z2 (by rw [List.getElem?_append_right (by omega), hnl]; simp)
        obtain ⟨a3, b3⟩ := own_cell HO.out (t.kids.length * 5 + 3) z3 (by rw [List.getElem?_append_right (by omega), hnl]; simp)
        obtain ⟨a4, b4⟩ := own_cell HO.out (t.kids.length * 5 + 4) z4 (by rw [List.getElem?_append_right (by omega), hnl]; simp)
        go_wp2_with fail
        have hO6 := set5W_own HO.out (t.kids.length * 5) hnl.symm (.int .i64 77) (.string ⟨#[]⟩) (.int .i64 0) (.int .i64 0) (.slice none 0 0)
        have hB6 : Below (w.heap.size + 2) W2 (set5W wr (w.heap.size + 2) (t.kids.length * 5) (.int .i64 77) (.string ⟨#[]⟩) (.int .i64 0) (.int .i64 0) (.slice none 0 0)) := set5W_below HR.out.below _ _ (Nat.le_refl _) _ _ _ _ _
        have hM6 : ∀ x ∈ ts, x.At (fun b => w.heap.size + 2 < b ∧ b < wr.heap.size) (set5W wr (w.heap.size + 2) (t.kids.length * 5) (.int .i64 77) (.string ⟨#[]⟩) (.int .i64 0) (.int .i64 0) (.slice none 0 0)) := fun x hx =>
          MT.At.keep (fun b hb => hb) (fun k' o hk' => World.cell?_of_block (a := ⟨k', o, none⟩) (set5W_block _ _ _ _ _ _ _ _ k' (by omega))) x (HR.out.mem x hx)
        have hz6 : (set5W wr (w.heap.size + 2) (t.kids.length * 5) (.int .i64 77) (.string ⟨#[]⟩) (.int .i64 0) (.int .i64 0) (.slice none 0 0)).heap.size = wr.heap.size := set5W_size _ _ _ _ _ _ _ _
        obtain ⟨w6, hw6⟩ : ∃ w6, w6 = set5W wr (w.heap.size + 2) (t.kids.length * 5) (.int .i64 77) (.string ⟨#[]⟩) (.int .i64 0) (.int .i64 0) (.slice none 0 0) := ⟨_, rfl⟩
        have hw6' : w6 = ((((wr.setCell ⟨w.heap.size + 2, t.kids.length * 5, none⟩ (.int .i64 77)).setCell ⟨w.heap.size + 2, t.kids.length * 5 + 1, none⟩ (.string ⟨#[]⟩)).setCell ⟨w.heap.size + 2, t.kids.length * 5 + 2, none⟩ (.int .i64 0)).setCell ⟨w.heap.size + 2, t.kids.length * 5 + 3, none⟩ (.int .i64 0)).setCell ⟨w.heap.size + 2, t.kids.length * 5 + 4, none⟩ (.slice none 0 0) := hw6
        rw [← hw6'] 
        rw [← hw6] at hO6 hB6 hM6 hz6
        clear hw6 hw6' a0 b0 a1 b1 a2 b2 a3 b3 a4 b4 k4
        have hnl2 : (nodesL ts ++ [Value.int .i64 77, .string ⟨#[]⟩, .int .i64 0, .int .i64 0, .slice none 0 0]).length = (t.kids.length + 1) * 5 := by simp; omega
        have HO6 : Hid (w6.ownsRow (w.heap.size + 2) 24 5 (.slice (some ⟨w.heap.size + 2, 0, none⟩) (t.kids.length + 2) (t.kids.length + 2)) (t.kids.length + 2) ((nodesL ts ++ [.int .i64 77, .string ⟨#[]⟩, .int .i64 0, .int .i64 0, .slice none 0 0]) ++ y0 :: y1 :: y2 :: y3 :: y4 :: R')) := by
          rw [List.append_assoc]; exact hO6
        clear hO6
        refine HK1.out _ _ ?_
        refine wp_seq_k ?_
        intro K2 hK2
        have HK2 : Hid _ := hK2
        clear hK2 HK1
        have k4 := (HB2.out.below (B := w.heap.size + 2) (by omega) hB6).k4
        obtain ⟨a0, b0⟩ := own_cell HO6.out ((t.kids.length + 1) * 5) y0 (by rw [List.getElem?_append_right (by omega), hnl2]; simp)
        obtain ⟨a1, b1⟩ := own_cell HO6.out ((t.kids.length + 1) * 5 + 1) y1 (by rw [List.getElem?_append_right (by omega), hnl2]; simp)
        obtain ⟨a2, b2⟩ := own_cell HO6.out ((t.kids.length + 1) * 5 + 2) y2 (by rw [List.getElem?_append_right (by omega), hnl2]; simp)
        obtain ⟨a3, b3⟩ := own_cell HO6.out ((t.kids.length + 1) * 5 + 3) y3 (by rw [List.getElem?_append_right (by omega), hnl2]; simp)
        obtain ⟨a4, b4⟩ := own_cell HO6.out ((t.kids.length + 1) * 5 + 4) y4 (by rw [List.getElem?_append_right (by omega), hnl2]; simp)
        go_wp2_with fail
        have hO7 := set5W_own HO6.out ((t.kids.length + 1) * 5) hnl2.symm (.int .i64 78) (.string ⟨#[]⟩) (.int .i64 0) (.int .i64 0) (.slice none 0 0)
        have hB7 : Below (w.heap.size + 2) W2 (set5W w6 (w.heap.size + 2) ((t.kids.length + 1) * 5) (.int .i64 78) (.string ⟨#[]⟩) (.int .i64 0) (.int .i64 0) (.slice none 0 0)) := set5W_below hB6 _ _ (Nat.le_refl _) _ _ _ _ _
        have hM7 : ∀ x ∈ ts, x.At (fun b => w.heap.size + 2 < b ∧ b < wr.heap.size) (set5W w6 (w.heap.size + 2) ((t.kids.length + 1) * 5) (.int .i64 78) (.string ⟨#[]⟩) (.int .i64 0) (.int .i64 0) (.slice none 0 0)) := fun x hx =>
          MT.At.keep (fun b hb => hb) (fun k' o hk' => World.cell?_of_block (a := ⟨k', o, none⟩) (set5W_block _ _ _ _ _ _ _ _ k' (by omega))) x (hM6 x hx)
        have hz7 : (set5W w6 (w.heap.size + 2) ((t.kids.length + 1) * 5) (.int .i64 78) (.string ⟨#[]⟩) (.int .i64 0) (.int .i64 0) (.slice none 0 0)).heap.size = wr.heap.size := (set5W_size _ _ _ _ _ _ _ _).trans hz6
        obtain ⟨w7, hw7⟩ : ∃ w7, w7 = set5W w6 (w.heap.size + 2) ((t.kids.length + 1) * 5) (.int .i64 78) (.string ⟨#[]⟩) (.int .i64 0) (.int .i64 0) (.slice none 0 0) := ⟨_, rfl⟩
        have hw7' : w7 = ((((w6.setCell ⟨w.heap.size + 2, (t.kids.length + 1) * 5, none⟩ (.int .i64 78)).setCell ⟨w.heap.size + 2, (t.kids.length + 1) * 5 + 1, none⟩ (.string ⟨#[]⟩)).setCell ⟨w.heap.size + 2, (t.kids.length + 1) * 5 + 2, none⟩ (.int .i64 0)).setCell ⟨w.heap.size + 2, (t.kids.length + 1) * 5 + 3, none⟩ (.int .i64 0)).setCell ⟨w.heap.size + 2, (t.kids.length + 1) * 5 + 4, none⟩ (.slice none 0 0) := hw7
        rw [← hw7']
        rw [← hw7] at hO7 hB7 hM7 hz7
        clear hw7 hw7' a0 b0 a1 b1 a2 b2 a3 b3 a4 b4 k4 hB6 hM6 hz6 HO6
        refine HK2.out _ _ ?_
        clear HK2
        obtain ⟨k0, k1, k2, k3, k4⟩ := HB2.out.below (B := w.heap.size + 2) (by omega) hB7
        have hfr : w7.frozen? ⟨w.heap.size, 4, none⟩ = false := by
          refine (hB7.frozen (p := ⟨w.heap.size, 4, none⟩) (by show w.heap.size < _; omega)).trans ?_
          rw [hW2]
          refine (World.frozen?_of_block (a := ⟨w.heap.size, 4, none⟩) (Below.heap_alloc _ _ _ (by simp))).trans ?_
          unfold World.frozen?
          rw [heap_alloc_new]
          rfl
        have hrr : w7.heap[w.heap.size + 1]? = some zeroO := by
          refine (hB7.block _ (by omega)).trans ?_
          rw [hW2]
          have := heap_alloc_new (w.alloc (nodeO t)) zeroO
          rwa [World.size_alloc] at this
        have r0 : w7.cell? ⟨w.heap.size + 1, 0, none⟩ = some (.int .i64 0) := by simp [World.cell?, hrr]
        have r1 : w7.cell? ⟨w.heap.size + 1, 1, none⟩ = some (.string ⟨#[]⟩) := by simp [World.cell?, hrr]
        have r2 : w7.cell? ⟨w.heap.size + 1, 2, none⟩ = some (.int .i64 0) := by simp [World.cell?, hrr]
        have r3 : w7.cell? ⟨w.heap.size + 1, 3, none⟩ = some (.int .i64 0) := by simp [World.cell?, hrr]
        have r4 : w7.cell? ⟨w.heap.size + 1, 4, none⟩ = some (.slice none 0 0) := by simp [World.cell?, hrr]
        have s0 : ∀ o, w7.frozen? ⟨w.heap.size + 1, o, none⟩ = false := fun o => by simp [World.frozen?, hrr]
        have s0' := s0 0
        have s1 := s0 1
        have s2 := s0 2
        have s3 := s0 3
        have s4 := s0 4
        have HRR : Hid (w7.heap[w.heap.size + 1]? = some zeroO) := hrr
        clear s0 hrr
        go_wp2_with fail
        have hcs : (set5W (w7.setCell ⟨w.heap.size, 4, none⟩ (.slice (some ⟨w.heap.size + 2, 0, none⟩) t.kids.length (t.kids.length + 2))) (w.heap.size + 1) 0 (.int .i64 t.kind) (.string t.text) (.int .i64 t.num) (.int .i64 t.at_) (.slice (some ⟨w.heap.size + 2, 0, none⟩) t.kids.length (t.kids.length + 2))).heap[w.heap.size + 1]? =
            some (.cells #[.int .i64 t.kind, .string t.text, .int .i64 t.num, .int .i64 t.at_, .slice (some ⟨w.heap.size + 2, 0, none⟩) t.kids.length (t.kids.length + 2)] 24 (0, 0)) := by
          have h0 : (w7.setCell ⟨w.heap.size, 4, none⟩ (.slice (some ⟨w.heap.size + 2, 0, none⟩) t.kids.length (t.kids.length + 2))).heap[w.heap.size + 1]? = some zeroO := (Below.heap_setCell w7 ⟨w.heap.size, 4, none⟩ _ _ (by show _ ≠ w.heap.size; omega)).trans HRR.out
          exact heap_set (heap_set (heap_set (heap_set (heap_set h0 0 _) 1 _) 2 _) 3 _) 4 _
        refine bodyPost_ret (results_cell_row rfl _ _ (w.heap.size + 1) 24 _ (0, 0) _ rfl hcs Tryz.underlying24 rfl rfl) rfl ?_
        have hblk : ∀ k, k ≠ w.heap.size → k ≠ w.heap.size + 1 → (set5W (w7.setCell ⟨w.heap.size, 4, none⟩ (.slice (some ⟨w.heap.size + 2, 0, none⟩) t.kids.length (t.kids.length + 2))) (w.heap.size + 1) 0 (.int .i64 t.kind) (.string t.text) (.int .i64 t.num) (.int .i64 t.at_) (.slice (some ⟨w.heap.size + 2, 0, none⟩) t.kids.length (t.kids.length + 2))).heap[k]? = w7.heap[k]? := fun k h1 h2 =>
          (set5W_block _ _ _ _ _ _ _ _ k h2).trans (Below.heap_setCell w7 ⟨w.heap.size, 4, none⟩ _ k h1)
        have hfb : Below w.heap.size w (set5W (w7.setCell ⟨w.heap.size, 4, none⟩ (.slice (some ⟨w.heap.size + 2, 0, none⟩) t.kids.length (t.kids.length + 2))) (w.heap.size + 1) 0 (.int .i64 t.kind) (.string t.text) (.int .i64 t.num) (.int .i64 t.at_) (.slice (some ⟨w.heap.size + 2, 0, none⟩) t.kids.length (t.kids.length + 2))) :=
          set5W_below ((HW2.out.trans (hB7.mono (by omega))).setCell (p := ⟨w.heap.size, 4, none⟩) (Nat.le_refl _) _) _ _ (by omega) _ _ _ _ _
        have hfz : (set5W (w7.setCell ⟨w.heap.size, 4, none⟩ (.slice (some ⟨w.heap.size + 2, 0, none⟩) t.kids.length (t.kids.length + 2))) (w.heap.size + 1) 0 (.int .i64 t.kind) (.string t.text) (.int .i64 t.num) (.int .i64 t.at_) (.slice (some ⟨w.heap.size + 2, 0, none⟩) t.kids.length (t.kids.length + 2))).heap.size = wr.heap.size := by
          rw [set5W_size, World.size_setCell, hz7]
        refine ⟨.node t.kind t.text t.num t.at_ (some ⟨w.heap.size + 2, 0, none⟩) (t.kids.length + 2) ts, ?_, ?_, ?_, ?_, hfb⟩
        · show _ = Ending.returned (.agg #[.int .i64 t.kind, .string t.text, .int .i64 t.num, .int .i64 t.at_, .slice (some ⟨w.heap.size + 2, 0, none⟩) ts.length (t.kids.length + 2)])
          rw [htl]
        · rw [MT.twin_eq]
          refine ⟨rfl, rfl, rfl, rfl, ?_⟩
          have := HR.out.tw
          rwa [List.take_of_length_le (Nat.le_refl _)] at this
        · show MT.At (fun b => w.heap.size ≤ b ∧ b < (set5W (w7.setCell ⟨w.heap.size, 4, none⟩ (.slice (some ⟨w.heap.size + 2, 0, none⟩) t.kids.length (t.kids.length + 2))) (w.heap.size + 1) 0 (.int .i64 t.kind) (.string t.text) (.int .i64 t.num) (.int .i64 t.at_) (.slice (some ⟨w.heap.size + 2, 0, none⟩) t.kids.length (t.kids.length + 2))).heap.size) (set5W (w7.setCell ⟨w.heap.size, 4, none⟩ (.slice (some ⟨w.heap.size + 2, 0, none⟩) t.kids.length (t.kids.length + 2))) (w.heap.size + 1) 0 (.int .i64 t.kind) (.string t.text) (.int .i64 t.num) (.int .i64 t.at_) (.slice (some ⟨w.heap.size + 2, 0, none⟩) t.kids.length (t.kids.length + 2))) _
          rw [hfz, MT.At]
          refine ⟨HIN.out.text_le, by omega, by unfold maxLen; omega, .inr ⟨w.heap.size + 2, 0, rfl, ⟨by omega, by omega⟩, MT.AtL.mk fun i hi => ⟨?_, ?_⟩⟩⟩
          · have hc : ∀ o u, o < 5 → ts[i].cells.toList[o]? = some u → (set5W (w7.setCell ⟨w.heap.size, 4, none⟩ (.slice (some ⟨w.heap.size + 2, 0, none⟩) t.kids.length (t.kids.length + 2))) (w.heap.size + 1) 0 (.int .i64 t.kind) (.string t.text) (.int .i64 t.num) (.int .i64 t.at_) (.slice (some ⟨w.heap.size + 2, 0, none⟩) t.kids.length (t.kids.length + 2))).cell? ⟨w.heap.size + 2, 0 + i * 5 + o, none⟩ = some u := by
              intro o u ho hu
              rw [Nat.zero_add]
              refine (World.cell?_of_block (a := ⟨w.heap.size + 2, i * 5 + o, none⟩) (hblk (w.heap.size + 2) (by omega) (by omega))).trans ?_
              refine (own_cell hO7 (i * 5 + o) u ?_).1
              rw [List.append_assoc, List.getElem?_append_left (by rw [nodesL_length]; omega), nodesL_get ts i hi o ho]
              exact hu
            exact ⟨hc 0 _ (by omega) rfl, hc 1 _ (by omega) rfl, hc 2 _ (by omega) rfl, hc 3 _ (by omega) rfl, hc 4 _ (by omega) rfl⟩
          · exact MT.At.keep (fun b hb => ⟨by omega, hb.2⟩) (fun k' o hk' => World.cell?_of_block (a := ⟨k', o, none⟩) (hblk k' (by omega) (by omega))) _ (hM7 _ (List.getElem_mem hi))
        · obtain ⟨g', cap', cur, hv, _, hg, _, _, hcs', _⟩ := hO7.2.resolve_left (fun h => by cases h.1)
          cases hv
          refine ⟨w.heap.size + 2, cur, rfl, by omega, (hblk _ (by omega) (by omega)).trans hg, ?_, ?_⟩
          · show cur.size = (ts.length + 2) * 5
            rw [htl]; exact hcs'
          · show t.kids.length + 2 = ts.length + 2
            rw [htl]
end Go.Proofs.YthbnegggohegkaaGreatDoor
