/-
  A loop over an iterator that writes memory of its own between two rounds, its body left at its end alone: what the caller owes, and what the iterator.
-/
import Derived.RangeFuncNested
import Derived.RangeFuncBound
import Derived.RangeFuncCalls
import Derived.RangeFuncLeaves
namespace Go.Proofs.YthbnegggohegkaaGreatDoor
open Go.RowKit

/-- It abides the turn of any block at or beyond B, and new ones. -/
def AbA {β : Type} (B : Nat) (J : β → World → Prop) : Prop :=
  ∀ s A A' row, J s A → A.grownBy A' row → (∀ r, row = some r → B ≤ r) → J s A'

/-- All blocks but those of X are as they were. -/
structure KeepsX (X : Nat → Prop) (W W' : World) : Prop where
  size : W.heap.size ≤ W'.heap.size
  same : ∀ k, k < W.heap.size → ¬ X k → W'.heap[k]? = W.heap[k]?

theorem KeepsX.trans {X : Nat → Prop} {A B C : World} (h : KeepsX X A B) (k : KeepsX X B C) : KeepsX X A C :=
  ⟨Nat.le_trans h.size k.size, fun i hi hx => (k.same i (Nat.lt_of_lt_of_le hi h.size) hx).trans (h.same i hi hx)⟩
theorem KeepsX.imp {X Y : Nat → Prop} {A B : World} (h : KeepsX X A B) (hxy : ∀ k, X k → Y k) : KeepsX Y A B :=
  ⟨h.size, fun i hi hy => h.same i hi (fun hx => hy (hxy i hx))⟩
theorem KeepsX.putObj {X : Nat → Prop} (W : World) (l : Nat) (o : Obj) (hl : X l) : KeepsX X W (W.putObj l o) :=
  ⟨by simp, fun _ _ hx => World.putObj_heap_other (fun e => hx (e ▸ hl))⟩
theorem KeepsX.setCell {X : Nat → Prop} (W : World) (b o : Nat) (v : Value) (hl : X b) : KeepsX X W (W.setCell ⟨b, o, none⟩ v) :=
  ⟨by simp, fun k _ hx => Below.heap_setCell W ⟨b, o, none⟩ v k (fun e => hx (by rw [e]; exact hl))⟩
theorem KeepsX.alloc {X : Nat → Prop} (W : World) (o : Obj) : KeepsX X W (W.alloc o) :=
  ⟨by simp, fun k hk _ => Below.heap_alloc W o k hk⟩
theorem KeepsX.cell {X : Nat → Prop} {W W' : World} (h : KeepsX X W W') {b o : Nat} (hb : b < W.heap.size) (hx : ¬ X b) : W'.cell? ⟨b, o, none⟩ = W.cell? ⟨b, o, none⟩ :=
  World.cell?_of_block (a := ⟨b, o, none⟩) (h.same b hb hx)
theorem KeepsX.frozen {X : Nat → Prop} {W W' : World} (h : KeepsX X W W') {b o : Nat} (hb : b < W.heap.size) (hx : ¬ X b) : W'.frozen? ⟨b, o, none⟩ = W.frozen? ⟨b, o, none⟩ :=
  World.frozen?_of_block (a := ⟨b, o, none⟩) (h.same b hb hx)

/-- The contract of an iterator that gives just ord, whatever the body does to blocks that are not Bad. -/
def SeqAll {α : Type} (F : Fence) (n : Nat) (P : Program) (g : Nat) (lb : Array Value) (encs : α → Array Value) (Bad : Nat → Prop) (ord : List α) (w : World) : Prop :=
  ∀ (l : Nat) (J : List α → World → Prop) (W : World) (X : Nat → Prop), Below w.heap.size w W → (∀ k, X k → k < W.heap.size ∧ ¬ Bad k) → AbA W.heap.size J →
    (∀ pre x W1, pre ++ [x] <+: ord → J pre W1 → YieldAt F (n - 1) P l (encs x) W1 fun e W' => e = .returned (.bool true) ∧ J (pre ++ [x]) W' ∧ KeepsX X W1 W') →
    J [] W →
    CallsIn F n P g (#[.func (.yield l) #[] #[]] ++ lb) W fun e W' => (∃ v, e = .returned v) ∧ J ord W'

/-- How the body of a round is left. -/
def allPost {α : Type} (Xc : Nat → Prop) (I : List α → World → Prop) (xs : List α) (W : World) : Exit → Act → World → Prop
  | .normal, _, W' => KeepsX Xc W W' ∧ I xs W'
  | _, _, _ => False

variable {F : Fence} {n : Nat} {P : Program}

theorem wpIn_rangeFunc_all {α : Type} {g : Operand} {ps : Array Tmp} {assign body : Code} {Q : Exit → Act → World → Prop} {a : Act} {w : World}
    (hro : F.round = none) (h1 : 1 ≤ n) {gf : Nat} {lb : Array Value} (hg : a.eval g = .func (.func gf) #[] lb) (hFg : F.fn gf) (eg : ∀ args w, (callFunc gf args).run P w = .ok (.enter gf args) w)
    {encs : α → Array Value} {Bad : Nat → Prop} {ord : List α} (hseq : SeqAll F (n - 1) P gf lb encs Bad ord w) (hps : ∀ x, (encs x).size = ps.size)
    (hBad : ∀ k, Bad k → k < w.heap.size) (Xc : Nat → Prop) (hXc : ∀ k, Xc k → k < w.heap.size ∧ ¬ Bad k)
    (I : List α → World → Prop) (hI : AbA w.heap.size I) (h0 : I [] w) (a₁ : α → Act)
    (hassign : ∀ (l : Nat) (x : α) (W : World) (K : Act → World → Prop), K (a₁ x) W →
      assign.wpIn (F.inRound l) (n - 1 - 1) P (Exit.then K (fun _ _ _ => False)) { tmps := (ps.zip (encs x)).foldl (fun t (p, v) => t.setIfInBounds p v) a.tmps, defers := [] } W)
    (hbody : ∀ (l : Nat) (pre : List α) (x : α) (W : World), pre ++ [x] <+: ord → I pre W → body.wpIn (F.inRound l) (n - 1 - 1) P (allPost Xc I (pre ++ [x]) W) (a₁ x) W)
    (hdone : ∀ (D : Nat) (W : World), w.heap.size ≤ D → I ord W → W.heap[D]? = some (.deferred (some [])) → Q .normal { a with defers := { target := .collected D, args := #[] } :: a.defers } W) :
    (Code.rangeFunc g ps assign body).wpIn F n P Q a w := by
  refine wpIn_rangeFunc ?_
  intro fn hfn
  rw [hro]
  obtain ⟨rec, hrec⟩ : ∃ rec : LoopState → Option Code → Loop, rec = fun st pe => { state := st, pending := pe, fn, tmps := a.tmps, params := ps, assign, body, defers := w.heap.size } := ⟨_, rfl⟩
  obtain ⟨W1, hW1⟩ : ∃ W1, (w.alloc (.deferred (some []))).alloc (.loop (rec .ready none)) = W1 := ⟨_, rfl⟩
  have hz1 : W1.heap.size = w.heap.size + 2 := by rw [← hW1]; simp
  have hL1 : W1.heap[w.heap.size + 1]? = some (.loop (rec .ready none)) := by
    rw [← hW1]; have := heap_alloc_new (w.alloc (.deferred (some []))) (.loop (rec .ready none)); rwa [World.size_alloc] at this
  have hK1 : W1.heap[w.heap.size]? = some (.deferred (some [])) := by
    rw [← hW1]; exact (Below.heap_alloc _ _ _ (by simp)).trans (heap_alloc_new w _)
  have hI1 : I [] W1 := by
    rw [← hW1]; exact hI _ _ _ none (hI _ _ _ none h0 (World.grownBy_alloc _ _ _) (fun r e => by cases e)) (World.grownBy_alloc _ _ _) (fun r e => by cases e)
  have hb1 : Below w.heap.size w W1 := by
    rw [← hW1]; exact ((Below.refl _ w).alloc (Nat.le_refl _) _).alloc (by simp) _
  refine ⟨w.heap.size + 1, [{ target := .collected w.heap.size, args := #[] }], W1, { target := .fn (.func gf) lb, args := #[.func (.yield (w.heap.size + 1)) #[] #[]] }, W1, gf,
    #[.func (.yield (w.heap.size + 1)) #[] #[]] ++ lb, W1, ?_, ?_, ?_, ?_, fun _ => h1, ?_⟩
  · rw [← hW1, hrec]; exact run_enterLoop_outer _ _ _ _ _
  · simp only [resolve, hg]
    simp [go_sem]
  · intro f' hf'; simp [Target.leads] at hf'; subst hf'; exact hFg
  · simp [invoke, go_sem, eg]
  · refine (hseq (w.heap.size + 1)
      (fun pre W => I pre W ∧ W.heap[w.heap.size + 1]? = some (.loop (rec .ready none)) ∧ W.heap[w.heap.size]? = some (.deferred (some [])))
      W1 (fun k => Xc k ∨ k = w.heap.size + 1) hb1 ?_ ?_ ?_ ⟨hI1, hL1, hK1⟩).mono ?_
    · rintro k (hk | rfl)
      · exact ⟨by have := (hXc k hk).1; omega, (hXc k hk).2⟩
      · exact ⟨by omega, fun hb => by have := hBad _ hb; omega⟩
    · rintro s A A' row ⟨hi, hl, hk⟩ hgr hr
      have hlt := (Array.getElem?_eq_some_iff.1 hl).1
      refine ⟨hI s A A' row hi hgr (fun r e => by have := hr r e; omega), (hgr.block _ hlt ?_).trans hl, (hgr.block _ (by omega) ?_).trans hk⟩
      · intro e; have := hr _ e.symm; omega
      · intro e; have := hr _ e.symm; omega
    · rintro pre x W hpre ⟨hi, hl, hk⟩
      have hlt : w.heap.size + 1 < W.heap.size := (Array.getElem?_eq_some_iff.1 hl).1
      have hy := run_yield (P := P) (args := encs x) hl (by rw [hrec]; exact hps x)
      rw [hrec] at hy
      refine ⟨fn, _, assign, body, hy, roundIn_of_wpIn hfn (hassign _ x W _ ⟨_, run_beginRound hl (by rw [hrec]), ?_⟩)⟩
      have hl2 : (W.putObj (w.heap.size + 1) (.loop { rec .ready none with state := .busy })).heap[w.heap.size + 1]? = some (.loop { rec .ready none with state := .busy }) := World.putObj_heap_same hlt
      have hk2 : (W.putObj (w.heap.size + 1) (.loop { rec .ready none with state := .busy })).heap[w.heap.size]? = some (.deferred (some [])) := (World.putObj_heap_other (by omega)).trans hk
      refine wpIn_mono (hbody _ pre x _ hpre (hI pre W _ (some (w.heap.size + 1)) hi (grownBy_putObj' _ _ _) (fun r e => by cases e; omega))) ?_
      rintro e a3 W3 hp
      cases e with
      | normal =>
        obtain ⟨hk3, hi3⟩ := hp
        have hl3 : W3.heap[w.heap.size + 1]? = some (.loop { rec .ready none with state := .busy }) := (hk3.same _ (by simpa using hlt) (fun h => by have := (hXc _ h).1; omega)).trans hl2
        have hk4 : W3.heap[w.heap.size]? = some (.deferred (some [])) := (hk3.same _ (by simp; omega) (fun h => by have := (hXc _ h).1; omega)).trans hk2
        have hr := run_endRound (P := P) none hl3
        rw [hrec] at hr
        refine ⟨_, _, hr, rfl, ⟨hI _ W3 _ (some (w.heap.size + 1)) hi3 (grownBy_putObj' _ _ _) (fun r e => by cases e; omega), ?_, (World.putObj_heap_other (by omega)).trans hk4⟩, ?_⟩
        · rw [hrec]; exact World.putObj_heap_same (Array.getElem?_eq_some_iff.1 hl3).1
        · exact ((KeepsX.putObj W _ _ (.inr rfl)).trans (hk3.imp (fun k h => .inl h))).trans (KeepsX.putObj W3 _ _ (.inr rfl))
      | ret => exact hp.elim
      | exit id => exact hp.elim
      | goto t => exact hp.elim
      | panic ch => exact hp.elim
      | outgrown => exact hp.elim
    · rintro e W2 ⟨⟨v, rfl⟩, hi, hl, hk⟩
      exact ⟨none, _, by have := run_endLoop (P := P) hl (by rw [hrec]; simp); rw [hrec] at this; exact this, hdone _ _ (Nat.le_refl _) (hI _ W2 _ (some (w.heap.size + 1)) hi (grownBy_putObj' _ _ _) (fun r e => by cases e; omega)) ((World.putObj_heap_other (by omega)).trans hk)⟩
end Go.Proofs.YthbnegggohegkaaGreatDoor
