/-
  A loop over an iterator that gives a list, one after the other.
-/
import Derived.Test.YtflonmlnedkmjaaDoorMhJ
import Derived.RangeFuncNested
import Derived.RangeFuncBound
import Derived.RangeFuncCalls
import Derived.RangeFuncLeaves
namespace Go.Proofs.YtflonmlnedkmjaaDoor
open Go.RowKit
/-- The contract of an iterator that gives just ord, as long as R holds. -/
def SeqR {α : Type} (F : Fence) (n : Nat) (P : Program) (g : Nat) (pre lb : Array Value) (encs : α → Array Value) (R : World → Prop) (ord : List α) : Prop :=
  ∀ (l : Nat) (J : List α → World → Prop) (W : World), (∀ s W', J s W' → R W') →
    (∀ s x W1, s ++ [x] <+: ord → J s W1 → YieldAt F (n - 1) P l (encs x) W1 fun e W' => e = .returned (.bool true) ∧ J (s ++ [x]) W') →
    J [] W →
    CallsIn F n P g (pre ++ #[.func (.yield l) #[] #[]] ++ lb) W fun e W' => (∃ v, e = .returned v) ∧ J ord W'

/-- How the body of a round is left. -/
def rPost {α : Type} (D : Nat) (I : List α → World → Prop) (xs : List α) (W : World) : Exit → Act → World → Prop
  | .normal, _, W' => W'.heap[D]? = W.heap[D]? ∧ W'.heap[D + 1]? = W.heap[D + 1]? ∧ I xs W'
  | _, _, _ => False

variable {F : Fence} {n : Nat} {P : Program}

theorem wpIn_rangeFunc_R {α : Type} {g : Operand} {ps : Array Tmp} {assign body : Code} {Q : Exit → Act → World → Prop} {a : Act} {w : World}
    (hro : F.round = none) (h1 : 1 ≤ n) {gf : Nat} {pre lb : Array Value} (hg : a.eval g = .func (.func gf) pre lb) (hFg : F.fn gf) (eg : ∀ args w, (callFunc gf args).run P w = .ok (.enter gf args) w)
    {encs : α → Array Value} {R : World → Prop} {ord : List α} (hseq : SeqR F (n - 1) P gf pre lb encs R ord) (hps : ∀ x, (encs x).size = ps.size)
    (I : List α → World → Prop) (hR : ∀ s W, I s W → R W) (hstart : ∀ o1 o2, I [] ((w.alloc o1).alloc o2)) (hput : ∀ s W o, w.heap.size + 1 < W.heap.size → I s W → I s (W.putObj (w.heap.size + 1) o))
    (a₁ : α → World → Act) (g₁ : α → World → World) (hg₁ : ∀ s (x : α) (W : World), w.heap.size + 1 < W.heap.size → I s W → I s (g₁ x W) ∧ (g₁ x W).heap[w.heap.size]? = W.heap[w.heap.size]? ∧ (g₁ x W).heap[w.heap.size + 1]? = W.heap[w.heap.size + 1]?)
    (hassign : ∀ (l : Nat) (x : α) (W : World) (K : Act → World → Prop), K (a₁ x W) (g₁ x W) →
      assign.wpIn (F.inRound l) (n - 1 - 1) P (Exit.then K (fun _ _ _ => False)) { tmps := (ps.zip (encs x)).foldl (fun t (p, v) => t.setIfInBounds p v) a.tmps, defers := [] } W)
    (hbody : ∀ (l : Nat) (s : List α) (x : α) (W : World) (o : Obj), s ++ [x] <+: ord → w.heap.size + 1 < W.heap.size → I s ((g₁ x W).putObj (w.heap.size + 1) o) → body.wpIn (F.inRound l) (n - 1 - 1) P (rPost w.heap.size I (s ++ [x]) ((g₁ x W).putObj (w.heap.size + 1) o)) (a₁ x W) ((g₁ x W).putObj (w.heap.size + 1) o))
    (hdone : ∀ (W : World), I ord W → W.heap[w.heap.size]? = some (.deferred (some [])) → Q .normal { a with defers := { target := .collected w.heap.size, args := #[] } :: a.defers } W) :
    (Code.rangeFunc g ps assign body).wpIn F n P Q a w := by
  refine wpIn_rangeFunc ?_
  intro fn hfn
  rw [hro]
  obtain ⟨rec, hrec⟩ : ∃ rec : LoopState → Option Code → Loop, rec = fun st pe => { state := st, pending := pe, fn, tmps := a.tmps, params := ps, assign, body, defers := w.heap.size } := ⟨_, rfl⟩
  obtain ⟨W1, hW1⟩ : ∃ W1, (w.alloc (.deferred (some []))).alloc (.loop (rec .ready none)) = W1 := ⟨_, rfl⟩
  have hz1 : W1.heap.size = w.heap.size + 2 := by rw [← hW1]; simp
  have hL1 : W1.heap[w.heap.size + 1]? = some (.loop (rec .ready none)) := by
    rw [← hW1]; have := heap_alloc_new (w.alloc (.deferred (some []))) (.loop (rec .ready none)); rwa [World.size_alloc] at this
  have hK1 : W1.heap[w.heap.size]? = some (.deferred (some [])) := by
    rw [← hW1]; exact (Below.heap_alloc _ _ _ (by simp)).trans (heap_alloc_new w _)
  have hI1 : I [] W1 := by
    rw [← hW1]; exact hstart _ _
  refine ⟨w.heap.size + 1, [{ target := .collected w.heap.size, args := #[] }], W1, { target := .fn (.func gf) lb, args := pre ++ #[.func (.yield (w.heap.size + 1)) #[] #[]] }, W1, gf,
    pre ++ #[.func (.yield (w.heap.size + 1)) #[] #[]] ++ lb, W1, ?_, ?_, ?_, ?_, fun _ => h1, ?_⟩
  · rw [← hW1, hrec]; exact run_enterLoop_outer _ _ _ _ _
  · simp only [resolve, hg]
    simp [go_sem]
  · intro f' hf'; simp [Target.leads] at hf'; subst hf'; exact hFg
  · simp [invoke, go_sem, eg]
  · refine (hseq (w.heap.size + 1)
      (fun s W => I s W ∧ W.heap[w.heap.size + 1]? = some (.loop (rec .ready none)) ∧ W.heap[w.heap.size]? = some (.deferred (some [])))
      W1 (fun s W h => hR s W h.1) ?_ ⟨hI1, hL1, hK1⟩).mono ?_
    · rintro s x W hpre ⟨hi, hl, hk⟩
      have hlt : w.heap.size + 1 < W.heap.size := (Array.getElem?_eq_some_iff.1 hl).1
      have hy := run_yield (P := P) (args := encs x) hl (by rw [hrec]; exact hps x)
      rw [hrec] at hy
      obtain ⟨hig, hkg, hlg⟩ := hg₁ s x W hlt hi
      have hlg' := hlg.trans hl
      have hltg : w.heap.size + 1 < (g₁ x W).heap.size := (Array.getElem?_eq_some_iff.1 hlg').1
      refine ⟨fn, _, assign, body, hy, roundIn_of_wpIn hfn (hassign _ x W _ ⟨_, run_beginRound hlg' (by rw [hrec]), ?_⟩)⟩
      have hl2 : ((g₁ x W).putObj (w.heap.size + 1) (.loop { rec .ready none with state := .busy })).heap[w.heap.size + 1]? = some (.loop { rec .ready none with state := .busy }) := World.putObj_heap_same hltg
      have hk2 : ((g₁ x W).putObj (w.heap.size + 1) (.loop { rec .ready none with state := .busy })).heap[w.heap.size]? = some (.deferred (some [])) := (World.putObj_heap_other (by omega)).trans (hkg.trans hk)
      refine wpIn_mono (hbody _ s x W _ hpre hlt (hput s _ _ hltg hig)) ?_
      rintro e a3 W3 hp
      cases e with
      | normal =>
        obtain ⟨hkD, hkL, hi3⟩ := hp
        have hl3 : W3.heap[w.heap.size + 1]? = some (.loop { rec .ready none with state := .busy }) := hkL.trans hl2
        have hk4 : W3.heap[w.heap.size]? = some (.deferred (some [])) := hkD.trans hk2
        have hr := run_endRound (P := P) none hl3
        rw [hrec] at hr
        have hlt3 := (Array.getElem?_eq_some_iff.1 hl3).1
        refine ⟨_, _, hr, rfl, hput _ W3 _ hlt3 hi3, ?_, (World.putObj_heap_other (by omega)).trans hk4⟩
        rw [hrec]; exact World.putObj_heap_same hlt3
      | ret => exact hp.elim
      | exit id => exact hp.elim
      | goto t => exact hp.elim
      | panic ch => exact hp.elim
      | outgrown => exact hp.elim
    · rintro e W2 ⟨⟨v, rfl⟩, hi, hl, hk⟩
      exact ⟨none, _, by have := run_endLoop (P := P) hl (by rw [hrec]; simp); rw [hrec] at this; exact this, hdone _ (hput _ W2 _ (Array.getElem?_eq_some_iff.1 hl).1 hi) ((World.putObj_heap_other (by omega)).trans hk)⟩
end Go.Proofs.YtflonmlnedkmjaaDoor
