/-
  A loop over an iterator that gives one value, which lies in memory of its own.
-/
import Derived.RangeFuncNested
import Derived.RangeFuncBound
import Derived.RangeFuncCalls
import Derived.RangeFuncLeaves
import Derived.RangeFuncBox
import Derived.Shelf.Abstract
import Derived.Shelf.RegionOpen
import Derived.WalkKit
import Derived.OwnWalkIn
import Derived.TacticsInMore
import Derived.LoopNIn
import Derived.LoopIn
import Derived.Maps.AppendAt
import Derived.Test.YtaboeocgoocgfaaGreatDoorP
namespace Go.Proofs.YtaboeocgoocgfaaGreatDoor
open Go.RowKit Go.Shelf

/-- The contract of an iterator that gives one value v, whose row lies in the block vb: o. W: the world where the loop has begun. -/
def SeqOnce (F : Fence) (n : Nat) (P : Program) (g : Nat) (lb : Array Value) (v : Value) (vb : Nat) (o : Obj) (w : World) : Prop :=
  ∀ (l : Nat) (W : World) (R R1 : World → Prop), Below w.heap.size w W → W.heap.size = w.heap.size + 2 → (∀ W', R W' → Below w.heap.size w W' ∧ W'.heap[vb]? = some o ∧ w.heap.size + 2 < W'.heap.size) →
    (∀ W1, Below W.heap.size W W1 → W1.heap[vb]? = some o → YieldAt F (n - 1) P l #[v] W1 fun e W' => (e = .returned (.bool true) ∧ R W') ∨ (e = .returned (.bool false) ∧ R1 W')) →
    CallsIn F n P g (#[.func (.yield l) #[] #[]] ++ lb) W fun e W' => (∃ x, e = .returned x) ∧ ((∃ W0, R W0 ∧ Below W0.heap.size W0 W') ∨ R1 W')

/-- How the body of the round is left; B: where the loop began. -/
def oncePost (B : Nat) (N : Prop) (Ix : World → Prop) (W : World) : Exit → Act → World → Prop
  | .normal, _, W' => N ∧ Below W.heap.size W W'
  | .ret, _, W' => Ix W' ∧ W.heap.size ≤ W'.heap.size ∧ W'.heap[B]? = W.heap[B]? ∧ W'.heap[B + 1]? = W.heap[B + 1]?
  | _, _, _ => False

section
variable {F : Fence} {n : Nat} {P : Program}
theorem wpIn_rangeFunc_once {g : Operand} {ps : Array Tmp} {assign body : Code} {Q : Exit → Act → World → Prop} {a : Act} {w : World}
    (hro : F.round = none) (h1 : 1 ≤ n) {gf : Nat} {lb : Array Value} (hg : a.eval g = .func (.func gf) #[] lb) (hFg : F.fn gf) (eg : ∀ args w, (callFunc gf args).run P w = .ok (.enter gf args) w)
    {v : Value} {o : Obj} (hseq : SeqOnce F (n - 1) P gf lb v (w.heap.size + 2) o w) (hps : 1 = ps.size)
    (N : Prop) (Ix : World → Prop) (hIx : ∀ (W W' : World) (r : Nat), Ix W → W.grownBy W' (some r) → w.heap.size ≤ r → r ≤ w.heap.size + 1 → Ix W') (a₁ : Act)
    (hassign : ∀ (l : Nat) (W : World) (K : Act → World → Prop), K a₁ W →
      assign.wpIn (F.inRound l) (n - 1 - 1) P (Exit.then K (fun _ _ _ => False)) { tmps := (ps.zip #[v]).foldl (fun t (p, v) => t.setIfInBounds p v) a.tmps, defers := [] } W)
    (hbody : ∀ (l : Nat) (W : World), Below w.heap.size w W → W.heap[w.heap.size + 2]? = some o → w.heap.size + 2 < W.heap.size → body.wpIn (F.inRound l) (n - 1 - 1) P (oncePost w.heap.size N Ix W) a₁ W)
    (hdone : ∀ (D : Nat) (W : World), D = w.heap.size → N → Below w.heap.size w W → W.heap[D]? = some (.deferred (some [])) → Q .normal { a with defers := { target := .collected D, args := #[] } :: a.defers } W)
    (hstop : ∀ (D : Nat) (W : World), D = w.heap.size → Ix W → W.heap[D]? = some (.deferred (some [])) → Q .ret { a with defers := { target := .collected D, args := #[] } :: a.defers } W) :
    (Code.rangeFunc g ps assign body).wpIn F n P Q a w := by
  refine wpIn_rangeFunc ?_
  intro fn hfn
  rw [hro]
  obtain ⟨rec, hrec⟩ : ∃ rec : LoopState → Option Code → Loop, rec = fun st pe => { state := st, pending := pe, fn, tmps := a.tmps, params := ps, assign, body, defers := w.heap.size } := ⟨_, rfl⟩
  obtain ⟨W1, hW1⟩ : ∃ W1, (w.alloc (.deferred (some []))).alloc (.loop (rec .ready none)) = W1 := ⟨_, rfl⟩
  have hz1 : W1.heap.size = w.heap.size + 2 := by rw [← hW1]; simp
  have hL1 : W1.heap[w.heap.size + 1]? = some (.loop (rec .ready none)) := by
    rw [← hW1]; have := heap_alloc_new (w.alloc (.deferred (some []))) (.loop (rec .ready none)); rwa [World.size_alloc] at this
  have hK1 : W1.heap[w.heap.size]? = some (.deferred (some [])) := by
    rw [← hW1]; exact (Below.heap_alloc _ _ _ (by simp)).trans (heap_alloc_new w _)
  have hb1 : Below w.heap.size w W1 := by
    rw [← hW1]; exact ((Below.refl _ w).alloc (Nat.le_refl _) _).alloc (by simp) _
  refine ⟨w.heap.size + 1, [{ target := .collected w.heap.size, args := #[] }], W1, { target := .fn (.func gf) lb, args := #[.func (.yield (w.heap.size + 1)) #[] #[]] }, W1, gf,
    #[.func (.yield (w.heap.size + 1)) #[] #[]] ++ lb, W1, ?_, ?_, ?_, ?_, fun _ => h1, ?_⟩
  · rw [← hW1, hrec]; exact run_enterLoop_outer _ _ _ _ _
  · simp only [resolve, hg]
    simp [go_sem]
  · intro f' hf'; simp [Target.leads] at hf'; subst hf'; exact hFg
  · simp [invoke, go_sem, eg]
  · have puts : ∀ (A : World) (o : Obj), Below w.heap.size A (A.putObj (w.heap.size + 1) o) := fun A o => ⟨rfl, rfl, rfl, by simp, fun k hk => World.putObj_heap_other (by omega)⟩
    refine (hseq (w.heap.size + 1) W1
      (fun W => (Below w.heap.size w W ∧ W.heap[w.heap.size + 2]? = some o ∧ w.heap.size + 2 < W.heap.size) ∧ N ∧ W.heap[w.heap.size + 1]? = some (.loop (rec .ready none)) ∧ W.heap[w.heap.size]? = some (.deferred (some [])))
      (fun W => Ix W ∧ W.heap[w.heap.size + 1]? = some (.loop (rec .done (some .ret))) ∧ W.heap[w.heap.size]? = some (.deferred (some [])))
      hb1 hz1 (fun W' h => h.1) ?_).mono ?_
    · intro W hW hv
      have hl : W.heap[w.heap.size + 1]? = some (.loop (rec .ready none)) := (hW.block _ (by omega)).trans hL1
      have hk : W.heap[w.heap.size]? = some (.deferred (some [])) := (hW.block _ (by omega)).trans hK1
      have hlt2 : w.heap.size + 2 < W.heap.size := (Array.getElem?_eq_some_iff.1 hv).1
      have hy := run_yield (P := P) (args := #[v]) hl (by rw [hrec]; exact hps)
      rw [hrec] at hy
      refine ⟨fn, _, assign, body, hy, roundIn_of_wpIn hfn (hassign _ W _ ⟨_, run_beginRound hl (by rw [hrec]), ?_⟩)⟩
      obtain ⟨V, hV⟩ : ∃ V, V = W.putObj (w.heap.size + 1) (.loop { rec .ready none with state := .busy }) := ⟨_, rfl⟩
      have hVz : V.heap.size = W.heap.size := by rw [hV]; simp
      have hl2 : V.heap[w.heap.size + 1]? = some (.loop { rec .ready none with state := .busy }) := by rw [hV]; exact World.putObj_heap_same (by omega)
      have hk2 : V.heap[w.heap.size]? = some (.deferred (some [])) := by rw [hV]; exact (World.putObj_heap_other (by omega)).trans hk
      have hv2 : V.heap[w.heap.size + 2]? = some o := by rw [hV]; exact (World.putObj_heap_other (by omega)).trans hv
      have hbV : Below w.heap.size w V := by rw [hV]; exact (hb1.trans (hW.mono (by omega))).trans (puts _ _)
      rw [← hV]
      refine wpIn_mono (hbody _ V hbV hv2 (by omega)) ?_
      rintro e a3 W3 hp
      cases e with
      | normal =>
        have hN : N := hp.1
        have hp : Below V.heap.size V W3 := hp.2
        have hz3 := hp.size
        have hl3 : W3.heap[w.heap.size + 1]? = some (.loop { rec .ready none with state := .busy }) := (hp.block _ (by omega)).trans hl2
        have hk4 : W3.heap[w.heap.size]? = some (.deferred (some [])) := (hp.block _ (by omega)).trans hk2
        have hv4 : W3.heap[w.heap.size + 2]? = some o := (hp.block _ (by omega)).trans hv2
        have hr := run_endRound (P := P) none hl3
        rw [hrec] at hr
        refine ⟨_, _, hr, .inl ⟨rfl, ⟨(hbV.trans (hp.mono (by omega))).trans (puts _ _), (World.putObj_heap_other (by omega)).trans hv4, by simp; omega⟩, hN, ?_, (World.putObj_heap_other (by omega)).trans hk4⟩⟩
        rw [hrec]; exact World.putObj_heap_same (Array.getElem?_eq_some_iff.1 hl3).1
      | ret =>
        obtain ⟨hi3, hz3, hk3, hl3'⟩ := hp
        have hl3 : W3.heap[w.heap.size + 1]? = some (.loop { rec .ready none with state := .busy }) := hl3'.trans hl2
        have hk4 : W3.heap[w.heap.size]? = some (.deferred (some [])) := hk3.trans hk2
        have hr := run_endRound (P := P) (some .ret) hl3
        rw [hrec] at hr
        refine ⟨_, _, hr, .inr ⟨rfl, hIx W3 _ (w.heap.size + 1) hi3 (grownBy_putObj' _ _ _) (by omega) (by omega), ?_, (World.putObj_heap_other (by omega)).trans hk4⟩⟩
        rw [hrec]; exact World.putObj_heap_same (Array.getElem?_eq_some_iff.1 hl3).1
      | exit id => exact hp.elim
      | goto t => exact hp.elim
      | panic ch => exact hp.elim
      | outgrown => exact hp.elim
    · rintro e W2 ⟨⟨x, rfl⟩, ⟨W0, ⟨⟨hi, hv, hz⟩, hN, hl, hk⟩, hb⟩ | ⟨hi, hl, hk⟩⟩
      · have hl2 := (hb.block _ (by omega)).trans hl
        have hk2 := (hb.block _ (by omega)).trans hk
        exact ⟨none, _, by have := run_endLoop (P := P) hl2 (by rw [hrec]; simp); rw [hrec] at this; exact this, hdone _ _ rfl hN ((hi.trans (hb.mono (by omega))).trans (puts _ _)) ((World.putObj_heap_other (by omega)).trans hk2)⟩
      · exact ⟨some .ret, _, by have := run_endLoop (P := P) hl (by rw [hrec]; simp); rw [hrec] at this; exact this, wpIn_ret (hstop _ _ rfl (hIx W2 _ (w.heap.size + 1) hi (grownBy_putObj' _ _ _) (by omega) (by omega)) ((World.putObj_heap_other (by omega)).trans hk))⟩
end
end Go.Proofs.YtaboeocgoocgfaaGreatDoor
