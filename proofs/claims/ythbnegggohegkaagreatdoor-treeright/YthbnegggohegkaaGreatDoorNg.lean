/-
  A loop over an iterator whose body has memory of its own; and the walk of tree.nodes's iterator as such a one, at every tree.
-/
import Derived.Test.YthbnegggohegkaaGreatDoorRf
import Derived.Maps.AppendAt
import Derived.OwnWalkIn
import Derived.Test.YthbnegggohegkaaGreatDoorCoJ
namespace Go.Proofs.YthbnegggohegkaaGreatDoor
open Go.RowKit

/-- It abides the turn of any block at or beyond B that is none of S, and new ones. -/
def AbS {β : Type} (B : Nat) (J : β → (Nat → Prop) → World → Prop) : Prop :=
  ∀ s S A A' row, J s S A → A.grownBy A' row → (∀ r, row = some r → B ≤ r ∧ ¬ S r) → J s S A'

/-- The contract of an iterator that gives just ord; S: the blocks that are the body's, by now. -/
def SeqOwn {α : Type} (F : Fence) (n : Nat) (P : Program) (g : Nat) (lb : Array Value) (encs : α → Array Value) (Bad : Nat → Prop) (ord : List α) (w : World) : Prop :=
  ∀ (l : Nat) (J : List α → (Nat → Prop) → World → Prop) (W : World) (S0 : Nat → Prop), Below w.heap.size w W → (∀ k, S0 k → ¬ Bad k) →
    (∀ s S A, J s S A → ∀ k, S k → k < A.heap.size) → AbS W.heap.size J →
    (∀ pre x S W1, pre ++ [x] <+: ord → J pre S W1 → YieldAt F (n - 1) P l (encs x) W1 fun e W' => e = .returned (.bool true) ∧ ∃ S', J (pre ++ [x]) S' W' ∧ (∀ k, S' k → S k ∨ W1.heap.size ≤ k) ∧ KeepsX S W1 W') →
    (∀ k, S0 k → k < W.heap.size) → J [] S0 W →
    CallsIn F n P g (#[.func (.yield l) #[] #[]] ++ lb) W fun e W' => (∃ v, e = .returned v) ∧ ∃ S, J ord S W'

/-- How the body of a round is left; N: how many blocks there were ahead of it. -/
def ownPost {α : Type} (N : Nat) (S : Nat → Prop) (I : List α → (Nat → Prop) → World → Prop) (xs : List α) (W : World) : Exit → Act → World → Prop
  | .normal, _, W' => ∃ S', W.heap.size ≤ W'.heap.size ∧ (∀ k, k < N → ¬ S k → W'.heap[k]? = W.heap[k]?) ∧ (∀ k, S' k → S k ∨ N ≤ k) ∧ I xs S' W'
  | _, _, _ => False

variable {F : Fence} {n : Nat} {P : Program}

theorem wpIn_rangeFunc_own {α : Type} {g : Operand} {ps : Array Tmp} {assign body : Code} {Q : Exit → Act → World → Prop} {a : Act} {w : World}
    (hro : F.round = none) (h1 : 1 ≤ n) {gf : Nat} {lb : Array Value} (hg : a.eval g = .func (.func gf) #[] lb) (hFg : F.fn gf) (eg : ∀ args w, (callFunc gf args).run P w = .ok (.enter gf args) w)
    {encs : α → Array Value} {Bad : Nat → Prop} {ord : List α} (hseq : SeqOwn F (n - 1) P gf lb encs Bad ord w) (hps : ∀ x, (encs x).size = ps.size)
    (hBad : ∀ k, Bad k → k < w.heap.size) (S0 : Nat → Prop) (hS0 : ∀ k, S0 k → k < w.heap.size ∧ ¬ Bad k)
    (I : List α → (Nat → Prop) → World → Prop) (hlt : ∀ s S A, I s S A → ∀ k, S k → k < A.heap.size) (hI : AbS w.heap.size I) (h0 : I [] S0 w) (a₁ : α → World → Act) (g₁ : α → World → World) (hg₁ : ∀ (x : α) (W : World), W.grownBy (g₁ x W) none)
    (hassign : ∀ (l : Nat) (x : α) (W : World) (K : Act → World → Prop), K (a₁ x W) (g₁ x W) →
      assign.wpIn (F.inRound l) (n - 1 - 1) P (Exit.then K (fun _ _ _ => False)) { tmps := (ps.zip (encs x)).foldl (fun t (p, v) => t.setIfInBounds p v) a.tmps, defers := [] } W)
    (hbody : ∀ (l : Nat) (pre : List α) (x : α) (S : Nat → Prop) (W W' : World), pre ++ [x] <+: ord → I pre S W' → W'.heap.size = (g₁ x W).heap.size → l < W.heap.size → (∀ k, k ≠ l → W'.heap[k]? = (g₁ x W).heap[k]?) → body.wpIn (F.inRound l) (n - 1 - 1) P (ownPost W.heap.size S I (pre ++ [x]) W') (a₁ x W) W')
    (hdone : ∀ (D : Nat) (S : Nat → Prop) (W : World), w.heap.size ≤ D → ¬ S D → I ord S W → W.heap[D]? = some (.deferred (some [])) → Q .normal { a with defers := { target := .collected D, args := #[] } :: a.defers } W) :
    (Code.rangeFunc g ps assign body).wpIn F n P Q a w := by
  refine wpIn_rangeFunc ?_
  intro fn hfn
  rw [hro]
  obtain ⟨rec, hrec⟩ : ∃ rec : LoopState → Option Code → Loop, rec = fun st pe => { state := st, pending := pe, fn, tmps := a.tmps, params := ps, assign, body, defers := w.heap.size } := ⟨_, rfl⟩
  obtain ⟨W1, hW1⟩ : ∃ W1, (w.alloc (.deferred (some []))).alloc (.loop (rec .ready none)) = W1 := ⟨_, rfl⟩
  have hz1 : W1.heap.size = w.heap.size + 2 := by rw [← hW1]; simp
  have hL1 : W1.heap[w.heap.size + 1]? = some (.loop (rec .ready none)) := by
    rw [← hW1]; have := heap_alloc_new (w.alloc (.deferred (some []))) (.loop (rec .ready none)); rwa [World.size_alloc] at this
  have hK1 : W1.heap[w.heap.size]? = some (.deferred (some [])) := by
    rw [← hW1]; exact (Below.heap_alloc _ _ _ (by simp)).trans (heap_alloc_new w _)
  have hI1 : I [] S0 W1 := by
    rw [← hW1]; exact hI _ _ _ _ none (hI _ _ _ _ none h0 (World.grownBy_alloc _ _ _) (fun r e => by cases e)) (World.grownBy_alloc _ _ _) (fun r e => by cases e)
  have hb1 : Below w.heap.size w W1 := by
    rw [← hW1]; exact ((Below.refl _ w).alloc (Nat.le_refl _) _).alloc (by simp) _
  refine ⟨w.heap.size + 1, [{ target := .collected w.heap.size, args := #[] }], W1, { target := .fn (.func gf) lb, args := #[.func (.yield (w.heap.size + 1)) #[] #[]] }, W1, gf,
    #[.func (.yield (w.heap.size + 1)) #[] #[]] ++ lb, W1, ?_, ?_, ?_, ?_, fun _ => h1, ?_⟩
  · rw [← hW1, hrec]; exact run_enterLoop_outer _ _ _ _ _
  · simp only [resolve, hg]
    simp [go_sem]
  · intro f' hf'; simp [Target.leads] at hf'; subst hf'; exact hFg
  · simp [invoke, go_sem, eg]
  · refine (hseq (w.heap.size + 1)
      (fun pre T W => ∃ S, (∀ k, T k ↔ S k ∨ k = w.heap.size + 1) ∧ I pre S W ∧ ¬ S (w.heap.size + 1) ∧ ¬ S w.heap.size ∧ W.heap[w.heap.size + 1]? = some (.loop (rec .ready none)) ∧ W.heap[w.heap.size]? = some (.deferred (some [])))
      W1 (fun k => S0 k ∨ k = w.heap.size + 1) hb1 ?_ ?_ ?_ ?_ ?_ ⟨S0, fun _ => Iff.rfl, hI1, fun h => by have := (hS0 _ h).1; omega, fun h => by have := (hS0 _ h).1; omega, hL1, hK1⟩).mono ?_
    · rintro k (hk | rfl)
      · exact (hS0 k hk).2
      · exact fun hb => by have := hBad _ hb; omega
    · rintro s T A ⟨S, hT, hi, _, _, hl, _⟩ k hk
      rcases (hT k).1 hk with hk | rfl
      · exact hlt _ _ _ hi k hk
      · exact (Array.getElem?_eq_some_iff.1 hl).1
    · rintro s T A A' row ⟨S, hT, hi, hs1, hs2, hl, hk⟩ hgr hr
      have hlt' := (Array.getElem?_eq_some_iff.1 hl).1
      refine ⟨S, hT, hI s S A A' row hi hgr (fun r e => ⟨by have := (hr r e).1; omega, fun h => (hr r e).2 ((hT r).2 (.inl h))⟩), hs1, hs2, (hgr.block _ hlt' ?_).trans hl, (hgr.block _ (by omega) ?_).trans hk⟩
      · intro e; exact (hr _ e.symm).2 ((hT _).2 (.inr rfl))
      · intro e; have := (hr _ e.symm).1; omega
    · rintro pre x T W hpre ⟨S, hT, hi, hs1, hs2, hl, hk⟩
      have hlt' : w.heap.size + 1 < W.heap.size := (Array.getElem?_eq_some_iff.1 hl).1
      have hy := run_yield (P := P) (args := encs x) hl (by rw [hrec]; exact hps x)
      rw [hrec] at hy
      have hgr := hg₁ x W
      have hz2 := hgr.size
      have hl0 : (g₁ x W).heap[w.heap.size + 1]? = some (.loop (rec .ready none)) := (hgr.block _ hlt' (by simp)).trans hl
      have hk0 : (g₁ x W).heap[w.heap.size]? = some (.deferred (some [])) := (hgr.block _ (by omega) (by simp)).trans hk
      refine ⟨fn, _, assign, body, hy, roundIn_of_wpIn hfn (hassign _ x W _ ⟨_, run_beginRound hl0 (by rw [hrec]), ?_⟩)⟩
      obtain ⟨V, hV⟩ : ∃ V, V = (g₁ x W).putObj (w.heap.size + 1) (.loop { rec .ready none with state := .busy }) := ⟨_, rfl⟩
      have hVz : V.heap.size = (g₁ x W).heap.size := by rw [hV]; simp
      have hl2 : V.heap[w.heap.size + 1]? = some (.loop { rec .ready none with state := .busy }) := by rw [hV]; exact World.putObj_heap_same (by omega)
      have hk2 : V.heap[w.heap.size]? = some (.deferred (some [])) := by rw [hV]; exact (World.putObj_heap_other (by omega)).trans hk0
      have hVo : ∀ k, k ≠ w.heap.size + 1 → V.heap[k]? = (g₁ x W).heap[k]? := fun k hk => by rw [hV]; exact World.putObj_heap_other (fun e => hk e)
      have hIV : I pre S V := by
        rw [hV]
        exact hI pre S _ _ (some (w.heap.size + 1)) (hI pre S W _ none hi hgr (fun r e => by cases e)) (grownBy_putObj' _ _ _) (fun r e => by cases e; exact ⟨by omega, hs1⟩)
      rw [← hV]
      refine wpIn_mono (hbody _ pre x S W V hpre hIV hVz hlt' hVo) ?_
      rintro e a3 W3 hp
      cases e with
      | normal =>
        obtain ⟨S', hz3, hk3, hsub, hi3⟩ := hp
        have hs1' : ¬ S' (w.heap.size + 1) := fun h => by rcases hsub _ h with h | h; exact hs1 h; omega
        have hs2' : ¬ S' w.heap.size := fun h => by rcases hsub _ h with h | h; exact hs2 h; omega
        have hl3 : W3.heap[w.heap.size + 1]? = some (.loop { rec .ready none with state := .busy }) := (hk3 _ hlt' hs1).trans hl2
        have hk4 : W3.heap[w.heap.size]? = some (.deferred (some [])) := (hk3 _ (by omega) hs2).trans hk2
        have hr := run_endRound (P := P) none hl3
        rw [hrec] at hr
        refine ⟨_, _, hr, rfl, fun k => S' k ∨ k = w.heap.size + 1, ⟨S', fun _ => Iff.rfl, hI _ S' W3 _ (some (w.heap.size + 1)) hi3 (grownBy_putObj' _ _ _) (fun r e => by cases e; exact ⟨by omega, hs1'⟩), hs1', hs2', ?_, (World.putObj_heap_other (by omega)).trans hk4⟩, ?_, ?_⟩
        · rw [hrec]; exact World.putObj_heap_same (Array.getElem?_eq_some_iff.1 hl3).1
        · rintro k (h | rfl)
          · exact (hsub k h).imp (fun h => (hT k).2 (.inl h)) id
          · exact .inl ((hT _).2 (.inr rfl))
        · refine ⟨by simp; omega, fun k hk' hx => ?_⟩
          have hkl : k ≠ w.heap.size + 1 := fun e => hx ((hT k).2 (.inr e))
          have hkS : ¬ S k := fun e => hx ((hT k).2 (.inl e))
          exact (World.putObj_heap_other (fun e => hkl e)).trans ((hk3 k hk' hkS).trans ((hVo k hkl).trans (hgr.block k hk' (by simp))))
      | ret => exact hp.elim
      | exit id => exact hp.elim
      | goto t => exact hp.elim
      | panic ch => exact hp.elim
      | outgrown => exact hp.elim
    · rintro k (hk | rfl)
      · have := (hS0 k hk).1; omega
      · omega
    · rintro e W2 ⟨⟨v, rfl⟩, T, S, hT, hi, hs1, hs2, hl, hk⟩
      exact ⟨none, _, by have := run_endLoop (P := P) hl (by rw [hrec]; simp); rw [hrec] at this; exact this, hdone _ S _ (Nat.le_refl _) hs2 (hI _ S W2 _ (some (w.heap.size + 1)) hi (grownBy_putObj' _ _ _) (fun r e => by cases e; exact ⟨by omega, hs1⟩)) ((World.putObj_heap_other (by omega)).trans hk)⟩
end Go.Proofs.YthbnegggohegkaaGreatDoor
namespace Go.Proofs.YthbnegggohegkaaGreatDoor
open Go.RowKit Go.Shelf

attribute [local go_sem] Oper.semAt_some

/-- An append to a row that the call owns: it stays where it is, or lies in the next new block. -/
theorem wpListIn_append_there {F : Fence} {n : Nat} {P : Program} (w : World) {ops : Array Oper} {rest : List Oper} {o : Oper} {a : Act} {Q : Exit → Act → World → Prop}
    (hg : o.guard = none) (s x : Operand) (t : TypeId) (hop : o.op = Op.call { callee := Callee.builtin Builtin.append, args := #[s, x], argTypes := #[t, t] })
    (base : Nat) (e : TypeId) (i : TypeInfo) (z : Value) (size bytes : Nat) (h1 : P.underlying t = some (.slice e)) (h2 : P.info? e = some i) (h3 : i.zero = some z) (h4 : i.size = size) (h5 : i.bytes = bytes) (h6 : z.cells.size = size) (h7 : 0 < size)
    (v : Value) (k : Nat) (xs : List Value) (hs : a.eval s = v) (hown : w.ownsRow base e size v k xs) (ad : Addr) (m c : Nat) (news : List Value) (hx : a.eval x = .slice (some ad) m c) (hn : news.length = m * size)
    (hc : ∀ j u, news[j]? = some u → w.cell? (ad.add j) = some u) (h1c : ∀ u ∈ news, u.oneCell' = true) (b1 : k + m ≤ maxLen) (b2 : (k + m) * bytes ≤ 140737488355328) (b3 : base ≤ w.heap.size)
    (hK : ∀ v' w', w'.ownsRow base e size v' (k + m) (xs ++ news) → w.grownBy w' v.ownBlock → (v'.ownBlock = v.ownBlock ∨ v'.ownBlock = some w.heap.size) → wpListIn F n P ops Q rest (a.put o.dst v') w') :
    wpListIn F n P ops Q (o :: rest) a w := by
  obtain ⟨v', w', hrun, r1, r2, _, r4⟩ := run_append_own_at (P := P) w base t o.type e i z size bytes h1 h2 h3 h4 h5 h6 h7 v k xs hown ad m c news hn hc h1c b1 b2 b3
  refine wpListIn_plain hg fun K hK' => ?_
  unfold Oper.wpIn
  constructor
  · simp [hop, Oper.about, resolve, Sem.run_pure, Target.leads]
  · rw [Oper.semAt_plain F _ _ (by rw [hop]; intro c hc'; cases hc')]
    simp [hop, hs, hx, hrun, execOp, resolve, invoke, builtin, Result.andThen]
    exact hK' _ _ (hK v' w' r1 r2 r4)

set_option maxRecDepth 100000 in
set_option maxHeartbeats 2000000 in
theorem nodes1_own (n : Nat) (hn : 1 ≤ n) (t : MT) (m : Nat) (hm : m ≤ 1000001) (Bn Bm B : Nat) (w : World) (hBn : BoxAt w Bn t) (hBm : w.cell? ⟨Bm, 0, none⟩ = some (.int .i64 m)) (ht : t.In B w) (hB : B ≤ w.heap.size) (hn' : Bn < w.heap.size) (hm' : Bm < w.heap.size) :
    SeqOwn Fence.wide n Tryz.prog 59 #[.pointer (some ⟨Bn, 0, none⟩), .pointer (some ⟨Bm, 0, none⟩)] (fun x : Nat × MT => #[.int .i64 x.1, nodeV x.2]) (fun k => k < B ∨ k = Bn ∨ k = Bm) ((MT.ord 1 t).take m) w := by
  intro l J W S0 hW hX hSl hJ hY hS0 h0
  have hBn' := hBn.below hn' hW
  have hBm2 : W.cell? ⟨Bm, 0, none⟩ = some (.int .i64 m) := (hW.cell (p := ⟨Bm, 0, none⟩) hm').trans hBm
  have ht' := MT.In.below (hW.mono hB) t ht
  have hz := hW.size
  obtain ⟨k0, k1, k2, k3, k4⟩ := hBn'
  refine callsIn_of_wp Tryz.func59 rfl trivial ?_ rfl
  simp only [Tryz.ntmps59, List.size_toArray, List.length_cons, List.length_nil, Nat.reduceAdd, Nat.reduceSub, Array.replicate_succ, Array.replicate_zero, List.push_toArray, List.append_toArray, List.nil_append, List.cons_append]
  gi_wp2
  clear k0 k1 k2 k3 k4
  gi_loopg [4, 5] (2 * t.size + 1) (fun gk v s wr => ∃ (pre : List (Nat × MT)) (fs : List R1) (S : Nat → Prop), gk = 2 * sizes fs + fs.length ∧ s = .int .i64 pre.length ∧ NoInv (MT.ord 1 t) B W.heap.size Bm m pre fs v wr ∧ J pre S wr ∧ Hid (∀ k, S k → ¬ (k < B ∨ k = W.heap.size ∨ k = Bm ∨ v.ownBlock = some k)))
  case atStart =>
    have hb5 : ∀ k o, k < W.heap.size → ((W.alloc (nodeO t)).alloc (.cells #[.slice (some ⟨W.heap.size, 0, none⟩) 1 1] 22)).cell? ⟨k, o, none⟩ = W.cell? ⟨k, o, none⟩ := fun k o hk =>
      (World.cell?_alloc_lt _ _ _ (by show k < _; simp; omega)).trans (World.cell?_alloc_lt _ _ _ hk)
    have hc2 : MT.CellsAt ((W.alloc (nodeO t)).alloc (.cells #[.slice (some ⟨W.heap.size, 0, none⟩) 1 1] 22)) W.heap.size 0 t := by
      have h1 := (BoxAt.new W t).below (B := W.heap.size + 1) (by omega) ((Below.refl _ _).alloc (by simp) (.cells #[.slice (some ⟨W.heap.size, 0, none⟩) 1 1] 22))
      exact ⟨h1.k0, h1.k1, h1.k2, h1.k3, h1.k4⟩
    refine ⟨[], [R1.mk (some ⟨W.heap.size, 0, none⟩) 1 [t]], S0, by simp [sizes, MT.sizeL], rfl, ⟨?_, ⟨_, _, rfl⟩, ?_, by simp, by simp, ?_, by simp, ?_⟩, ?_, ?_⟩
    · refine ⟨rfl, .inr ⟨W.heap.size + 1, 1, #[.slice (some ⟨W.heap.size, 0, none⟩) 1 1], rfl, Nat.le_refl _, ?_, Nat.le_refl _, by unfold maxLen; omega, rfl, rfl⟩⟩
      have := heap_alloc_new (W.alloc (nodeO t)) (.cells #[.slice (some ⟨W.heap.size, 0, none⟩) 1 1] 22)
      rwa [World.size_alloc] at this
    · intro f hf
      simp only [List.mem_cons, List.not_mem_nil, or_false] at hf
      subst hf
      refine ⟨Nat.le_refl _, by unfold maxLen; simp only; omega, .inr ⟨W.heap.size, 0, rfl, .inr rfl, ?_⟩⟩
      rw [MT.InL]
      exact ⟨hc2, MT.In.keep (fun k o hk => hb5 k o (by omega)) t ht', by rw [MT.InL]; trivial⟩
    · simp [rem, remT, MT.ordL_cons, MT.ordL_nil]
    · exact (hb5 Bm 0 (by omega)).trans hBm2
    · exact hJ _ _ _ _ none (hJ _ _ _ _ none h0 (World.grownBy_alloc _ _ _) (fun r e => by cases e)) (World.grownBy_alloc _ _ _) (fun r e => by cases e)
    · intro k hk hc
      have h1 := hX k hk
      have h2 := hS0 k hk
      simp only [Value.ownBlock, Option.some.injEq] at hc
      rcases hc with hc | hc | hc | hc
      · exact h1 (.inl hc)
      · omega
      · exact h1 (.inr (.inr hc))
      · omega
  case round =>
    obtain ⟨pre, fs, S, hgk, rfl, hI, hJp, HF⟩ := hrel
    have hbm := hI.box
    rcases two_cases fs with rfl | ⟨gs, f, rfl⟩
    · obtain ⟨g, cap, rfl⟩ := hI.some_
      gi_wp2
      go_end0
      refine ⟨⟨_, rfl⟩, ?_⟩
      rw [hI.all, rem_nil, List.append_nil, List.take_of_length_le hI.le]; exact ⟨S, hJp⟩
    · obtain ⟨g, cap, rfl⟩ := hI.some_
      have hown := hI.own
      have hfin := hI.rows f (by simp)
      have hln : (gs ++ [f]).length = gs.length + 1 := by simp
      rw [hln] at hown
      rw [hln]
      obtain ⟨t0, f0⟩ := own_cell hown gs.length f.cell (by simp)
      obtain ⟨hcapl, hgl, hgb⟩ : gs.length + 1 ≤ cap ∧ g < wr.heap.size ∧ W.heap.size + 1 ≤ g := by
        rcases hown.2 with ⟨h0, _⟩ | ⟨g', cap', cur, hv, hgb, hg, hn, _⟩
        · cases h0
        · cases hv; exact ⟨hn, (Array.getElem?_eq_some_iff.1 hg).1, hgb⟩
      have hfew : gs.length ≤ 1000001 := by have := hI.few; have := hI.le; rw [hln] at *; omega
      have hbig := hI.big
      have HI : Hid (NoInv (MT.ord 1 t) B W.heap.size Bm m pre (gs ++ [f]) (.slice (some ⟨g, 0, none⟩) (gs ++ [f]).length cap) wr) := hI
      have HG : Hid (gk = 2 * sizes (gs ++ [f]) + (gs ++ [f]).length) := hgk
      have HW : Hid (wr.ownsRow (W.heap.size + 1) 22 1 (.slice (some ⟨g, 0, none⟩) (gs.length + 1) cap) (gs.length + 1) ((gs ++ [f]).map R1.cell)) := hown
      have hle := hI.le
      clear hI hgk hown hln
      obtain ⟨p, c, xs⟩ := f
      simp only [R1.cell] at t0
      by_cases hlt : pre.length < m
      · cases xs with
        | nil =>
          gi_wp2
          gi_roundg (2 * sizes gs + gs.length)
          case measure => have := HG.out; simp [sizes_append, sizes] at this; omega
          case rel =>
            have hI := HI.out
            refine ⟨pre, gs, S, rfl, rfl, ⟨?_, ⟨g, cap, rfl⟩, fun f hf => hI.rows f (by simp [hf]), by have := hI.few; simp at this; omega, hle, ?_, hbig, hbm⟩, hJp, HF⟩
            · have := own_cut HW.out gs.length (by omega)
              simpa using this
            · rw [hI.all, rem_snoc]; simp [MT.ordL_nil]
        | cons x xs =>
          obtain ⟨hl1, hm1, hr1⟩ := hfin
          obtain ⟨b1, o1, hp, hb1, hL1⟩ := hr1.resolve_left (by simp)
          simp only at hp hl1 hm1
          subst hp
          rw [MT.InL] at hL1
          obtain ⟨⟨c0, c1, c2, c3, c4⟩, hx, hLx⟩ := hL1
          clear hr1
          simp only [List.length_cons] at t0 hl1
          unfold maxLen at hm1
          have hb1' : b1 < wr.heap.size := by omega
          have hord : MT.ord 1 t = pre ++ ((gs.length + 1, x) :: (MT.ordL (gs.length + 1 + 1) x.kids ++ (MT.ordL (gs.length + 1) xs ++ rem gs))) := by
            rw [HI.out.all, rem_snoc, MT.ordL_cons, MT.ord_eq]; simp
          have hpre : pre ++ [(gs.length + 1, x)] <+: (MT.ord 1 t).take m := by
            rw [List.prefix_take_iff]
            refine ⟨⟨MT.ordL (gs.length + 1 + 1) x.kids ++ (MT.ordL (gs.length + 1) xs ++ rem gs), ?_⟩, by simp; omega⟩
            rw [hord]; simp
          have HO : Hid (MT.ord 1 t = pre ++ ((gs.length + 1, x) :: (MT.ordL (gs.length + 1 + 1) x.kids ++ (MT.ordL (gs.length + 1) xs ++ rem gs)))) := hord
          obtain ⟨fn, tmps, assign, body, hy, hR⟩ := hY pre (gs.length + 1, x) S (wr.alloc (nodeO x)) hpre (hJ _ _ _ _ none hJp (World.grownBy_alloc _ _ _) (fun r e => by cases e))
          clear hord hpre
          rw [show (((gs.length + 1, x) : Nat × MT).fst : Int) = (gs.length : Int) + 1 by simp] at hy
          dsimp only [nodeV, nodeO] at hy
          gi_wp2
          refine hR.mono ?_
          rintro e W3 ⟨rfl, S', hJ3, hsub, hk3⟩
          clear hy hR
          have hz3 := hk3.size
          simp only [World.size_alloc] at hz3
          have hXn : ∀ k, k < B ∨ k = W.heap.size ∨ k = Bm ∨ k = g ∨ wr.heap.size ≤ k → ¬ S k := by
            intro k hk hx
            have h2 := HF.out k hx
            rcases hk with hk | hk | hk | hk | hk
            · exact h2 (.inl hk)
            · exact h2 (.inr (.inl hk))
            · exact h2 (.inr (.inr (.inl hk)))
            · exact h2 (.inr (.inr (.inr (by rw [hk]; rfl))))
            · have := hSl _ _ _ hJp k hx; omega
          have HXN : Hid (∀ k, k < B ∨ k = W.heap.size ∨ k = Bm ∨ k = g → ¬ S' k) := by
            intro k hk hx
            rcases hsub k hx with h | h
            · exact hXn k (by omega) h
            · simp only [World.size_alloc] at h
              omega
          have HS3 : Hid (∀ k, S' k → k < W3.heap.size) := hSl _ _ _ hJ3
          have t3 : W3.cell? ⟨g, gs.length, none⟩ = some (.slice (some ⟨b1, o1, none⟩) (xs.length + 1) c) :=
            (hk3.cell (by simp; omega) (hXn g (by simp))).trans ((World.cell?_alloc_lt _ _ _ (by show g < _; omega)).trans t0)
          have f3 : W3.frozen? ⟨g, gs.length, none⟩ = false :=
            (hk3.frozen (by simp; omega) (hXn g (by simp))).trans ((World.frozen?_of_block (a := ⟨g, gs.length, none⟩) (Below.heap_alloc wr _ g hgl)).trans f0)
          have n3 : W3.cell? ⟨wr.heap.size, 4, none⟩ = some (.slice x.ptr x.kids.length x.cap) :=
            (hk3.cell (by simp) (hXn _ (by omega))).trans (BoxAt.new wr x).k4
          obtain ⟨p1, hp1⟩ : ∃ p1, (if c = 1 then some (⟨b1, o1, none⟩ : Addr) else some ⟨b1, o1 + 5, none⟩) = p1 := ⟨_, rfl⟩
          have HP1 : Hid (xs = [] ∨ p1 = some ⟨b1, o1 + 5, none⟩) := by
            cases xs with
            | nil => exact .inl rfl
            | cons x' xs' => exact .inr (by rw [← hp1, if_neg (by simp at hl1; omega)])
          have hblk3 : ∀ k, k < wr.heap.size → ¬ S k → W3.heap[k]? = wr.heap[k]? := fun k hk hx => (hk3.same k (by simp; omega) hx).trans (Below.heap_alloc wr _ k hk)
          have hown4 : (W3.setCell ⟨g, gs.length, none⟩ (.slice p1 xs.length (c - 1))).ownsRow (W.heap.size + 1) 22 1 (.slice (some ⟨g, 0, none⟩) (gs.length + 1) cap) (gs.length + 1) ((gs ++ [R1.mk p1 (c - 1) xs]).map R1.cell) := by
            have h1 := own_set (own_same HW.out (hblk3 g hgl (hXn g (by simp)))) gs.length (.slice p1 xs.length (c - 1))
            rw [List.map_append, List.set_append_right _ _ (by simp), List.length_map, Nat.sub_self] at h1
            rw [List.map_append]
            exact h1
          obtain ⟨i0, hi, hz0, hz1, hz2⟩ := info_parts info22
          have HB3 : Hid (∀ k, k < wr.heap.size → ¬ S k → W3.heap[k]? = wr.heap[k]?) := hblk3
          have HJ3 : Hid (J (pre ++ [(gs.length + 1, x)]) S' W3) := hJ3
          clear hblk3 hJ3 hk3 hsub
          gi_wp2_with (gi_at_builtin; refine wpListIn_append_there _ rfl _ _ 111 rfl (W.heap.size + 1) 22 i0 (.slice none 0 0) 1 24 Tryz.underlying111 hi hz0 hz1 hz2 rfl (by decide) _ _ _ rfl (hown4.alloc _) ⟨W3.heap.size, 0, none⟩ 1 1 [.slice x.ptr x.kids.length x.cap] rfl rfl ?_ (by simp [Value.oneCell']) (by unfold maxLen; omega) (by omega) (by simp; omega) ?_; exact one_new _ _ _ _ (by simp); intro v' w6 hown6 hgr6 hthere)
          have hsx := MT.size_eq x
          have hblk : ∀ k, k < wr.heap.size → k ≠ g → ¬ S k → w6.heap[k]? = wr.heap[k]? := fun k hk hkg hx =>
            (((hgr6.block k (by simp; omega) (fun e => by cases e; exact hkg rfl)).trans (Below.heap_alloc _ _ k (by simp; omega))).trans (Below.heap_setCell W3 ⟨g, gs.length, none⟩ _ k hkg)).trans (HB3.out k hk hx)
          have hcl : ∀ k o, k < B ∨ k = W.heap.size → w6.cell? ⟨k, o, none⟩ = wr.cell? ⟨k, o, none⟩ := fun k o hk =>
            World.cell?_of_block (a := ⟨k, o, none⟩) (hblk k (by omega) (by omega) (hXn k (by omega)))
          have hz6 := hgr6.size
          simp only [World.size_alloc, World.size_setCell] at hz6
          have hJ6 : J (pre ++ [(gs.length + 1, x)]) S' w6 :=
            hJ _ _ _ _ _ (hJ _ _ _ _ none (hJ _ _ _ _ _ HJ3.out (grownBy_set W3 g gs.length _) (fun r e => by have e' : some g = some r := e; cases e'; exact ⟨by omega, HXN.out g (by simp)⟩)) (World.grownBy_alloc _ _ _) (fun r e => by cases e)) hgr6 (fun r e => by have e' : some g = some r := e; cases e'; exact ⟨by omega, HXN.out g (by simp)⟩)
          have HF6 : Hid (∀ k, S' k → ¬ (k < B ∨ k = W.heap.size ∨ k = Bm ∨ v'.ownBlock = some k)) := by
            intro k hk hc
            rcases hc with hc | hc | hc | hc
            · exact HXN.out k (.inl hc) hk
            · exact HXN.out k (.inr (.inl hc)) hk
            · exact HXN.out k (.inr (.inr (.inl hc))) hk
            · rcases hthere with h | h
              · have e : some g = some k := h.symm.trans hc
                cases e
                exact HXN.out g (by simp) hk
              · have e := h.symm.trans hc
                simp only [World.size_alloc, World.size_setCell, Option.some.injEq] at e
                have := HS3.out k hk
                omega
          gi_roundg (2 * sizes (gs ++ [R1.mk p1 (c - 1) xs, R1.mk x.ptr x.cap x.kids]) + (gs ++ [R1.mk p1 (c - 1) xs, R1.mk x.ptr x.cap x.kids]).length)
          case measure => have := HG.out; simp [sizes_append, sizes, MT.sizeL] at this ⊢; omega
          case rel =>
            have hI := HI.out
            refine ⟨pre ++ [(gs.length + 1, x)], _, S', rfl, by simp, ⟨?_, ?_, ?_, ?_, ?_, ?_, ?_, ?_⟩, hJ6, HF6⟩
            · have e1 : (gs ++ [R1.mk p1 (c - 1) xs, R1.mk x.ptr x.cap x.kids]).map R1.cell = (gs ++ [R1.mk p1 (c - 1) xs]).map R1.cell ++ [.slice x.ptr x.kids.length x.cap] := by simp [R1.cell]
              rw [e1, show (gs ++ [R1.mk p1 (c - 1) xs, R1.mk x.ptr x.cap x.kids]).length = gs.length + 1 + 1 by simp]
              exact hown6
            · rw [show (gs ++ [R1.mk p1 (c - 1) xs, R1.mk x.ptr x.cap x.kids]).length = gs.length + 1 + 1 by simp]
              rcases hown6.2 with ⟨h0, h1⟩ | ⟨g', cap', cur, hv, _⟩
              · omega
              · exact ⟨g', cap', hv⟩
            · intro f hf
              simp only [List.mem_append, List.mem_cons, List.not_mem_nil, or_false] at hf
              rcases hf with hf | rfl | rfl
              · exact (hI.rows f (by simp [hf])).keep hcl
              · refine ⟨by simp only; omega, by unfold maxLen; simp only; omega, ?_⟩
                exact HP1.out.imp id fun h => ⟨b1, o1 + 5, h, hb1, MT.InL.keep (fun k o hk => hcl k o (.inl hk)) b1 (o1 + 5) (fun o => hcl b1 o hb1) xs hLx⟩
              · have h1 := MT.In.keep (fun k o hk => hcl k o (.inl hk)) x hx
                exact ⟨h1.len_le, h1.cap_le, h1.kidsL.imp id fun ⟨b, o, hp, hlt, hl⟩ => ⟨b, o, hp, .inl hlt, hl⟩⟩
            · have := hI.few; simp at this ⊢; omega
            · simp; omega
            · rw [HO.out, show gs ++ [R1.mk p1 (c - 1) xs, R1.mk x.ptr x.cap x.kids] = (gs ++ [R1.mk p1 (c - 1) xs]) ++ [R1.mk x.ptr x.cap x.kids] by simp, rem_snoc, rem_snoc]; simp
            · omega
            · exact (World.cell?_of_block (a := ⟨Bm, 0, none⟩) (hblk Bm (by omega) (by omega) (hXn Bm (by omega)))).trans hbm
      · gi_wp2
        go_end0
        refine ⟨⟨_, rfl⟩, ?_⟩
        rw [HI.out.all, List.take_left' (by omega)]; exact ⟨S, hJp⟩
end Go.Proofs.YthbnegggohegkaaGreatDoor
