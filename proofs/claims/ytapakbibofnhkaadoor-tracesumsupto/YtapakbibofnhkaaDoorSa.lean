/-
  What the law TraceSums asks: appends of lists that may be none, sums of counts, where lists part.
-/
import Derived.Test.YtapakbibofnhkaaDoorLd
import Derived.Test.YtapakbibofnhkaaDoorXa
import Derived.Deep.AppendSrc
import Derived.Deep.Upon
namespace Go.Proofs.YtapakbibofnhkaaDoor
open Go.RowKit Go.ChangeMaps

theorem wpList_append_evs {w : World} {ops : Array Oper} {rest : List Oper} {o : Oper} {a : Act} {Q : Exit → Act → World → Prop} (hgd : o.guard = none) (s x : Operand)
    (ho : o.op = .call { callee := .builtin .append, args := #[s, x], argTypes := #[22, 22] })
    (base : Nat) (v : Value) (xs : List Ev) (hs : a.eval s = v) (hown : w.ownsRow base 33 3 v xs.length (evCells xs)) (l : List Ev) (pp : Option Addr) (c : Nat) (hx : a.eval x = .slice pp l.length c) (he : EvsAt w pp l)
    (hsz : (xs.length + l.length) * 32 ≤ 140737488355328) (hbase : base ≤ w.heap.size)
    (h : ∀ v' w', w'.ownsRow base 33 3 v' (xs ++ l).length (evCells (xs ++ l)) → w.grownBy w' v.ownBlock → wpList Tryd.prog ops Q rest (a.put o.dst v') w') : wpList Tryd.prog ops Q (o :: rest) a w := by
  obtain ⟨i0, hi, hz0, hz1, hz2⟩ := info_parts info33
  by_cases hl : l = []
  · subst hl
    rw [List.append_nil] at h
    refine wpList_plain hgd fun K hK => ?_
    have hsrc : Src Tryd.prog i0.size 22 (.slice pp 0 c) 0 [] w := by
      cases pp with
      | none => exact Src.ofNil w Tryd.underlying22 c
      | some ad => exact Src.ofSlice w Tryd.underlying22 ad 0 c [] (by simp) (fun j u hj => by simp at hj) (fun u hu => by cases hu)
    obtain ⟨b, n, k, rfl, hle⟩ : ∃ b n k, v = .slice b n k ∧ n ≤ k := by
      rcases hown.2 with ⟨h0, _⟩ | ⟨g, cap, cur, h1, _, _, hc, _⟩
      · exact ⟨_, _, _, h0, Nat.le_refl _⟩
      · exact ⟨_, _, _, h1, hc⟩
    have hr := run_append_nothing (P := Tryd.prog) w 22 22 o.type 33 i0 Tryd.underlying22 hi b n k hle _ hsrc
    unfold Oper.wp execOp
    have hx' : a.eval x = .slice pp 0 c := hx
    simp only [ho, resolve, invoke, builtin, Sem.run_bind, Sem.run_pure, Result.andThen_ok, List.map_toArray, List.map_cons, List.map_nil, hs, hx', hr]
    exact hK _ _ (h _ w hown (World.grownBy.refl _ _))
  · obtain ⟨b, f, rfl, hb, hce⟩ := he.nonempty (List.length_pos_iff.2 hl)
    refine wpList_append_own w hgd s x 22 ho base 33 i0 _ 3 32 Tryd.underlying22 hi hz0 hz1 hz2 rfl (by decide) v xs.length (evCells xs) hs hown ⟨b, f, none⟩ l.length c (evCells l) hx (evCells_len l) (evsAt_src hce) (evCells_one l) (by unfold maxLen; omega) hsz hbase ?_
    intro v' w' h1 h2 _
    refine h v' w' ?_ h2
    rw [evCells_app, List.length_append]
    exact h1
theorem bump_len (cs : List Int) (j : Nat) : (bump cs j).length = cs.length := by simp [bump]
theorem bump_getD (cs : List Int) (j i : Nat) : (bump cs j).getD i 0 = cs.getD i 0 + if i = j ∧ j < cs.length then 1 else 0 := by
  unfold bump
  simp only [List.getD_eq_getElem?_getD, List.getElem?_set]
  by_cases h1 : j = i
  · subst h1
    by_cases h2 : j < cs.length
    · simp [h2]
    · simp [h2]
  · rw [if_neg h1, if_neg (fun q => h1 q.1.symm)]
    simp
def tF (s : ByteArray) (cs : List Int) (e : Ev) : List Int := if hit s e then bump cs (nf s.data.toList e.a.toNat) else cs
theorem tF_len (s : ByteArray) (cs : List Int) (e : Ev) : (tF s cs e).length = cs.length := by
  unfold tF; split
  · exact bump_len _ _
  · rfl
theorem fold_len (s : ByteArray) : ∀ (b : List Ev) (cs : List Int), (b.foldl (tF s) cs).length = cs.length
  | [], _ => rfl
  | e :: b, cs => by rw [List.foldl_cons, fold_len s b, tF_len]
theorem fold_add (s : ByteArray) : ∀ (b : List Ev) (cs ds : List Int), cs.length = ds.length → ∀ i, (b.foldl (tF s) cs).getD i 0 - cs.getD i 0 = (b.foldl (tF s) ds).getD i 0 - ds.getD i 0
  | [], cs, ds, _, i => by simp
  | e :: b, cs, ds, h, i => by
    have h1 := fold_add s b (tF s cs e) (tF s ds e) (by rw [tF_len, tF_len, h]) i
    rw [List.foldl_cons, List.foldl_cons]
    have h2 : (tF s cs e).getD i 0 - cs.getD i 0 = (tF s ds e).getD i 0 - ds.getD i 0 := by
      unfold tF
      split
      · rw [bump_getD, bump_getD, h]; omega
      · omega
    omega
theorem tally_eq (s : ByteArray) (l : List Ev) : tally s l = l.foldl (tF s) (List.replicate (nf s.data.toList s.size + 1) 0) := rfl
theorem tally_len (s : ByteArray) (l : List Ev) : (tally s l).length = nf s.data.toList s.size + 1 := by rw [tally_eq, fold_len]; simp
theorem tally_app (s : ByteArray) (a b : List Ev) (i : Nat) : (tally s (a ++ b)).getD i 0 = (tally s a).getD i 0 + (tally s b).getD i 0 := by
  have h1 := fold_add s b (tally s a) (List.replicate (nf s.data.toList s.size + 1) 0) (by rw [tally_len]; simp) i
  have h2 : tally s (a ++ b) = b.foldl (tF s) (tally s a) := by rw [tally_eq, List.foldl_append]; rfl
  have h3 : (List.replicate (nf s.data.toList s.size + 1) (0 : Int)).getD i 0 = 0 := by
    simp only [List.getD_eq_getElem?_getD, List.getElem?_replicate]; split <;> rfl
  rw [h2]
  rw [← tally_eq s b, h3] at h1
  omega
theorem pre_self : ∀ a : List Ev, pre a a = a.length
  | [] => rfl
  | x :: a => by simp only [pre, Ev.same_iff.2 rfl, if_true, pre_self a, List.length_cons]
theorem pre_app : ∀ a b : List Ev, pre a (a ++ b) = a.length
  | [], b => by cases b <;> rfl
  | x :: a, b => by simp only [List.cons_append, pre, Ev.same_iff.2 rfl, if_true, pre_app a b, List.length_cons]
theorem diff_self (a : List Ev) : diff a a = -1 := by unfold diff; rw [pre_self, if_pos ⟨rfl, rfl⟩]
theorem diff_app (a b : List Ev) : diff a (a ++ b) = if 0 < b.length then (a.length : Int) else -1 := by
  unfold diff
  rw [pre_app, List.length_append]
  by_cases h : 0 < b.length
  · rw [if_pos h, if_neg (by omega)]
  · rw [if_neg h, if_pos ⟨rfl, by omega⟩]
theorem pre_same : ∀ (a b : List Ev) (i : Nat), i < pre a b → a[i]? = b[i]?
  | [], b, i, h => by simp [pre] at h
  | x :: a, [], i, h => by simp [pre] at h
  | x :: a, y :: b, i, h => by
    simp only [pre] at h
    by_cases hs : x.same y = true
    · rw [if_pos hs] at h
      cases i with
      | zero => simp [Ev.same_iff.1 hs]
      | succ i => simpa using pre_same a b i (by omega)
    · rw [if_neg hs] at h; omega
theorem pre_stop (a b : List Ev) (ha : pre a b < a.length) (hb : pre a b < b.length) : a[pre a b].same b[pre a b] = false := by
  cases h : a[pre a b].same b[pre a b] with
  | false => rfl
  | true => have := (pre_step a b (pre a b) (Nat.le_refl _) ha hb).1 h; omega
/-- The counts, or none where the text is long. -/
def tL (s : ByteArray) (l : List Ev) : List Int := if s.size ≤ 60000 then tally s l else []
def tN (s : ByteArray) : Nat := if s.size ≤ 60000 then nf s.data.toList s.size + 1 else 0
theorem tL_len (s : ByteArray) (l : List Ev) : (tL s l).length = tN s := by
  unfold tL tN
  split
  · exact tally_len s l
  · rfl
theorem tL_app (s : ByteArray) (a b : List Ev) (i : Nat) : (tL s (a ++ b)).getD i 0 = (tL s a).getD i 0 + (tL s b).getD i 0 := by
  unfold tL
  split
  · exact tally_app s a b i
  · rfl
theorem tN_le (s : ByteArray) : tN s ≤ 60001 := by
  unfold tN
  split
  · have := feedsFrom_len (s.data.toList.take s.size) 0
    unfold nf
    simp at this ⊢
    omega
  · omega
/-- A row of numbers. -/
def RowI (w : World) (p : Option Addr) (xs : List Int) : Prop := xs = [] ∨ ∃ g, p = some ⟨g, 0, none⟩ ∧ w.heap[g]? = some (.cells (xs.map (Value.int .i64)).toArray 3)
theorem RowI.below {w w' : World} {p : Option Addr} {xs : List Int} (h : RowI w p xs) (hb : Below w.heap.size w w') : RowI w' p xs := by
  rcases h with h | ⟨g, h1, h2⟩
  · exact .inl h
  · exact .inr ⟨g, h1, blk h2 hb⟩
theorem lines_all (s : ByteArray) (l : List Ev) (pp : Option Addr) (c : Nat) (w : World) (he : EvsAt w pp l) (hl : l.length * 32 ≤ 140737488355328) :
    Calls Tryd.prog 13 #[.string s, .slice pp l.length c] w fun r w' => ∃ p, r = .returned (.slice p (tN s) (tN s)) ∧ Below w.heap.size w w' ∧ RowI w' p (tL s l) ∧ ∀ x ∈ tL s l, 0 ≤ x ∧ x ≤ (l.length : Int) := by
  by_cases hs : s.size ≤ 60000
  · refine (lines_any s l pp c w hs he hl).mono ?_
    rintro r w' ⟨gc, h1, h2, _, h3, h4, _⟩
    refine ⟨some ⟨gc, 0, none⟩, ?_, h2, ?_, ?_⟩
    · rw [h1]; unfold tN; rw [if_pos hs]
    · unfold tL; rw [if_pos hs]; exact .inr ⟨gc, rfl, h3⟩
    · unfold tL; rw [if_pos hs]; exact h4
  · refine (lines_big s _ w (by omega)).mono ?_
    rintro r w' ⟨h1, h2⟩
    subst h2
    refine ⟨none, ?_, Below.refl _ _, ?_, ?_⟩
    · rw [h1]; unfold tN; rw [if_neg hs]
    · unfold tL; rw [if_neg hs]; exact .inl rfl
    · unfold tL; rw [if_neg hs]; intro x hx; cases hx
theorem getD_mem (xs : List Int) (i : Nat) (hi : i < xs.length) : xs[i]? = some (xs.getD i 0) ∧ xs.getD i 0 ∈ xs := by
  rw [List.getD_eq_getElem?_getD, List.getElem?_eq_getElem hi]
  exact ⟨rfl, List.getElem_mem hi⟩
end Go.Proofs.YtapakbibofnhkaaDoor
