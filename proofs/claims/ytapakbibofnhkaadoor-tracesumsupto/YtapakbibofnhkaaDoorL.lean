/-
  A map keyed by marks (a place and a text): found, laid anew, laid over, taken out.
-/
import Derived.Test.YtapakbibofnhkaaDoorF
import Derived.WideKeyRuns
namespace Go.Proofs.YtapakbibofnhkaaDoor
open Go.RowKit Go.ChangeMaps

/-- A mark. -/
abbrev Mk := Int × ByteArray
/-- Its value. -/
def mkV (m : Mk) : Value := .agg #[.int .i64 m.1, .string m.2]
def keq (x y : Mk) : Bool := x.1 == y.1 && x.2 == y.2
theorem keq_iff {x y : Mk} : keq x y = true ↔ x = y := by
  cases x; cases y
  simp only [keq, Bool.and_eq_true, beq_iff_eq, Prod.mk.injEq]
  constructor
  · rintro ⟨h1, h2⟩; exact ⟨h1, bb_eq h2⟩
  · rintro ⟨h1, h2⟩; subst h2; exact ⟨h1, bb_self _⟩
theorem keq_self (x : Mk) : keq x x = true := keq_iff.2 rfl
theorem keq_false {x y : Mk} : keq x y = false ↔ x ≠ y := by
  rw [Ne, ← keq_iff]; cases keq x y <;> simp
theorem keq_comm (x y : Mk) : keq x y = keq y x := by
  rw [Bool.eq_iff_iff, keq_iff, keq_iff]; exact eq_comm
set_option maxRecDepth 100000 in
set_option maxHeartbeats 4000000 in
theorem eqM (x y : Mk) (W : World) : (Op.equal 66 (mkV x) (mkV y)).run Tryd.prog W = .ok (keq x y) W := by
  have h : (x.2.toList = y.2.toList) ↔ (x.2 == y.2) = true := by rw [beq_toListBytes]; simp
  show (Op.equalIn 10000 66 (mkV x) (mkV y)).run Tryd.prog W = _
  simp [go_sem, keq, mkV]
  by_cases h1 : x.1 = y.1
  · by_cases h3 : x.2.toList = y.2.toList
    · simp [h1, h3, h.1 h3]
    · have h4 : (x.2 == y.2) = false := by cases hh : (x.2 == y.2) with
        | false => rfl
        | true => exact absurd (h.2 hh) h3
      simp [h1, h3, h4]
  · simp [h1]
theorem ckM (x : Mk) (W : World) (q : Bool) : (Instr.checkKey q 10000 66 (mkV x)).run Tryd.prog W = .ok () W := by kernel_rfl

/-- The entries: marks, their numbers, and when they came. -/
abbrev ME := Mk × Nat × Nat
def ents (l : List ME) : List MapEntry := l.map fun x => ⟨mkV x.1, .int .i64 (x.2.1 : Int), x.2.2⟩
def pos (m : Mk) : List ME → Nat → Option (Nat × Nat)
  | [], _ => none
  | x :: l, i => if keq m x.1 then some (i, x.2.1) else pos m l (i + 1)
def get (m : Mk) : List ME → Option Nat
  | [] => none
  | x :: l => if keq m x.1 then some x.2.1 else get m l
theorem find_ents (m : Mk) (W : World) : ∀ (l : List ME) (i : Nat), (Instr.findAsking 66 (mkV m) (ents l) i).run Tryd.prog W = .ok ((pos m l i).map fun x => (x.1, .int .i64 (x.2 : Int))) W
  | [], i => by simp [ents, Instr.findAsking, pos]
  | x :: l, i => by
    have ih := find_ents m W l (i + 1)
    simp only [ents] at ih
    simp only [ents, List.map_cons, Instr.findAsking, Sem.run_bind, eqM, Result.andThen_ok, pos]
    cases keq m x.1
    · simpa using ih
    · simp
theorem fkM (m : Mk) (W : World) (l : List ME) : (Instr.findKey 66 (mkV m) (ents l)).run Tryd.prog W = .ok ((pos m l 0).map fun x => (x.1, .int .i64 (x.2 : Int))) W := by
  rw [run_findKey_eq W (by kernel_rfl)]
  exact find_ents m W l 0
theorem pos_none {m : Mk} : ∀ {l : List ME} (i : Nat), get m l = none → pos m l i = none
  | [], _, _ => rfl
  | x :: l, i, h => by
    simp only [get] at h
    simp only [pos]
    cases hk : keq m x.1 with
    | false => rw [hk] at h; simpa using pos_none (i + 1) h
    | true => rw [hk] at h; simp at h
theorem get_split {m : Mk} : ∀ {l : List ME} {v : Nat} (i : Nat), get m l = some v → ∃ pre b post, l = pre ++ (m, v, b) :: post ∧ get m pre = none ∧ pos m l i = some (i + pre.length, v)
  | [], _, _, h => by cases h
  | x :: l, v, i, h => by
    simp only [get] at h
    cases hk : keq m x.1 with
    | true =>
      rw [hk] at h
      obtain ⟨y, u, b⟩ := x
      have hm := keq_iff.1 hk
      simp at h
      subst h
      simp only at hm
      subst hm
      exact ⟨[], b, l, rfl, rfl, by simp [pos, hk]⟩
    | false =>
      rw [hk] at h
      obtain ⟨pre, b, post, h1, h2, h3⟩ := get_split (i + 1) (by simpa using h)
      refine ⟨x :: pre, b, post, by rw [h1]; rfl, by simp [get, hk, h2], ?_⟩
      simp only [pos, hk, h3, List.length_cons]
      simp; omega
theorem get_app (m : Mk) : ∀ (a b : List ME), get m (a ++ b) = (get m a).or (get m b)
  | [], b => by simp [get]
  | x :: a, b => by
    simp only [List.cons_append, get, get_app m a b]
    split <;> simp
/-- No mark stands twice. -/
def Nd (l : List ME) : Prop := l.Pairwise fun x y => keq x.1 y.1 = false
theorem get_none_of {m : Mk} : ∀ {l : List ME}, (∀ x ∈ l, keq m x.1 = false) → get m l = none
  | [], _ => rfl
  | x :: l, h => by
    simp only [get, h x (List.mem_cons_self ..)]
    simpa using get_none_of (fun y hy => h y (List.mem_cons_of_mem _ hy))
theorem none_of_get {m : Mk} : ∀ {l : List ME}, get m l = none → ∀ x ∈ l, keq m x.1 = false
  | [], _, x, hx => by cases hx
  | y :: l, h, x, hx => by
    simp only [get] at h
    cases hk : keq m y.1 with
    | true => rw [hk] at h; simp at h
    | false =>
      rw [hk] at h
      rcases List.mem_cons.1 hx with rfl | hx
      · exact hk
      · exact none_of_get (by simpa using h) x hx
/-- A map of marks lies in a block: what it holds as a function. -/
def MapIs (W : World) (M : Nat) (f : Mk → Option Nat) : Prop := ∃ l clk, W.heap[M]? = some (.map (ents l).toArray clk) ∧ Nd l ∧ ∀ m, get m l = f m
theorem MapIs.lt {W : World} {M : Nat} {f : Mk → Option Nat} (h : MapIs W M f) : M < W.heap.size := by obtain ⟨l, clk, h1, _⟩ := h; exact heap_lt h1
theorem MapIs.kept {W W' : World} {M : Nat} {f : Mk → Option Nat} (h : MapIs W M f) (hb : W'.heap[M]? = W.heap[M]?) : MapIs W' M f := by obtain ⟨l, clk, h1, h2⟩ := h; exact ⟨l, clk, hb.trans h1, h2⟩
theorem MapIs.ne {W : World} {M g : Nat} {f : Mk → Option Nat} {cs : Array Value} {t : TypeId} {fz : Nat × Nat} (h : MapIs W M f) (hg : W.heap[g]? = some (.cells cs t fz)) : M ≠ g := fun q => by
  obtain ⟨l, clk, h1, _⟩ := h
  rw [q, hg] at h1
  simp at h1
/-- Looked up. -/
theorem look_map {W : World} {M : Nat} {f : Mk → Option Nat} (h : MapIs W M f) (m : Mk) : (Instr.lookup 49 (.map (some M)) (mkV m) true).run Tryd.prog W = .ok (.tuple #[.int .i64 (((f m).getD 0 : Nat) : Int), .bool (f m).isSome]) W := by
  obtain ⟨l, clk, h1, h2, h3⟩ := h
  have hf := fkM m W l
  rw [← h3 m]
  cases hg : get m l with
  | none =>
    rw [pos_none 0 hg] at hf
    simp only [Option.map_none] at hf
    simp [Instr.lookup, run_underlying Tryd.underlying49, MapKept.run_getObj_map h1, ckM, hf, Tryd.zeroValue3, Result.andThen]
  | some v =>
    obtain ⟨pre, b, post, _, _, hp⟩ := get_split 0 hg
    rw [hp] at hf
    simp only [Option.map_some] at hf
    simp [Instr.lookup, run_underlying Tryd.underlying49, MapKept.run_getObj_map h1, ckM, hf, Result.andThen]
theorem look_map1 {W : World} {M : Nat} {f : Mk → Option Nat} (h : MapIs W M f) (m : Mk) (v : Nat) (hv : f m = some v) : (Instr.lookup 49 (.map (some M)) (mkV m) false).run Tryd.prog W = .ok (.int .i64 (v : Int)) W := by
  obtain ⟨l, clk, h1, h2, h3⟩ := h
  have hf := fkM m W l
  rw [← h3 m] at hv
  obtain ⟨pre, b, post, _, _, hp⟩ := get_split 0 hv
  rw [hp] at hf
  simp only [Option.map_some] at hf
  simp [Instr.lookup, run_underlying Tryd.underlying49, MapKept.run_getObj_map h1, ckM, hf, Result.andThen]
theorem same_bits (m : Mk) : Instr.sameBits 10000 (mkV m) (mkV m) = true := by
  simp [mkV, Instr.sameBits]
  exact bb_self m.2
theorem mod_at {α : Type} (f : α → α) (a : List α) (x : α) (b : List α) : (a ++ x :: b).toArray.modify a.length f = (a ++ f x :: b).toArray := by
  apply Array.ext
  · simp
  · intro i h1 h2
    rw [Array.getElem_modify]
    by_cases h : a.length = i
    · subst h; simp
    · rw [if_neg h]
      simp only [List.getElem_toArray, List.getElem_append]
      split
      · rfl
      · obtain ⟨j, hj⟩ : ∃ j, i - a.length = j + 1 := ⟨i - a.length - 1, by omega⟩
        simp only [hj, List.getElem_cons_succ]
theorem ents_app (a b : List ME) : ents (a ++ b) = ents a ++ ents b := by simp [ents]
theorem ents_len (a : List ME) : (ents a).length = a.length := by simp [ents]
/-- Laid. -/
theorem upd_map {W : World} {M : Nat} {f : Mk → Option Nat} (h : MapIs W M f) (m : Mk) (n : Nat) : ∃ o, (Instr.mapUpdate 49 (.map (some M)) (mkV m) (.int .i64 (n : Int))).run Tryd.prog W = .ok () (setBlock W M o) ∧ MapIs (setBlock W M o) M (fun x => if keq x m then some n else f x) := by
  obtain ⟨l, clk, h1, h2, h3⟩ := h
  have hf := fkM m W l
  cases hg : get m l with
  | none =>
    rw [pos_none 0 hg] at hf
    simp only [Option.map_none] at hf
    refine ⟨.map ((ents l).toArray.push ⟨mkV m, .int .i64 (n : Int), clk⟩) (clk + 1), ?_, l ++ [(m, n, clk)], clk + 1, ?_, ?_, fun x => ?_⟩
    · simp [Instr.mapUpdate, run_underlying Tryd.underlying49, MapKept.run_getObj_map h1, ckM, hf, MapKept.run_setObj_map _ h1, Result.andThen, setBlock]
    · rw [setBlock_same _ _ _ (heap_lt h1)]; simp [ents]
    · refine List.pairwise_append.2 ⟨h2, List.pairwise_singleton _ _, fun x hx y hy => ?_⟩
      rw [List.mem_singleton.1 hy, keq_comm]
      exact none_of_get hg x hx
    · rw [get_app, h3 x]
      simp only [get]
      by_cases hx : keq x m = true
      · rw [keq_iff.1 hx, ← h3 m, hg]; simp [keq_self]
      · simp only [hx]; simp
  | some v =>
    obtain ⟨pre, b, post, rfl, hpn, hp⟩ := get_split 0 hg
    rw [hp] at hf
    simp only [Option.map_some, Nat.zero_add] at hf
    have hkey : ((ents (pre ++ (m, v, b) :: post)).toArray[pre.length]?).map (·.key) = some (mkV m) := by
      simp [ents]
    have hmod : (ents (pre ++ (m, v, b) :: post)).toArray.modify pre.length (fun e => { e with key := mkV m, val := .int .i64 (n : Int) }) = (ents (pre ++ (m, n, b) :: post)).toArray := by
      have h6 := mod_at (fun e : MapEntry => { e with key := mkV m, val := .int .i64 (n : Int) }) (ents pre) ⟨mkV m, .int .i64 (v : Int), b⟩ (ents post)
      rw [ents_len] at h6
      rw [ents_app, ents_app]
      exact h6
    refine ⟨.map (ents (pre ++ (m, n, b) :: post)).toArray clk, ?_, pre ++ (m, n, b) :: post, clk, ?_, ?_, fun x => ?_⟩
    · simp only [Instr.mapUpdate, Sem.run_bind, run_underlying Tryd.underlying49, Result.andThen_ok, MapKept.run_getObj_map h1, ckM, hf, hkey, Option.getD_some, Instr.keyThatStays, same_bits, if_true, Sem.run_pure, hmod, MapKept.run_setObj_map _ h1]
      rfl
    · rw [setBlock_same _ _ _ (heap_lt h1)]
    · have h4 : ((pre ++ (m, v, b) :: post).map fun x : ME => x.1) = ((pre ++ (m, n, b) :: post).map fun x : ME => x.1) := by simp
      have h5 : ((pre ++ (m, v, b) :: post).map fun x : ME => x.1).Pairwise fun x y => keq x y = false := List.pairwise_map.2 h2
      rw [h4] at h5
      exact List.pairwise_map.1 h5
    · show _ = if keq x m = true then some n else f x
      rw [← h3 x, get_app, get_app]
      simp only [get]
      by_cases hx : keq x m = true
      · rw [keq_iff.1 hx, hpn]; simp [keq_self]
      · simp only [hx]; simp
/-- Taken out. -/
theorem del_map {W : World} {M : Nat} {f : Mk → Option Nat} (h : MapIs W M f) (m : Mk) (v ty kt : Nat) (hv : f m = some v) : ∃ o, (Builtin.delete_ #[49, kt] ty #[.map (some M), mkV m]).run Tryd.prog W = .ok (.tuple #[]) (setBlock W M o) ∧ MapIs (setBlock W M o) M (fun x => if keq x m then none else f x) := by
  obtain ⟨l, clk, h1, h2, h3⟩ := h
  have hf := fkM m W l
  rw [← h3 m] at hv
  obtain ⟨pre, b, post, rfl, hpn, hp⟩ := get_split 0 hv
  rw [hp] at hf
  simp only [Option.map_some, Nat.zero_add] at hf
  have hera : (ents (pre ++ (m, v, b) :: post)).eraseIdx pre.length = ents (pre ++ post) := by
    rw [ents_app, ents_app, ← ents_len pre, List.eraseIdx_append_of_length_le (Nat.le_refl _), Nat.sub_self]
    rfl
  have hpost : get m post = none := get_none_of fun x hx => by
    have h4 := (List.pairwise_append.1 h2).2.1
    exact (List.pairwise_cons.1 h4).1 x hx
  refine ⟨.map (ents (pre ++ post)).toArray clk, ?_, pre ++ post, clk, ?_, ?_, fun x => ?_⟩
  · simp [Builtin.delete_, run_underlying Tryd.underlying49, MapKept.run_getObj_map h1, ckM, hf, MapKept.run_setObj_map _ h1, Result.andThen, setBlock]
    rw [hera]
  · rw [setBlock_same _ _ _ (heap_lt h1)]
  · exact h2.sublist (List.Sublist.append_left (List.sublist_cons_self _ _) _)
  · show _ = if keq x m = true then none else f x
    rw [← h3 x, get_app, get_app]
    simp only [get]
    by_cases hx : keq x m = true
    · rw [keq_iff.1 hx, hpn, hpost]; simp [keq_self]
    · simp only [hx]; simp
end Go.Proofs.YtapakbibofnhkaaDoor
