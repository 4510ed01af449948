/-
  The calls of a list of events: the plain function, and what holds of the calls that are open.
-/
import Derived.Test.YtapakbibofnhkaaDoorL
import Derived.Test.YtapakbibofnhkaaDoorSh
namespace Go.Proofs.YtapakbibofnhkaaDoor
open Go.RowKit Go.ChangeMaps

/-- A call: its place, its text, its depth, has it ended, and which one it hides. -/
structure Cl where
  a : Int
  t : ByteArray
  d : Nat
  e : Bool
  r : Int
/-- The last number below k that is so. -/
def down (p : Nat → Bool) : Nat → Option Nat
  | 0 => none
  | k + 1 => if p k then some k else down p k
theorem down_congr {p q : Nat → Bool} : ∀ {k : Nat}, (∀ j, j < k → p j = q j) → down p k = down q k
  | 0, _ => rfl
  | k + 1, h => by simp only [down, h k (Nat.lt_succ_self k), down_congr (fun j hj => h j (Nat.lt_succ_of_lt hj))]
theorem down_some {p : Nat → Bool} : ∀ {k j : Nat}, down p k = some j → j < k ∧ p j = true ∧ ∀ i, j < i → i < k → p i = false
  | 0, _, h => by cases h
  | k + 1, j, h => by
    simp only [down] at h
    cases hp : p k with
    | true =>
      rw [hp] at h; simp at h; subst h
      exact ⟨Nat.lt_succ_self _, hp, fun i h1 h2 => by omega⟩
    | false =>
      rw [hp] at h
      obtain ⟨h1, h2, h3⟩ := down_some (by simpa using h)
      refine ⟨by omega, h2, fun i h4 h5 => ?_⟩
      rcases Nat.lt_or_ge i k with h6 | h6
      · exact h3 i h4 h6
      · rw [show i = k by omega]; exact hp
theorem down_none {p : Nat → Bool} : ∀ {k : Nat}, down p k = none → ∀ j, j < k → p j = false
  | 0, _, j, hj => by cases hj
  | k + 1, h, j, hj => by
    simp only [down] at h
    cases hp : p k with
    | true => rw [hp] at h; simp at h
    | false =>
      rw [hp] at h
      rcases Nat.lt_or_ge j k with h6 | h6
      · exact down_none (by simpa using h) j h6
      · rw [show j = k by omega]; exact hp
/-- The mark of an open call. -/
def mkAt (all : List Cl) (opn : List Nat) (j : Nat) : Mk := ((all[opn.getD j 0]?).map fun c => (c.a, c.t)).getD (0, ⟨#[]⟩)
def pm (all : List Cl) (opn : List Nat) (m : Mk) (j : Nat) : Bool := keq m (mkAt all opn j)
/-- Of the first k open calls the innermost one of a mark. -/
def fM (all : List Cl) (opn : List Nat) (k : Nat) (m : Mk) : Option Nat := (down (pm all opn m) k).map fun j => opn.getD j 0
/-- .. as it is written down. -/
def rOf (all : List Cl) (opn : List Nat) (m : Mk) (k : Nat) : Int := match fM all opn k m with
  | some n => n
  | none => -1
structure Inv (all : List Cl) (opn : List Nat) : Prop where
  lt : ∀ j, j < opn.length → opn.getD j 0 < all.length
  dep : ∀ j, j < opn.length → (all[opn.getD j 0]?).map (·.d) = some (j + 1)
  arn : ∀ j, j < opn.length → (all[opn.getD j 0]?).map (·.r) = some (rOf all opn (mkAt all opn j) j)
  few : opn.length ≤ all.length
  small : ∀ c ∈ all, c.d ≤ all.length
theorem fM_succ (all : List Cl) (opn : List Nat) (k : Nat) (x : Mk) : fM all opn (k + 1) x = if keq x (mkAt all opn k) then some (opn.getD k 0) else fM all opn k x := by
  by_cases hx : keq x (mkAt all opn k) = true
  · simp only [fM, down, pm, hx, if_true, Option.map_some]
  · simp only [fM, down, pm, hx]; rfl
theorem getD_app (a b : List Nat) (j : Nat) (h : j < a.length) : (a ++ b).getD j 0 = a.getD j 0 := by
  simp [List.getD_eq_getElem?_getD, List.getElem?_append_left h]
theorem getD_end (a : List Nat) (n : Nat) : (a ++ [n]).getD a.length 0 = n := by
  simp [List.getD_eq_getElem?_getD]
theorem getD_take (a : List Nat) (k j : Nat) (h : j < k) : (a.take k).getD j 0 = a.getD j 0 := by
  simp [List.getD_eq_getElem?_getD, h]
theorem mkAt_congr {all all' : List Cl} {opn opn' : List Nat} {j : Nat} (h1 : opn'.getD j 0 = opn.getD j 0) (h2 : (all'[opn.getD j 0]?).map (fun c => (c.a, c.t)) = (all[opn.getD j 0]?).map fun c => (c.a, c.t)) : mkAt all' opn' j = mkAt all opn j := by
  unfold mkAt; rw [h1, h2]
theorem fM_congr {all all' : List Cl} {opn opn' : List Nat} {k : Nat} (h1 : ∀ j, j < k → opn'.getD j 0 = opn.getD j 0) (h2 : ∀ j, j < k → mkAt all' opn' j = mkAt all opn j) (m : Mk) : fM all' opn' k m = fM all opn k m := by
  unfold fM
  rw [down_congr (q := pm all opn m) (fun j hj => by unfold pm; rw [h2 j hj])]
  cases hd : down (pm all opn m) k with
  | none => rfl
  | some j => simp only [Option.map_some]; rw [h1 j (down_some hd).1]
/-- A call begins. -/
def begAll (all : List Cl) (opn : List Nat) (m : Mk) : List Cl := all ++ [⟨m.1, m.2, opn.length + 1, false, rOf all opn m opn.length⟩]
theorem beg_new (all : List Cl) (opn : List Nat) (m : Mk) : (begAll all opn m)[all.length]? = some ⟨m.1, m.2, opn.length + 1, false, rOf all opn m opn.length⟩ ∧ mkAt (begAll all opn m) (opn ++ [all.length]) opn.length = m := by
  have h1 : (begAll all opn m)[all.length]? = some ⟨m.1, m.2, opn.length + 1, false, rOf all opn m opn.length⟩ := by simp [begAll]
  exact ⟨h1, by unfold mkAt; rw [getD_end, h1]; rfl⟩
section
variable {all : List Cl} {opn : List Nat} (h : Inv all opn) (m : Mk)
include h
theorem beg_old (j : Nat) (hj : j < opn.length) : (opn ++ [all.length]).getD j 0 = opn.getD j 0 ∧ (begAll all opn m)[opn.getD j 0]? = all[opn.getD j 0]? ∧ mkAt (begAll all opn m) (opn ++ [all.length]) j = mkAt all opn j := by
  have h1 := getD_app opn [all.length] j hj
  have h2 : (begAll all opn m)[opn.getD j 0]? = all[opn.getD j 0]? := List.getElem?_append_left (h.lt j hj)
  exact ⟨h1, h2, mkAt_congr h1 (by rw [h2])⟩
theorem beg_f (k : Nat) (hk : k ≤ opn.length) (x : Mk) : fM (begAll all opn m) (opn ++ [all.length]) k x = fM all opn k x :=
  fM_congr (fun j hj => (beg_old h m j (by omega)).1) (fun j hj => (beg_old h m j (by omega)).2.2) x
theorem beg_top (x : Mk) : fM (begAll all opn m) (opn ++ [all.length]) (opn ++ [all.length]).length x = if keq x m then some all.length else fM all opn opn.length x := by
  rw [List.length_append, List.length_singleton, fM_succ, (beg_new all opn m).2, getD_end, beg_f h m _ (Nat.le_refl _)]
theorem inv_beg : Inv (begAll all opn m) (opn ++ [all.length]) := by
  have hlen : (begAll all opn m).length = all.length + 1 := by simp [begAll]
  have hcase : ∀ j, j < (opn ++ [all.length]).length → j < opn.length ∨ j = opn.length := fun j hj => by simp at hj; omega
  refine ⟨fun j hj => ?_, fun j hj => ?_, fun j hj => ?_, by simp [begAll]; exact h.few, fun c hc => ?_⟩
  · rcases hcase j hj with hj | rfl
    · rw [(beg_old h m j hj).1, hlen]; have := h.lt j hj; omega
    · rw [getD_end, hlen]; omega
  · rcases hcase j hj with hj | rfl
    · rw [(beg_old h m j hj).1, (beg_old h m j hj).2.1]; exact h.dep j hj
    · rw [getD_end, (beg_new all opn m).1]; rfl
  · rcases hcase j hj with hj | rfl
    · rw [(beg_old h m j hj).1, (beg_old h m j hj).2.1, (beg_old h m j hj).2.2, h.arn j hj]
      unfold rOf; rw [beg_f h m j (by omega)]
    · rw [getD_end, (beg_new all opn m).1, (beg_new all opn m).2]
      unfold rOf; rw [beg_f h m _ (Nat.le_refl _)]; rfl
  · rw [hlen]
    rcases List.mem_append.1 hc with hc | hc
    · have := h.small c hc; omega
    · rw [List.mem_singleton.1 hc]; have := h.few; simp; omega
end
/-- A call has ended. -/
def endAll (all : List Cl) (n : Nat) : List Cl := all.modify n fun c => { c with e := true }
theorem end_get (all : List Cl) (n i : Nat) : (endAll all n)[i]? = if n = i then (all[i]?).map (fun c => { c with e := true }) else all[i]? := by
  unfold endAll
  rw [List.getElem?_modify]
  split <;> simp
theorem end_map {α : Type} (g : Cl → α) (hg : ∀ c : Cl, g { c with e := true } = g c) (all : List Cl) (n i : Nat) : ((endAll all n)[i]?).map g = (all[i]?).map g := by
  rw [end_get]
  split
  · cases all[i]? <;> simp [hg]
  · rfl
theorem end_mk (all : List Cl) (opn : List Nat) (n k j : Nat) (hj : j < k) : mkAt (endAll all n) (opn.take k) j = mkAt all opn j :=
  mkAt_congr (getD_take opn k j hj) (end_map (fun c => (c.a, c.t)) (fun _ => rfl) all n _)
theorem end_f (all : List Cl) (opn : List Nat) (n k i : Nat) (hi : i ≤ k) (x : Mk) : fM (endAll all n) (opn.take k) i x = fM all opn i x :=
  fM_congr (fun j hj => getD_take opn k j (by omega)) (fun j hj => end_mk all opn n k j (by omega)) x
theorem inv_end {all : List Cl} {opn : List Nat} (h : Inv all opn) (n k : Nat) (hk : k ≤ opn.length) : Inv (endAll all n) (opn.take k) := by
  have hlen : (endAll all n).length = all.length := by simp [endAll]
  have hc : ∀ j, j < (opn.take k).length → j < k ∧ j < opn.length := fun j hj => by simp at hj; omega
  refine ⟨fun j hj => ?_, fun j hj => ?_, fun j hj => ?_, by rw [hlen]; have := h.few; simp; omega, fun c hcm => ?_⟩
  · rw [getD_take opn k j (hc j hj).1, hlen]; exact h.lt j (hc j hj).2
  · rw [getD_take opn k j (hc j hj).1, end_map (·.d) (fun _ => rfl)]; exact h.dep j (hc j hj).2
  · rw [getD_take opn k j (hc j hj).1, end_map (·.r) (fun _ => rfl), h.arn j (hc j hj).2, end_mk all opn n k j (hc j hj).1]
    unfold rOf; rw [end_f all opn n k j (by have := (hc j hj).1; omega)]
  · rw [hlen]
    obtain ⟨i, hi⟩ := List.mem_iff_getElem?.1 hcm
    rw [end_get] at hi
    split at hi
    · cases hai : all[i]? with
      | none => rw [hai] at hi; simp at hi
      | some c' =>
        rw [hai] at hi
        simp only [Option.map_some, Option.some.injEq] at hi
        rw [← hi]
        exact h.small c' (List.mem_of_getElem? hai)
    · exact h.small c (List.mem_of_getElem? hi)
/-- What one event does. -/
def stepS (s : List Cl × List Nat) (e : Ev) : List Cl × List Nat :=
  if e.k = 2 then (begAll s.1 s.2 (e.a, e.t), s.2 ++ [s.1.length])
  else if e.k = 3 then match down (pm s.1 s.2 (e.a, e.t)) s.2.length with
    | some j => (endAll s.1 (s.2.getD j 0), s.2.take j)
    | none => s
  else s
/-- What events do. -/
def runS (l : List Ev) : List Cl × List Nat := l.foldl stepS ([], [])
theorem runS_snoc (l : List Ev) (k : Nat) (hk : k < l.length) : runS (l.take (k + 1)) = stepS (runS (l.take k)) l[k] := by
  rw [List.take_succ_eq_append_getElem hk]
  simp only [runS, List.foldl_append, List.foldl_cons, List.foldl_nil]
theorem inv_step {s : List Cl × List Nat} (h : Inv s.1 s.2) (e : Ev) : Inv (stepS s e).1 (stepS s e).2 ∧ (stepS s e).1.length ≤ s.1.length + 1 := by
  unfold stepS
  split
  · exact ⟨inv_beg h _, by simp [begAll]⟩
  · split
    · split
      · rename_i j hj
        exact ⟨inv_end h _ _ (Nat.le_of_lt (down_some hj).1), by simp [endAll]⟩
      · exact ⟨h, by omega⟩
    · exact ⟨h, by omega⟩
theorem inv_run (l : List Ev) : ∀ k, k ≤ l.length → Inv (runS (l.take k)).1 (runS (l.take k)).2 ∧ (runS (l.take k)).1.length ≤ k
  | 0, _ => ⟨⟨fun j hj => by simp [runS] at hj, fun j hj => by simp [runS] at hj, fun j hj => by simp [runS] at hj, by simp [runS], fun c hc => by simp [runS] at hc⟩, by simp [runS]⟩
  | k + 1, hk => by
    obtain ⟨h1, h2⟩ := inv_run l k (by omega)
    rw [runS_snoc l k (by omega)]
    have h3 := inv_step h1 l[k]
    exact ⟨h3.1, by omega⟩
/-- A call's text, as it is shown. -/
def shownB (t : ByteArray) : List UInt8 := (t.data.toList.take 100).map fun c => if c < 32 then 63 else c
/-- A call's line. -/
def lineB (c : Cl) : List UInt8 := Lib.itoa (c.d : Int) ++ [32] ++ shownB c.t ++ (if c.e then [] else [32, 33]) ++ [10]
/-- All lines. -/
def outB (all : List Cl) : List UInt8 := all.flatMap lineB
end Go.Proofs.YtapakbibofnhkaaDoor
