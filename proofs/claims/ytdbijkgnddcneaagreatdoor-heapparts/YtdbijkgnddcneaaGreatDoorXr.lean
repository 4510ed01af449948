/- . -/
import Derived.Test.YtdbijkgnddcneaaGreatDoorSr
import Derived.Laws.IdiomRangeMap
namespace Go.Proofs.YtdbijkgnddcneaaGreatDoor
open Go.RowKit Go.ChangeMaps
theorem run_next_at {P : Program} (w : World) (ty : TypeId) (r bm since c0 : Nat) (seen : Array Nat) (es : Array MapEntry) (clock : Nat) (hr : w.heap[r]? = some (.mapIter (some bm) since seen c0)) (hb : w.heap[bm]? = some (.map es clock)) (hold : ∀ x ∈ es.toList, x.born < since) (hsc : since ≤ c0) :
  ((leftOf es seen).size = 0 ∧ (Instr.next (.pointer (some ⟨r, 0, none⟩)) false ty).run P w = .ok (.tuple #[.bool false]) w) ∨
  ∃ e ∈ (leftOf es seen).toList, ∃ w1 : World, (w1 = w ∨ w1 = w.drew) ∧ (Instr.next (.pointer (some ⟨r, 0, none⟩)) false ty).run P w = .ok (.tuple #[.bool true, e.key, e.val]) (setBlock w1 r (.mapIter (some bm) since (seen.push e.born) clock)) := by
 simp only [Instr.next, getObj, Sem.run_bind, Sem.run, hr, hb, Result.andThen, next_test_false seen es since c0 hold hsc, Bool.false_eq_true, if_false]
 unfold leftOf
 have hmem : ∀ x ∈ (Array.filter (fun e => !seen.contains e.born) es).toList, x.born < since := fun x hx => hold x (by simp at hx ⊢; exact hx.1)
 generalize Array.filter (fun e => !seen.contains e.born) es = L at hmem ⊢
 have e1 : L.filter (fun x => decide (x.born < since)) = L := Array.filter_eq_self.2 (fun x hx => by simpa using hmem x (by simpa using hx))
 have e2 : L.filter (fun x => decide (x.born ≥ since)) = #[] := by
  rw [Array.filter_eq_empty_iff]
  intro x hx
  have := hmem x (by simpa using hx)
  simp
  omega
 simp only [e1, e2, Array.append_empty]
 by_cases h0 : L.size = 0
 ·left
  have : L = #[] := Array.eq_empty_of_size_eq_zero h0
  subst this
  refine ⟨rfl, ?_⟩
  simp [choose, Sem.run, Question.forced]
 ·right
  have hne : L.isEmpty = false := by simp [Array.isEmpty, h0]
  simp only [hne, Bool.false_eq_true, if_false, Array.empty_append, Array.size_map]
  have hch : ∃ (j : Nat) (w1 : World), j < L.size ∧ (w1 = w ∨ w1 = w.drew) ∧ (choose (Question.mapNext L.size)).run P w = .ok j w1 := by
   by_cases hf : L.size ≤ 1
   ·exact ⟨0, w, by omega, .inl rfl, by simp [choose, Sem.run, Question.forced, hf]⟩
   ·exact ⟨_, w.drew, Nat.mod_lt _ (by omega), .inr rfl, by
     simp only [choose, Sem.run, Question.forced, decide_eq_true_eq, hf, if_false, Question.cut]
     rfl⟩
  obtain ⟨j, w1, hj, hal, hrun⟩ := hch
  refine ⟨L[j], by simp, w1, hal, ?_⟩
  have hr1 : w1.heap[r]? = some (.mapIter (some bm) since seen c0) := by rcases hal with rfl | rfl <;> exact hr
  have hset : ∀ (o' : Obj), (setObj r o').run P w1 = .ok () (setBlock w1 r o') := fun o' => by
   simp only [setObj, Sem.run]
   rw [hr1]
   rfl
  simp only [hrun, Array.getElem?_map, Array.getElem?_eq_getElem hj, Option.map_some, Sem.run_bind, hset, Result.andThen]
  rfl
theorem run_entry_at {P : Program} (w : World) (r bm since : Nat) (seen : Array Nat) (es : Array MapEntry) (clock : Nat) (e : MapEntry) (hr : w.heap[r]? = some (.mapIter (some bm) since (seen.push e.born) clock)) (hb : w.heap[bm]? = some (.map es clock)) (he : e ∈ es.toList) (hn : (es.toList.map (·.born)).Nodup) :
  (Instr.entry (.pointer (some ⟨r, 0, none⟩))).run P w = .ok (.tuple #[e.key, e.val]) w := by
 have hf : es.find? (·.born == e.born) = some e := by rw [← Array.find?_toList]; exact find_born e es.toList hn he
 simp only [Instr.entry, getObj, Sem.run_bind, Sem.run, hr, hb, Result.andThen, Array.back?_push, bne_self_eq_false, Bool.false_eq_true, if_false, hf]
 rfl
theorem tents_born : ∀ (i : Nat) (vs : List Value), (tents i vs).map (·.born) = List.range' i vs.length
 | _, [] => rfl
 | i, v :: vs => by simp [tents, tents_born (i + 1) vs, List.range'_succ]
theorem tents_key : ∀ (i : Nat) (vs : List Value) (e : MapEntry), e ∈ tents i vs → ∃ n : Int, e.key = .int .i64 n ∧ e.born < i + vs.length
 | i, v :: vs, e, h => by
  rcases List.mem_cons.1 h with rfl | h
  ·exact ⟨_, rfl, by simp⟩
  ·obtain ⟨n, h1, h2⟩ := tents_key (i + 1) vs e h
   exact ⟨n, h1, by simp; omega⟩
theorem left_size (es : Array MapEntry) (seen : Array Nat) (e : MapEntry) (hn : (es.toList.map (·.born)).Nodup) (he : e ∈ (leftOf es seen).toList) : (leftOf es (seen.push e.born)).size + 1 = (leftOf es seen).size := by
 unfold leftOf at he ⊢
 have hmem : e ∈ es.toList ∧ seen.contains e.born = false := by simpa using he
 have key : ∀ (l : List MapEntry), (l.map (·.born)).Nodup → e ∈ l → (l.filter fun x => !(seen.push e.born).contains x.born).length + 1 = (l.filter fun x => !seen.contains x.born).length := by
  intro l
  induction l with
  | nil => intro _ h; cases h
  | cons x l ih =>
   intro hnd hm
   have hnd' : x.born ∉ l.map (·.born) ∧ (l.map (·.born)).Nodup := List.nodup_cons.1 hnd
   rcases List.mem_cons.1 hm with rfl | hm
   ·have hsame : ∀ (l' : List MapEntry), e.born ∉ l'.map (·.born) → (l'.filter fun x => !(seen.push e.born).contains x.born) = (l'.filter fun x => !seen.contains x.born) := by
     intro l' hl'
     apply List.filter_congr
     intro y hy
     have hne : y.born ≠ e.born := fun h => hl' (List.mem_map.2 ⟨y, hy, h⟩)
     simp [hne]
    rw [List.filter_cons, List.filter_cons, hsame l hnd'.1]
    have c1 : (!(seen.push e.born).contains e.born) = false := by simp
    have c2 : (!seen.contains e.born) = true := by rw [hmem.2]; rfl
    rw [c1, c2]
    simp
   ·have hne : x.born ≠ e.born := fun h => hnd'.1 (List.mem_map.2 ⟨e, hm, h.symm⟩)
    have hi := ih hnd'.2 hm
    rw [List.filter_cons, List.filter_cons]
    have c1 : (seen.push e.born).contains x.born = seen.contains x.born := by simp [hne]
    rw [c1]
    cases seen.contains x.born
    ·simp only [Bool.not_false, if_true, List.length_cons]; omega
    ·simpa using hi
 have := key es.toList hn hmem.1
 simpa [← Array.length_toList, Array.toList_filter] using this
end Go.Proofs.YtdbijkgnddcneaaGreatDoor
