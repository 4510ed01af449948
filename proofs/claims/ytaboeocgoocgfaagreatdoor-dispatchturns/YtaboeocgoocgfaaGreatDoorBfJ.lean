/-
  A map keyed by questions of one type, whatever their names: found, not found, deleted.
  A cache's ring of any length in memory: an entry joins it behind the others, the oldest leaves it.
  A cache in memory: the oldest entry is forgotten.
  What a cache gives out where nothing was found.
-/
import Derived.Test.YtaboeocgoocgfaaGreatDoorAb
import Derived.WideKeyRuns
import Derived.Laws.StructEq
import Derived.Test.YtaboeocgoocgfaaGreatDoorBa
import Derived.Test.YtaboeocgoocgfaaGreatDoorAd
namespace Go.Proofs.YtaboeocgoocgfaaGreatDoor
open Go.RowKit Go.ChangeMaps

/-- The question what a name is at A. -/
def qk (s : ByteArray) : Value := .agg #[.int .i64 0, .string ⟨#[65]⟩, .bool false, .string s]

theorem bb_self (s : ByteArray) : (s == s) = true := by rw [beq_toListBytes]; simp
theorem eqk (s t : ByteArray) (W : World) : (Op.equal 69 (qk s) (qk t)).run Tryz.prog W = .ok (s == t) W := by
  have h1 : (Op.equal 69 (qk s) (qk t)).run Tryz.prog W = (Op.eqFields 9999 #[.int .i64 0, .string ⟨#[65]⟩, .bool false, .string s] #[.int .i64 0, .string ⟨#[65]⟩, .bool false, .string t] (Tryz.prog.fieldsOf 69).toList).run Tryz.prog W :=
    run_equalIn_struct W 9999 69 _ _ (by kernel_rfl) (by kernel_rfl)
  have h2 : (Op.eqFields 9999 #[.int .i64 0, .string ⟨#[65]⟩, .bool false, .string s] #[.int .i64 0, .string ⟨#[65]⟩, .bool false, .string t] (Tryz.prog.fieldsOf 69).toList).run Tryz.prog W = (if (!(s == t)) = true then (pure false : Sem Bool) else pure true).run Tryz.prog W := by kernel_rfl
  rw [h1, h2]
  cases (s == t) <;> rfl
theorem ckQ (s : ByteArray) (W : World) (q : Bool) : (Instr.checkKey q 10000 69 (qk s)).run Tryz.prog W = .ok () W := by kernel_rfl

/-- Where a name stands among the names. -/
def at? (s : ByteArray) : List (ByteArray × Nat × Nat) → Nat → Option (Nat × Nat)
  | [], _ => none
  | x :: l, i => if s == x.1 then some (i, x.2.1) else at? s l (i + 1)
/-- The entries of a map of questions: names, where their entries lie, and when they came. -/
def ents (l : List (ByteArray × Nat × Nat)) : List MapEntry := l.map fun x => ⟨qk x.1, .pointer (some ⟨x.2.1, 0, none⟩), x.2.2⟩

theorem find_ents (s : ByteArray) (W : World) : ∀ (l : List (ByteArray × Nat × Nat)) (i : Nat), (Instr.findAsking 69 (qk s) (ents l) i).run Tryz.prog W = .ok ((at? s l i).map fun x => (x.1, .pointer (some ⟨x.2, 0, none⟩))) W
  | [], i => by simp [ents, Instr.findAsking, at?]
  | x :: l, i => by
    have ih := find_ents s W l (i + 1)
    simp only [ents] at ih
    simp only [ents, List.map_cons, Instr.findAsking, Sem.run_bind, eqk, Result.andThen_ok, at?]
    cases (s == x.1)
    · simpa using ih
    · simp
theorem fkQ (s : ByteArray) (W : World) (l : List (ByteArray × Nat × Nat)) : (Instr.findKey 69 (qk s) (ents l)).run Tryz.prog W = .ok ((at? s l 0).map fun x => (x.1, .pointer (some ⟨x.2, 0, none⟩))) W := by
  rw [run_findKey_eq W (by kernel_rfl)]
  exact find_ents s W l 0

theorem delQ {W : World} {b clk : Nat} (s : ByteArray) (e t : Nat) (l : List (ByteArray × Nat × Nat)) (ty kt : Nat) (hb : W.heap[b]? = some (.map (ents ((s, e, t) :: l)).toArray clk)) :
    (Builtin.delete_ #[67, kt] ty #[.map (some b), qk s]).run Tryz.prog W = .ok (.tuple #[]) (ChangeMaps.setBlock W b (.map (ents l).toArray clk)) := by
  have hf := fkQ s W ((s, e, t) :: l)
  simp only [at?, bb_self, if_true, Option.map_some] at hf
  simp [Builtin.delete_, run_underlying Tryz.underlying67, MapKept.run_getObj_map hb, ckQ, hf, MapKept.run_setObj_map _ hb, Result.andThen, ChangeMaps.setBlock]
  simp [ents]
end Go.Proofs.YtaboeocgoocgfaaGreatDoor
namespace Go.Proofs.YtaboeocgoocgfaaGreatDoor
open Go.RowKit Go.ChangeMaps

/-- The cells of an entry: a name that A has not, and its neighbours. -/
def entC (s : ByteArray) (o n : Value) : Array Value := #[.int .i64 0, .string ⟨#[65]⟩, .bool false, .string s, .int .i64 0, .slice none 0 0, .string ⟨#[]⟩, .bool false, .int .i64 0, .bool false, o, n]
def ringP (cb : Nat) : Value := .pointer (some ⟨cb, 6, none⟩)
def entP (b : Nat) : Value := .pointer (some ⟨b, 0, none⟩)
/-- The first of a row of entries, or the ring's own. -/
def firstP (cb : Nat) : List (ByteArray × Nat) → Value
  | [] => ringP cb
  | x :: _ => entP x.2
/-- The last of a row of entries, or what stands before it. -/
def lastP (o : Value) : List (ByteArray × Nat) → Value
  | [] => o
  | x :: l => lastP (entP x.2) l
/-- A row of entries lies in memory, from the oldest to the newest. -/
def Row (w : World) (cb : Nat) : Value → List (ByteArray × Nat) → Prop
  | _, [] => True
  | o, x :: l => w.heap[x.2]? = some (.cells (entC x.1 o (firstP cb l)) 72) ∧ Row w cb (entP x.2) l
/-- The cells of a cache. -/
def cacheC (tb mb : Nat) (rm h m : Int) (o n : Value) : Array Value := #[.func (.func 24) #[.pointer (some ⟨tb, 0, none⟩)] #[], .func (.func 25) #[.pointer (some ⟨tb, 0, none⟩)] #[], .int .i64 rm, .int .i64 h, .int .i64 m, .map (some mb), .int .i64 0, .string ⟨#[]⟩, .bool false, .string ⟨#[]⟩, .int .i64 0, .slice none 0 0, .string ⟨#[]⟩, .bool false, .int .i64 0, .bool false, o, n]
/-- A cache whose ring is a row. -/
structure Ring (w : World) (tb mb cb : Nat) (rm h m : Int) (L : List (ByteArray × Nat)) : Prop where
  cache : w.heap[cb]? = some (.cells (cacheC tb mb rm h m (lastP (ringP cb) L) (firstP cb L)) 74)
  row : Row w cb (ringP cb) L
  apart : ∀ x ∈ L, x.2 ≠ cb
  once : (L.map (·.2)).Nodup

theorem Row.lt {w : World} {cb : Nat} : ∀ {L : List (ByteArray × Nat)} {o : Value}, Row w cb o L → ∀ x ∈ L, x.2 < w.heap.size
  | [], _, _, x, hx => by cases hx
  | y :: l, o, h, x, hx => by
    rcases List.mem_cons.1 hx with rfl | hx
    · exact heap_lt h.1
    · exact Row.lt h.2 x hx
theorem Row.kp {w w' : World} {cb : Nat} {S : Nat → Prop} (k : Kp S w w') : ∀ {L : List (ByteArray × Nat)} {o : Value}, Row w cb o L → (∀ x ∈ L, ¬ S x.2) → Row w' cb o L
  | [], _, _, _ => trivial
  | y :: l, o, h, hs => ⟨(k.block _ (heap_lt h.1) (hs y (by simp))).trans h.1, Row.kp k h.2 fun x hx => hs x (by simp [hx])⟩
theorem firstP_append (cb : Nat) (l : List (ByteArray × Nat)) (x : ByteArray × Nat) : firstP cb (l ++ [x]) = firstP cb (l ++ [x]) := rfl
theorem lastP_append (o : Value) (x : ByteArray × Nat) : ∀ l : List (ByteArray × Nat), lastP o (l ++ [x]) = entP x.2
  | [] => rfl
  | y :: l => lastP_append (entP y.2) x l

/-- The last of a row that is not empty, and the row with another one behind it. -/
theorem Row.split {w : World} {cb : Nat} : ∀ (l : List (ByteArray × Nat)) (x : ByteArray × Nat) {o : Value}, Row w cb o (l ++ [x]) → w.heap[x.2]? = some (.cells (entC x.1 (lastP o l) (ringP cb)) 72)
  | [], _, _, h => h.1
  | _ :: l, x, _, h => Row.split l x h.2
theorem Row.join {w w' : World} {cb : Nat} (s : ByteArray) (eb : Nat) {S : Nat → Prop} (k : Kp S w w') : ∀ (l : List (ByteArray × Nat)) (x : ByteArray × Nat) {o : Value}, Row w cb o (l ++ [x]) → (∀ y ∈ l, ¬ S y.2) →
    w'.heap[x.2]? = some (.cells (entC x.1 (lastP o l) (entP eb)) 72) → w'.heap[eb]? = some (.cells (entC s (entP x.2) (ringP cb)) 72) → Row w' cb o (l ++ [x] ++ [(s, eb)])
  | [], x, o, _, _, h1, h2 => ⟨h1, h2, trivial⟩
  | y :: l, x, o, h, hs, h1, h2 => by
    refine ⟨?_, Row.join s eb k l x h.2 (fun z hz => hs z (by simp [hz])) h1 h2⟩
    have e : firstP cb (l ++ [x] ++ [(s, eb)]) = firstP cb (l ++ [x]) := by cases l <;> rfl
    show w'.heap[y.2]? = some (.cells (entC y.1 o (firstP cb (l ++ [x] ++ [(s, eb)]))) 72)
    rw [e]
    exact (k.block _ (heap_lt h.1) (hs y (by simp))).trans h.1

/-- An entry joins. -/
theorem ring_join {tb mb cb eb : Nat} {rm h m : Int} {L : List (ByteArray × Nat)} {s : ByteArray} (o n : Value) (w : World) (hr : Ring w tb mb cb rm h m L) (he : w.heap[eb]? = some (.cells (entC s o n) 72)) (hc : eb ≠ cb) (hL : ∀ x ∈ L, x.2 ≠ eb) :
    Calls Tryz.prog 56 #[.pointer (some ⟨cb, 0, none⟩), .pointer (some ⟨eb, 0, none⟩)] w fun e w' => e = .returned (.tuple #[]) ∧ Ring w' tb mb cb rm h m (L ++ [(s, eb)]) ∧ Kp (fun i => i = cb ∨ i = eb ∨ ∃ x ∈ L, i = x.2) w w' := by
  rcases List.eq_nil_or_concat L with rfl | ⟨l, x, rfl⟩
  · refine Calls.mono (join_none cb eb o n _ w hr.cache he (Ne.symm hc)) ?_
    rintro _ w' ⟨rfl, e1, c1, k1⟩
    exact ⟨rfl, ⟨c1, ⟨e1, trivial⟩, fun x hx => by simp at hx; subst hx; exact hc, by simp⟩, ⟨k1.os, k1.tape, k1.output, k1.size, fun i hi hn => k1.block i hi fun h => hn (h.elim Or.inl fun h => Or.inr (Or.inl h))⟩⟩
  · rw [List.concat_eq_append] at hr hL ⊢
    have hx := Row.split l x hr.row
    have hcc := hr.cache
    rw [lastP_append] at hcc
    have hxc : x.2 ≠ cb := hr.apart x (by simp)
    have hxe : x.2 ≠ eb := hL x (by simp)
    have hnd : ∀ y ∈ l, y.2 ≠ x.2 := by
      have := hr.once
      simp only [List.map_append, List.map_cons, List.map_nil, List.nodup_append] at this
      intro y hy
      exact this.2.2 y.2 (List.mem_map.2 ⟨y, hy, rfl⟩) x.2 (by simp)
    refine Calls.mono (join_some cb eb x.2 o n _ _ _ w hcc he hx (Ne.symm hc) hxc hxe) ?_
    rintro _ w' ⟨rfl, e1, c1, x1, k1⟩
    refine ⟨rfl, ⟨?_, Row.join s eb k1 l x hr.row (fun y hy hS => ?_) x1 e1, fun y hy => ?_, ?_⟩, ⟨k1.os, k1.tape, k1.output, k1.size, fun i hi hn => k1.block i hi fun h => hn (h.elim Or.inl fun h => Or.inr (h.elim Or.inl fun h => Or.inr ⟨x, by simp, h⟩))⟩⟩
    · rw [lastP_append]
      have e : firstP cb (l ++ [x] ++ [(s, eb)]) = firstP cb (l ++ [x]) := by cases l <;> rfl
      rw [e]
      exact c1
    · have a1 := hr.apart y (by simp [hy])
      have a2 := hL y (by simp [hy])
      have a3 := hnd y hy
      rcases hS with h | h | h
      · exact a1 h
      · exact a2 h
      · exact a3 h
    · rcases List.mem_append.1 hy with hy | hy
      · exact hr.apart y hy
      · simp at hy; subst hy; exact hc
    · rw [List.map_append, List.nodup_append]
      refine ⟨hr.once, by simp, fun a ha b hb => ?_⟩
      obtain ⟨y, hy, rfl⟩ := List.mem_map.1 ha
      simp at hb
      subst hb
      exact hL y hy

theorem lastP_cons {o o' : Value} {x : ByteArray × Nat} : ∀ {l : List (ByteArray × Nat)}, lastP o (x :: l) = lastP o' (x :: l) := rfl

/-- The oldest leaves. -/
theorem ring_leave {tb mb cb eb : Nat} {rm h m : Int} {l : List (ByteArray × Nat)} {s : ByteArray} (w : World) (hr : Ring w tb mb cb rm h m ((s, eb) :: l)) :
    Calls Tryz.prog 54 #[.pointer (some ⟨eb, 0, none⟩)] w fun e w' => e = .returned (.tuple #[]) ∧ Ring w' tb mb cb rm h m l ∧ (∃ o n, w'.heap[eb]? = some (.cells (entC s o n) 72)) ∧ Kp (fun i => i = cb ∨ ∃ x ∈ l, i = x.2) w w' := by
  have hce : cb ≠ eb := Ne.symm (hr.apart (s, eb) (by simp))
  cases l with
  | nil =>
    refine Calls.mono (leave_only cb eb w hr.cache hr.row.1 hce) ?_
    rintro _ w' ⟨rfl, e1, c1, k1⟩
    exact ⟨rfl, ⟨c1, trivial, fun x hx => by (cases hx), by simp⟩, ⟨_, _, e1⟩, ⟨k1.os, k1.tape, k1.output, k1.size, fun i hi hn => k1.block i hi fun h => hn (Or.inl h)⟩⟩
  | cons x l =>
    have hnd := hr.once
    simp only [List.map_cons, List.nodup_cons, List.mem_cons, List.mem_map, not_or] at hnd
    have hxc : x.2 ≠ cb := hr.apart x (by simp)
    have hxe : x.2 ≠ eb := Ne.symm hnd.1.1
    refine Calls.mono (leave_head cb eb x.2 _ _ _ w hr.cache hr.row.1 hr.row.2.1 hce hxc hxe) ?_
    rintro _ w' ⟨rfl, e1, c1, x1, k1⟩
    refine ⟨rfl, ⟨c1, ⟨x1, Row.kp k1 hr.row.2.2 fun y hy hS => ?_⟩, fun y hy => hr.apart y (by simp at hy ⊢; exact Or.inr hy), ?_⟩, ⟨_, _, e1⟩, ⟨k1.os, k1.tape, k1.output, k1.size, fun i hi hn => k1.block i hi fun h => hn (h.elim Or.inl fun h => Or.inr ⟨x, by simp, h⟩)⟩⟩
    · rcases hS with h | h
      · exact hr.apart y (by simp [hy]) h
      · exact hnd.2.1 ⟨y, hy, h⟩
    · have := hr.once
      rw [List.map_cons, List.nodup_cons] at this
      exact this.2
end Go.Proofs.YtaboeocgoocgfaaGreatDoor
namespace Go.Proofs.YtaboeocgoocgfaaGreatDoor
open Go.RowKit Go.ChangeMaps

set_option maxRecDepth 100000 in
set_option maxHeartbeats 4000000 in
theorem ring_forget {tb mb cb eb t k : Nat} {rm h m : Int} {L : List (ByteArray × Nat)} {D : List (ByteArray × Nat × Nat)} {s : ByteArray} (w : World) (hr : Ring w tb mb cb rm h m ((s, eb) :: L)) (hm : w.heap[mb]? = some (.map (ents ((s, eb, t) :: D)).toArray k)) (hmc : mb ≠ cb) (hmL : ∀ x ∈ (s, eb) :: L, x.2 ≠ mb) :
    Calls Tryz.prog 57 #[.pointer (some ⟨cb, 0, none⟩), .pointer (some ⟨eb, 0, none⟩)] w fun e w' => e = .returned (.tuple #[]) ∧ Ring w' tb mb cb rm h m L ∧ w'.heap[mb]? = some (.map (ents D).toArray k) ∧ Kp (fun i => i = cb ∨ i = mb ∨ ∃ x ∈ L, i = x.2) w w' := by
  go_enter Tryz.func57, Tryz.ntmps57
  go_wp2_with fail
  refine Calls.mono (ring_leave _ hr) ?_
  rintro _ V1 ⟨rfl, r1, ⟨eo, en, e1⟩, k1⟩
  have z1 := k1.size
  have c1 : V1.heap[cb]? = some (.cells #[.func (.func 24) #[.pointer (some ⟨tb, 0, none⟩)] #[], .func (.func 25) #[.pointer (some ⟨tb, 0, none⟩)] #[], .int .i64 rm, .int .i64 h, .int .i64 m, .map (some mb), .int .i64 0, .string ⟨#[]⟩, .bool false, .string ⟨#[]⟩, .int .i64 0, .slice none 0 0, .string ⟨#[]⟩, .bool false, .int .i64 0, .bool false, (lastP (ringP cb) L), (firstP cb L)] 74) := r1.cache
  have e1 : V1.heap[eb]? = some (.cells #[.int .i64 0, .string ⟨#[65]⟩, .bool false, .string s, .int .i64 0, .slice none 0 0, .string ⟨#[]⟩, .bool false, .int .i64 0, .bool false, eo, en] 72) := e1
  have m1 : V1.heap[mb]? = some (.map (ents ((s, eb, t) :: D)).toArray k) := (k1.block _ (heap_lt hm) (by rintro (h | ⟨x, hx, h⟩); exact hmc h; exact hmL x (by simp [hx]) h.symm)).trans hm
  go_wp2_with fail
  refine wp_region_noPanic ?_
  refine wp_region_held (S := fun W => (∀ j, W.cell? ⟨eb, j, none⟩ = (#[.int .i64 0, .string ⟨#[65]⟩, .bool false, .string s, .int .i64 0, .slice none 0 0, .string ⟨#[]⟩, .bool false, .int .i64 0, .bool false, eo, en] : Array Value)[j]?) ∧ (∀ j, W.cell? ⟨cb, j, none⟩ = (#[.func (.func 24) #[.pointer (some ⟨tb, 0, none⟩)] #[], .func (.func 25) #[.pointer (some ⟨tb, 0, none⟩)] #[], .int .i64 rm, .int .i64 h, .int .i64 m, .map (some mb), .int .i64 0, .string ⟨#[]⟩, .bool false, .string ⟨#[]⟩, .int .i64 0, .slice none 0 0, .string ⟨#[]⟩, .bool false, .int .i64 0, .bool false, (lastP (ringP cb) L), (firstP cb L)] : Array Value)[j]?)) (by kernel_rfl) ?_
  obtain ⟨V2, hV2⟩ : ∃ W4, W4 = (V1).drew := ⟨_, rfl⟩
  have e4 : ({ V1 with drawn := (V1).drawn + 1 } : World) = V2 := hV2.symm
  rw [e4]
  have hB4 : Below (V1).heap.size (V1) V2 := by rw [hV2]; exact (Below.refl _ _).drew
  have hS : (∀ j, V2.cell? ⟨eb, j, none⟩ = (#[.int .i64 0, .string ⟨#[65]⟩, .bool false, .string s, .int .i64 0, .slice none 0 0, .string ⟨#[]⟩, .bool false, .int .i64 0, .bool false, eo, en] : Array Value)[j]?) ∧ (∀ j, V2.cell? ⟨cb, j, none⟩ = (#[.func (.func 24) #[.pointer (some ⟨tb, 0, none⟩)] #[], .func (.func 25) #[.pointer (some ⟨tb, 0, none⟩)] #[], .int .i64 rm, .int .i64 h, .int .i64 m, .map (some mb), .int .i64 0, .string ⟨#[]⟩, .bool false, .string ⟨#[]⟩, .int .i64 0, .slice none 0 0, .string ⟨#[]⟩, .bool false, .int .i64 0, .bool false, (lastP (ringP cb) L), (firstP cb L)] : Array Value)[j]?) := ⟨(cells_of ((hB4.block _ (heap_lt e1)).trans e1)).1, (cells_of ((hB4.block _ (heap_lt c1)).trans c1)).1⟩
  have HV2 : Hid (V2 = (V1).drew) := hV2
  clear e4 hV2
  refine wpAnyH_take (i := 0) (v := .pointer (some ⟨cb, 0, none⟩)) rfl (by kernel_rfl) (by kernel_rfl) (by kernel_rfl) (fun _ _ _ h => h) (Or.inl ⟨by rfl, ?r⟩) hS ?_
  case r => intro W hW; simp [go_sem, execOp, Act.eval]
  simp only [List.getElem_toArray, List.getElem_cons_zero, Act.put, List.setIfInBounds_toArray, List.set_cons_succ, List.set_cons_zero]
  refine wpAnyH_take (i := 1) (v := .pointer (some ⟨cb, 0, none⟩)) rfl (by kernel_rfl) (by kernel_rfl) (by kernel_rfl) (fun _ _ _ h => h) (Or.inl ⟨by rfl, ?r⟩) hS ?_
  case r => intro W hW; simp [go_sem, execOp, Act.eval]
  simp only [List.getElem_toArray, List.getElem_cons_zero, List.getElem_cons_succ, Act.put, List.setIfInBounds_toArray, List.set_cons_succ, List.set_cons_zero]
  refine wpAnyH_take (i := 2) (v := .pointer (some ⟨cb, 5, none⟩)) rfl (by kernel_rfl) (by kernel_rfl) (by kernel_rfl) (fun _ _ _ h => h) (Or.inl ⟨by rfl, ?r⟩) hS ?_
  case r => intro W hW; simp [go_sem, execOp, Act.eval]
  simp only [List.getElem_toArray, List.getElem_cons_zero, List.getElem_cons_succ, Act.put, List.setIfInBounds_toArray, List.set_cons_succ, List.set_cons_zero]
  refine wpAnyH_take (i := 3) (v := .map (some mb)) rfl (by kernel_rfl) (by kernel_rfl) (by kernel_rfl) (fun _ _ _ h => h) (Or.inl ⟨by rfl, ?r⟩) hS ?_
  case r => intro W hW; simp [go_sem, execOp, Act.eval, hW.2]
  simp only [List.getElem_toArray, List.getElem_cons_zero, List.getElem_cons_succ, Act.put, List.setIfInBounds_toArray, List.set_cons_succ, List.set_cons_zero]
  refine wpAnyH_take (i := 4) (v := .pointer (some ⟨eb, 0, none⟩)) rfl (by kernel_rfl) (by kernel_rfl) (by kernel_rfl) (fun _ _ _ h => h) (Or.inl ⟨by rfl, ?r⟩) hS ?_
  case r => intro W hW; simp [go_sem, execOp, Act.eval]
  simp only [List.getElem_toArray, List.getElem_cons_zero, List.getElem_cons_succ, Act.put, List.setIfInBounds_toArray, List.set_cons_succ, List.set_cons_zero]
  refine wpAnyH_take (i := 5) (v := .pointer (some ⟨eb, 0, none⟩)) rfl (by kernel_rfl) (by kernel_rfl) (by kernel_rfl) (fun _ _ _ h => h) (Or.inl ⟨by rfl, ?r⟩) hS ?_
  case r => intro W hW; simp [go_sem, execOp, Act.eval]
  simp only [List.getElem_toArray, List.getElem_cons_zero, List.getElem_cons_succ, Act.put, List.setIfInBounds_toArray, List.set_cons_succ, List.set_cons_zero]
  refine wpAnyH_take (i := 6) (v := .pointer (some ⟨eb, 0, none⟩)) rfl (by kernel_rfl) (by kernel_rfl) (by kernel_rfl) (fun _ _ _ h => h) (Or.inl ⟨by rfl, ?r⟩) hS ?_
  case r => intro W hW; simp [go_sem, execOp, Act.eval]
  simp only [List.getElem_toArray, List.getElem_cons_zero, List.getElem_cons_succ, Act.put, List.setIfInBounds_toArray, List.set_cons_succ, List.set_cons_zero]
  refine wpAnyH_take (i := 7) (v := qk s) rfl (by kernel_rfl) (by kernel_rfl) (by kernel_rfl) (fun _ _ _ h => h) (Or.inl ⟨by rfl, ?r⟩) hS ?_
  case r => intro W hW; simp [go_sem, execOp, Act.eval, hW.1, qk]
  simp only [List.getElem_toArray, List.getElem_cons_zero, List.getElem_cons_succ, Act.put, List.setIfInBounds_toArray, List.set_cons_succ, List.set_cons_zero]
  have z2 := hB4.size
  have c2 : V2.heap[cb]? = _ := (hB4.block _ (heap_lt c1)).trans c1
  have m2 : V2.heap[mb]? = _ := (hB4.block _ (heap_lt m1)).trans m1
  have e2 : V2.heap[eb]? = _ := (hB4.block _ (heap_lt e1)).trans e1
  have d2 := hB4
  clear HV2 hB4
  have hdel := fun ty => delQ s eb t D ty 69 m2
  obtain ⟨V3, hV3⟩ : ∃ W, W = ChangeMaps.setBlock V2 mb (.map (ents D).toArray k) := ⟨_, rfl⟩
  rw [← hV3] at hdel
  have k3 : Kp (· = mb) V2 V3 := by rw [hV3]; exact Kp.setB _ _ _ rfl
  have m3 : V3.heap[mb]? = some (.map (ents D).toArray k) := by rw [hV3]; exact setBlock_same _ _ _ (heap_lt m2)
  clear hV3
  have c3 : V3.heap[cb]? = _ := (k3.block _ (heap_lt c2) (Ne.symm hmc)).trans c2
  have e3 : V3.heap[eb]? = _ := (k3.block _ (heap_lt e2) (hmL (s, eb) (by simp))).trans e2
  refine wpAnyH_all (rs := [8]) (by kernel_rfl) (by simp) (fun i2 hi2 => ?_)
  obtain rfl : i2 = 8 := by simpa using hi2
  clear hi2
  refine wpOp_step rfl (fun K hK => ite_yes rfl ?_)
  simp only [List.getElem_toArray, List.getElem_cons_zero, List.getElem_cons_succ]
  simp [go_sem, Act.eval, hdel]
  have hSV3 : (∀ j, V3.cell? ⟨eb, j, none⟩ = (#[.int .i64 0, .string ⟨#[65]⟩, .bool false, .string s, .int .i64 0, .slice none 0 0, .string ⟨#[]⟩, .bool false, .int .i64 0, .bool false, eo, en] : Array Value)[j]?) ∧ (∀ j, V3.cell? ⟨cb, j, none⟩ = (#[.func (.func 24) #[.pointer (some ⟨tb, 0, none⟩)] #[], .func (.func 25) #[.pointer (some ⟨tb, 0, none⟩)] #[], .int .i64 rm, .int .i64 h, .int .i64 m, .map (some mb), .int .i64 0, .string ⟨#[]⟩, .bool false, .string ⟨#[]⟩, .int .i64 0, .slice none 0 0, .string ⟨#[]⟩, .bool false, .int .i64 0, .bool false, (lastP (ringP cb) L), (firstP cb L)] : Array Value)[j]?) := ⟨(cells_of e3).1, (cells_of c3).1⟩
  refine hK _ _ ⟨hSV3, ?_⟩
  clear hK K hS hSV3 hdel
  try simp only [Act.put, List.setIfInBounds_toArray, List.set_cons_succ, List.set_cons_zero]
  refine wpAnyH_done (by kernel_rfl) ?_ _
  refine NoPanic.normal ?_
  try simp only [Act.put]
  go_wp2_with fail
  exact bodyPost_end (v := .tuple #[]) (results_none rfl _ _ _) rfl ⟨rfl, ⟨c3, Row.kp k3 (Row.kp (Kp.of (S := fun _ => False) d2) r1.row fun _ _ h => h) fun x hx => hmL x (by simp [hx]), r1.apart, r1.once⟩, m3, (((Kp.refl (fun i => i = cb ∨ i = mb ∨ ∃ x ∈ L, i = x.2) w).trans k1 fun _ _ h => h.elim Or.inl fun h => Or.inr (Or.inr h)).trans (Kp.of (S := fun _ => False) d2) fun _ _ h => h.elim).trans k3 fun _ _ h => Or.inr (Or.inl h)⟩

end Go.Proofs.YtaboeocgoocgfaaGreatDoor
namespace Go.Proofs.YtaboeocgoocgfaaGreatDoor
open Go.RowKit Go.ChangeMaps

/-- What Find answers where there is nothing. -/
abbrev fnd0 : Value := .agg #[.int .i64 0, .slice none 0 0, .string ⟨#[]⟩, .bool false, .int .i64 0]
set_option maxRecDepth 100000 in
set_option maxHeartbeats 4000000 in
theorem copied_0 (w : World) :
    Calls Tryz.prog 30 #[fnd0] w fun e w' => e = .returned fnd0 ∧ Below w.heap.size w w' := by
  go_enter Tryz.func30, Tryz.ntmps30
  go_wp2_with fail
  obtain ⟨U0, hU0⟩ : ∃ W, W = (w.alloc (.cells #[.int .i64 0, .slice none 0 0, .string ⟨#[]⟩, .bool false, .int .i64 0] 50)).alloc (.cells #[.int .i64 0, .slice none 0 0, .string ⟨#[]⟩, .bool false, .int .i64 0] 50) := ⟨_, rfl⟩
  rw [← hU0]
  have u0 : Below w.heap.size w U0 := by rw [hU0]; exact below2 w _ _
  have y0 : w.heap.size + 1 < U0.heap.size := by rw [hU0]; simp
  have b0 : U0.heap[w.heap.size]? = some (.cells #[.int .i64 0, .slice none 0 0, .string ⟨#[]⟩, .bool false, .int .i64 0] 50) := by rw [hU0, heap_old _ _ _ (by simp)]; exact heap_new _ _ _ rfl
  have r0 : U0.heap[w.heap.size + 1]? = some (.cells #[.int .i64 0, .slice none 0 0, .string ⟨#[]⟩, .bool false, .int .i64 0] 50) := by rw [hU0]; exact heap_new _ _ _ (by simp)
  clear hU0
  refine wp_region_noPanic ?_
  refine wp_region_held (S := fun W => W.cell? ⟨w.heap.size, 2, none⟩ = some (.string ⟨#[]⟩)) (by kernel_rfl) ?_
  obtain ⟨U1, hU1⟩ : ∃ W4, W4 = (U0).drew := ⟨_, rfl⟩
  have e4 : ({ U0 with drawn := (U0).drawn + 1 } : World) = U1 := hU1.symm
  rw [e4]
  have hB4 : Below (U0).heap.size (U0) U1 := by rw [hU1]; exact (Below.refl _ _).drew
  have hS : U1.cell? ⟨w.heap.size, 2, none⟩ = some (.string ⟨#[]⟩) := (cells_of ((hB4.block _ (by omega)).trans b0)).1 2
  have HU1 : Hid (U1 = (U0).drew) := hU1
  clear e4 hU1
  refine wpAnyH_take (i := 0) (v := .pointer (some ⟨w.heap.size, 1, none⟩)) rfl (by kernel_rfl) (by kernel_rfl) (by kernel_rfl) (fun _ _ _ h => h) (Or.inl ⟨by rfl, ?r⟩) hS ?_
  case r => intro W hW; simp [go_sem, execOp, Act.eval]
  simp only [List.getElem_toArray, List.getElem_cons_zero, Act.put, List.setIfInBounds_toArray, List.set_cons_succ, List.set_cons_zero]
  refine wpAnyH_take (i := 3) (v := .pointer (some ⟨w.heap.size, 2, none⟩)) rfl (by kernel_rfl) (by kernel_rfl) (by kernel_rfl) (fun _ _ _ h => h) (Or.inl ⟨by rfl, ?r⟩) hS ?_
  case r => intro W hW; simp [go_sem, execOp, Act.eval]
  simp only [List.getElem_toArray, List.getElem_cons_zero, List.getElem_cons_succ, Act.put, List.setIfInBounds_toArray, List.set_cons_succ, List.set_cons_zero]
  refine wpAnyH_take (i := 4) (v := .string ⟨#[]⟩) rfl (by kernel_rfl) (by kernel_rfl) (by kernel_rfl) (fun _ _ _ h => h) (Or.inl ⟨by rfl, ?r⟩) hS ?_
  case r => intro W hW; simp [go_sem, execOp, Act.eval, hW]
  simp only [List.getElem_toArray, List.getElem_cons_zero, List.getElem_cons_succ, Act.put, List.setIfInBounds_toArray, List.set_cons_succ, List.set_cons_zero]
  have u1 : Below w.heap.size w U1 := u0.trans (hB4.mono (by omega))
  have y1 : w.heap.size + 1 < U1.heap.size := Nat.lt_of_lt_of_le y0 hB4.size
  have b1 : U1.heap[w.heap.size]? = _ := (hB4.block _ (by omega)).trans b0
  have r1 : U1.heap[w.heap.size + 1]? = _ := (hB4.block _ (by omega)).trans r0
  clear HU1 hB4
  have bc1 := (cells_of b1).1
  refine wpAnyH_all (rs := [1]) (by kernel_rfl) (by simp) (fun i2 hi2 => ?_)
  obtain rfl : i2 = 1 := by simpa using hi2
  clear hi2
  refine wpOp_step rfl (fun K hK => ite_yes rfl ?_)
  simp only [List.getElem_toArray, List.getElem_cons_zero, List.getElem_cons_succ]
  go_simp
  refine hK _ _ ⟨hS, ?_⟩
  clear hK K bc1
  try simp only [Act.put, List.setIfInBounds_toArray, List.set_cons_succ, List.set_cons_zero]
  refine wpAnyH_all (rs := [2]) (by kernel_rfl) (by simp) (fun i2 hi2 => ?_)
  obtain rfl : i2 = 2 := by simpa using hi2
  clear hi2
  refine wpOp_step rfl (fun K hK => ite_yes rfl ?_)
  simp only [List.getElem_toArray, List.getElem_cons_zero, List.getElem_cons_succ]
  go_simp
  refine (clone_nil _).mono ?_
  rintro r U2 ⟨rfl, hU2⟩
  have c2 : Below U1.heap.size U1 U2 := by rw [hU2]; exact Below.refl _ _
  clear hU2
  have y2 := c2.size
  have b2 : U2.heap[w.heap.size]? = _ := (c2.block _ (by omega)).trans b1
  have r2 : U2.heap[w.heap.size + 1]? = _ := (c2.block _ (by omega)).trans r1
  go_simp
  have hSU2 : U2.cell? ⟨w.heap.size, 2, none⟩ = some (.string ⟨#[]⟩) := (cells_of b2).1 2
  refine hK _ _ ⟨hSU2, ?_⟩
  clear hK K hS
  have hS := hSU2
  clear hSU2
  try simp only [Act.put, List.setIfInBounds_toArray, List.set_cons_succ, List.set_cons_zero]
  refine wpAnyH_take (i := 6) (v := .pointer (some ⟨w.heap.size, 1, none⟩)) rfl (by kernel_rfl) (by kernel_rfl) (by kernel_rfl) (fun _ _ _ h => h) (Or.inl ⟨by rfl, ?r⟩) hS ?_
  case r => intro W hW; simp [go_sem, execOp, Act.eval]
  simp only [List.getElem_toArray, List.getElem_cons_zero, List.getElem_cons_succ, Act.put, List.setIfInBounds_toArray, List.set_cons_succ, List.set_cons_zero]
  refine wpAnyH_all (rs := [5]) (by kernel_rfl) (by simp) (fun i2 hi2 => ?_)
  obtain rfl : i2 = 5 := by simpa using hi2
  clear hi2
  refine wpOp_step rfl (fun K hK => ite_yes rfl ?_)
  simp only [List.getElem_toArray, List.getElem_cons_zero, List.getElem_cons_succ]
  go_simp
  refine (clone_any _ _ (by decide)).mono ?_
  rintro r U3 ⟨rfl, c3⟩
  have y3 := c3.size
  have b3 : U3.heap[w.heap.size]? = _ := (c3.block _ (by omega)).trans b2
  have r3 : U3.heap[w.heap.size + 1]? = _ := (c3.block _ (by omega)).trans r2
  have w3 : Below w.heap.size w U3 := u1.trans ((c2.mono (by omega)).trans (c3.mono (by omega)))
  go_simp
  have hSU3 : U3.cell? ⟨w.heap.size, 2, none⟩ = some (.string ⟨#[]⟩) := (cells_of b3).1 2
  refine hK _ _ ⟨hSU3, ?_⟩
  clear hK K hS
  have hS := hSU3
  clear hSU3
  try simp only [Act.put, List.setIfInBounds_toArray, List.set_cons_succ, List.set_cons_zero]
  obtain ⟨bc3, bf3⟩ := cells_of b3
  refine wpAnyH_all (rs := [7]) (by kernel_rfl) (by simp) (fun i2 hi2 => ?_)
  obtain rfl : i2 = 7 := by simpa using hi2
  clear hi2
  refine wpOp_step rfl (fun K hK => ite_yes rfl ?_)
  simp only [List.getElem_toArray, List.getElem_cons_zero, List.getElem_cons_succ]
  go_simp
  obtain ⟨U4, hU4⟩ : ∃ W, W = U3.setCell ⟨w.heap.size, 1, none⟩ (.slice none 0 0) := ⟨_, rfl⟩
  rw [← hU4]
  have k4 : Kp (· = w.heap.size) U3 U4 := by rw [hU4]; exact Kp.set _ _ _ _ rfl
  have b4 : U4.heap[w.heap.size]? = some (.cells #[.int .i64 0, .slice none 0 0, .string ⟨#[]⟩, .bool false, .int .i64 0] 50) := by rw [hU4]; exact heap_set b3 1 _
  clear hU4
  have y4 := k4.size
  have r4 : U4.heap[w.heap.size + 1]? = _ := (k4.block _ (by omega) (by omega)).trans r3
  have hSU4 : U4.cell? ⟨w.heap.size, 2, none⟩ = some (.string ⟨#[]⟩) := (cells_of b4).1 2
  refine hK _ _ ⟨hSU4, ?_⟩
  clear hK K hS
  have hS := hSU4
  clear hSU4
  try simp only [Act.put, List.setIfInBounds_toArray, List.set_cons_succ, List.set_cons_zero]
  obtain ⟨bc4, bf4⟩ := cells_of b4
  refine wpAnyH_take (i := 8) (v := .pointer (some ⟨w.heap.size, 2, none⟩)) rfl (by kernel_rfl) (by kernel_rfl) (by kernel_rfl) (fun _ _ _ h => h) (Or.inl ⟨by rfl, ?r⟩) hS ?_
  case r => intro W hW; simp [go_sem, execOp, Act.eval]
  simp only [List.getElem_toArray, List.getElem_cons_zero, List.getElem_cons_succ, Act.put, List.setIfInBounds_toArray, List.set_cons_succ, List.set_cons_zero]
  refine wpAnyH_all (rs := [9]) (by kernel_rfl) (by simp) (fun i2 hi2 => ?_)
  obtain rfl : i2 = 9 := by simpa using hi2
  clear hi2
  refine wpOp_step rfl (fun K hK => ite_yes rfl ?_)
  simp only [List.getElem_toArray, List.getElem_cons_zero, List.getElem_cons_succ]
  go_simp
  obtain ⟨U5, hU5⟩ : ∃ W, W = U4.setCell ⟨w.heap.size, 2, none⟩ (.string ⟨#[]⟩) := ⟨_, rfl⟩
  rw [← hU5]
  have k5 : Kp (· = w.heap.size) U4 U5 := by rw [hU5]; exact Kp.set _ _ _ _ rfl
  have b5 : U5.heap[w.heap.size]? = some (.cells #[.int .i64 0, .slice none 0 0, .string ⟨#[]⟩, .bool false, .int .i64 0] 50) := by rw [hU5]; exact heap_set b4 2 _
  clear hU5
  have y5 := k5.size
  have r5 : U5.heap[w.heap.size + 1]? = some (.cells #[.int .i64 0, .slice none 0 0, .string ⟨#[]⟩, .bool false, .int .i64 0] 50) := (k5.block _ (by omega) (by omega)).trans r4
  have hSU5 : U5.cell? ⟨w.heap.size, 2, none⟩ = some (.string ⟨#[]⟩) := (cells_of b5).1 2
  refine hK _ _ ⟨hSU5, ?_⟩
  clear hK K hS
  have hS := hSU5
  clear hSU5
  try simp only [Act.put, List.setIfInBounds_toArray, List.set_cons_succ, List.set_cons_zero]
  refine wpAnyH_done (by kernel_rfl) ?_ _
  refine NoPanic.normal ?_
  try simp only [Act.put]
  obtain ⟨bc5, bf5⟩ := cells_of b5
  obtain ⟨rc5, rf5⟩ := cells_of r5
  go_wp2_with fail
  obtain ⟨U6, hU6⟩ : ∃ W, W = ((((U5.setCell ⟨w.heap.size + 1, 0, none⟩ (.int .i64 0)).setCell ⟨w.heap.size + 1, 1, none⟩ (.slice none 0 0)).setCell ⟨w.heap.size + 1, 2, none⟩ (.string ⟨#[]⟩)).setCell ⟨w.heap.size + 1, 3, none⟩ (.bool false)).setCell ⟨w.heap.size + 1, 4, none⟩ (.int .i64 0) := ⟨_, rfl⟩
  rw [← hU6]
  have k6 : Kp (· = w.heap.size + 1) U5 U6 := by rw [hU6]; exact kp_set5 _ _ _ _ _ _ _
  have r6 : U6.heap[w.heap.size + 1]? = some (.cells #[.int .i64 0, .slice none 0 0, .string ⟨#[]⟩, .bool false, .int .i64 0] 50) := by rw [hU6]; exact kp_five r5
  clear hU6
  have rc6 := (cells_of r6).1
  exact bodyPost_ret (v := fnd0) (by simp [results, Tryz.results30, go_sem, rc6]) rfl ⟨rfl, w3.trans (((k4.below (by omega) fun i hi h => by omega).trans (k5.below (by omega) fun i hi h => by omega)).trans (k6.below (by omega) fun i hi h => by omega))⟩

end Go.Proofs.YtaboeocgoocgfaaGreatDoor
