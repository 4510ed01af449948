/-
  A row of data that grows: the data in it lie off the row's own block, so an append in place leaves them as they are.
-/
import Derived.Test.YtnhbpcmiolkllabDoorPo2
import Derived.Test.YtnhbpcmiolkllabDoorIa2J
import Derived.Test.YtnhbpcmiolkllabDoorHc2
import Derived.Test.YtnhbpcmiolkllabDoorVa
import Derived.Test.YtnhbpcmiolkllabDoorHa2J
namespace Go.Proofs.YtnhbpcmiolkllabDoor
open Go.RowKit

/-- Append to a row of one's own: it stays in its block, or the block is new. -/
theorem run_append_where {P : Program} (w : World) (base : Nat) (t ty e : TypeId) (i : TypeInfo) (z : Value) (size bytes : Nat) (ht : P.underlying t = some (.slice e)) (hi : P.info? e = some i) (hz : i.zero = some z)
    (hsize : i.size = size) (hby : i.bytes = bytes) (hzs : z.cells.size = size) (hsz : 0 < size)
    (v : Value) (n : Nat) (xs : List Value) (hown : w.ownsRow base e size v n xs)
    (a : Addr) (m c : Nat) (news : List Value) (hl : news.length = m * size) (hnews : ∀ j u, news[j]? = some u → w.cell? (a.add j) = some u) (h1 : ∀ u ∈ news, u.oneCell' = true)
    (h63 : n + m ≤ maxLen) (hbytes : (n + m) * bytes ≤ 140737488355328) (hbase : base ≤ w.heap.size) :
    ∃ v' w', (Builtin.append_ #[t, t] ty #[v, .slice (some a) m c]).run P w = .ok v' w' ∧ w'.ownsRow base e size v' (n + m) (xs ++ news) ∧ w.grownBy w' v.ownBlock ∧
      ∀ g, v'.ownBlock = some g → v.ownBlock = some g ∨ w.heap.size ≤ g := by
  obtain ⟨v', w', hr, h2, h3, h4⟩ := run_append_own (P := P) w base t ty e i z size bytes ht hi hz hsize hby hzs hsz v n xs hown a m c news hl hnews h1 h63 hbytes hbase
  refine ⟨v', w', hr, h2, h3, ?_⟩
  intro g hg
  rcases hown.2 with ⟨e1, e2⟩ | ⟨g0, cap, cur, e1, hbg, hg0, hnc, hcm, hcs, htake⟩
  · subst e1 e2
    have hx : xs = [] := List.eq_nil_of_length_eq_zero (by simpa using hown.1)
    subst hx
    obtain ⟨v2, w2, hr2, h22, _⟩ := run_append_own (P := P) w w.heap.size t ty e i z size bytes ht hi hz hsize hby hzs hsz (.slice none 0 0) 0 [] (World.ownsRow_nil _ _ _ _) a m c news hl hnews h1 h63 hbytes (Nat.le_refl _)
    rw [hr] at hr2
    injection hr2 with e1 e2
    subst e1
    exact .inr (h22.lt g hg).1
  · subst e1
    by_cases hroom : n + m ≤ cap
    · subst hsize
      have hfit : n * i.size + news.length ≤ cur.size := by rw [hl, hcs, ← Nat.add_mul]; exact Nat.mul_le_mul_right _ hroom
      have hr2 := run_append_room (P := P) w t ty e i ht hi g0 n cap cur hg0 a m c news hl hnews h1 hroom hfit
      rw [hr] at hr2
      injection hr2 with e1 e2
      subst e1
      exact .inl hg
    · subst hsize
      subst hby
      have holds : ∀ j u, xs[j]? = some u → w.cell? ((⟨g0, 0, none⟩ : Addr).add j) = some u := hown.cells (g := g0) rfl
      have hs : n + m ≤ 9223372036854775807 := by simp only [maxLen] at h63; omega
      have hr2 := run_append_grow (P := P) w t ty e i z ht hi hz ⟨g0, 0, none⟩ n cap xs hown.1 holds a m c news hl hnews (by omega) (by omega) (growslice_fits (by omega) hbytes)
      rw [hr] at hr2
      injection hr2 with e1 e2
      subst e1
      simp [Value.ownBlock] at hg
      exact .inr (by omega)
theorem wp_append_where {P : Program} {w : World} {o : Oper} {a : Act} {K : Act → World → Prop} {Q : Exit → Act → World → Prop} (s x : Operand) (t : TypeId)
    (ho : o.op = .call { callee := .builtin .append, args := #[s, x], argTypes := #[t, t] })
    (base : Nat) (e : TypeId) (i : TypeInfo) (z : Value) (size bytes : Nat) (ht : P.underlying t = some (.slice e)) (hi : P.info? e = some i) (hz : i.zero = some z)
    (hsize : i.size = size) (hby : i.bytes = bytes) (hzs : z.cells.size = size) (hsz : 0 < size)
    (v : Value) (n : Nat) (xs : List Value) (hs : a.eval s = v) (hown : w.ownsRow base e size v n xs)
    (ad : Addr) (m c : Nat) (news : List Value) (hx : a.eval x = .slice (some ad) m c) (hl : news.length = m * size) (hnews : ∀ j u, news[j]? = some u → w.cell? (ad.add j) = some u) (h1 : ∀ u ∈ news, u.oneCell' = true)
    (h63 : n + m ≤ maxLen) (hbytes : (n + m) * bytes ≤ 140737488355328) (hbase : base ≤ w.heap.size)
    (h : ∀ v' w', w'.ownsRow base e size v' (n + m) (xs ++ news) → w.grownBy w' v.ownBlock → (∀ g, v'.ownBlock = some g → v.ownBlock = some g ∨ w.heap.size ≤ g) → K (a.put o.dst v') w') : o.wp P a w K Q := by
  obtain ⟨v', w', hr, h2, h3, h4⟩ := run_append_where (P := P) w base t o.type e i z size bytes ht hi hz hsize hby hzs hsz v n xs hown ad m c news hl hnews h1 h63 hbytes hbase
  unfold Oper.wp execOp
  simp only [ho, resolve, invoke, builtin, Sem.run_bind, Sem.run_pure, Result.andThen_ok, List.map_toArray, List.map_cons, List.map_nil, hs, hx, hr]
  exact h v' w' h2 h3 h4

/-- No Path and no Items of a datum lie in that block. -/
def MD.Off (og : Option Nat) : Nat → MD → Prop
  | 0, _ => True
  | n + 1, d => (d.h.path = [] ∨ ∀ b o, d.h.pp = some ⟨b, o, none⟩ → some b ≠ og) ∧ (d.items = [] ∨ ∀ b o, d.ip = some ⟨b, o, none⟩ → some b ≠ og) ∧ ∀ x ∈ d.items, MD.Off og n x
theorem MD.Above.off {lo : Nat} {og : Option Nat} (hg : ∀ g, og = some g → g < lo) : ∀ (n : Nat) (d : MD), MD.Above lo n d → MD.Off og n d
  | 0, _, _ => trivial
  | n + 1, _, ⟨h1, h2, h3⟩ => ⟨.inr fun b o e e2 => (by have := h1 b o e; have := hg b e2.symm; omega), .inr fun b o e e2 => (by have := h2 b o e; have := hg b e2.symm; omega), fun x hx => MD.Above.off hg n x (h3 x hx)⟩
theorem MD.In.offs {B : Nat} {w : World} {og : Option Nat} (hg : ∀ g, og = some g → B ≤ g) : ∀ (n : Nat) (d : MD), MD.In B w n d → MD.Off og n d
  | 0, _, h => h.elim
  | n + 1, d, ⟨_, h2, _, _, h5⟩ => by
    refine ⟨?_, ?_, ?_⟩
    · rcases h2.2 with e | ⟨b, o, e1, e2, _⟩
      · exact .inl e
      · refine .inr fun b' o' e e3 => ?_
        rw [e1] at e
        cases e
        have := hg b e3.symm
        omega
    · rcases h5 with e | ⟨b, o, e1, e2, _⟩
      · exact .inl e
      · refine .inr fun b' o' e e3 => ?_
        rw [e1] at e
        cases e
        have := hg b e3.symm
        omega
    · intro x hx
      rcases h5 with e | ⟨b, o, e1, e2, e3⟩
      · rw [e] at hx; cases hx
      · obtain ⟨i, hi, rfl⟩ := List.getElem_of_mem hx
        exact MD.In.offs hg n _ (e3 i hi).2
theorem MD.In.off {B : Nat} {w w' : World} {og : Option Nat} (hh : ∀ b, b < B → some b ≠ og → w'.heap[b]? = w.heap[b]?) : ∀ (n : Nat) (d : MD), MD.In B w n d → MD.Off og n d → MD.In B w' n d
  | 0, _, h, _ => h
  | n + 1, d, ⟨h1, h2, h3, h4, h5⟩, ⟨a1, a2, a3⟩ => by
    refine ⟨h1, ⟨h2.1, ?_⟩, h3, h4, ?_⟩
    · rcases a1 with e | a1
      · exact .inl e
      · rcases h2.2 with e | ⟨b, o, e1, e2, e3⟩
        · exact .inl e
        · exact .inr ⟨b, o, e1, e2, fun i hi => (World.cell?_of_block (a := ⟨b, o + i, none⟩) (hh b e2 (a1 b o e1))).trans (e3 i hi)⟩
    · rcases a2 with e | a2
      · exact .inl e
      · rcases h5 with e | ⟨b, o, e1, e2, e3⟩
        · exact .inl e
        · exact .inr ⟨b, o, e1, e2, fun i hi => ⟨(e3 i hi).1.other (hh b e2 (a2 b o e1)), MD.In.off hh n _ (e3 i hi).2 (a3 _ (List.getElem_mem hi))⟩⟩
theorem rowOf_snoc : ∀ (ds : List MD) (d : MD), rowOf (ds ++ [d]) = rowOf ds ++ d.cells.toList
  | [], d => by show d.cells.toList ++ [] = [] ++ d.cells.toList; simp
  | x :: ds, d => by
    show x.cells.toList ++ rowOf (ds ++ [d]) = (x.cells.toList ++ rowOf ds) ++ d.cells.toList
    rw [rowOf_snoc ds d, List.append_assoc]
theorem rowc_cell {W : World} {cs : Array Value} {t : TypeId} {q : Nat} {u : Value} (hq : cs.toList[q]? = some u) : (W.alloc (.cells cs t)).cell? ((⟨W.heap.size, 0, none⟩ : Addr).add q) = some u := by
  have e : (⟨W.heap.size, 0, none⟩ : Addr).add q = ⟨W.heap.size, q, none⟩ := by unfold Addr.add; split <;> simp_all
  rw [e, row_at (heap_alloc_new W (.cells cs t)) q]
  rwa [Array.getElem?_toList] at hq

/-- How large a datum is, made with so many levels to go; how many numbers it takes. -/
def sz : Nat → Nat
  | 0 => 1
  | r + 1 => 1 + 3 * sz r
def bd : Nat → Nat
  | 0 => 12
  | r + 1 => 3 + 3 * bd r
theorem sz_pos : ∀ r, 1 ≤ sz r
  | 0 => Nat.le_refl _
  | r + 1 => by show 1 ≤ 1 + _; omega
theorem bd_ge : ∀ r, 12 ≤ bd r
  | 0 => Nat.le_refl _
  | r + 1 => by have := bd_ge r; show 12 ≤ 3 + 3 * bd r; omega
def MadeP (r : Nat) (kb : Nat) (rp : Option Addr) (raw : List Int) (rc at_ : Nat) (w : World) (e : Ending) (w' : World) : Prop := ∃ (d : MD) (a' : Nat), e = .returned d.val ∧ MD.In w'.heap.size w' (r + 1) d ∧ MD.full (r + 1) d = true ∧ MD.size (r + 1) d ≤ sz r ∧ MD.Above w.heap.size (r + 1) d ∧ a' ≤ at_ + bd r ∧ MakerAt w' kb rp raw rc a' ∧ Moved kb w w'

/-- A datum of the row. -/
structure Kid (r bx : Nat) (og : Option Nat) (W : World) (x : MD) : Prop where
  here : MD.In W.heap.size W (r + 1) x
  hi : MD.Above (bx + 1) (r + 1) x
  full : MD.full (r + 1) x = true
  size : MD.size (r + 1) x ≤ sz r
  off : MD.Off og (r + 1) x
/-- A datum with a row of Items of its own. -/
structure PM (r kb : Nat) (rp : Option Addr) (raw : List Int) (rc : Nat) (w W : World) (a bx : Nat) (row : Array Value) (ip : Option Addr) (ds : List MD) (ic : Nat) : Prop where
  sb : Sb kb rp raw rc w W a bx row
  own : W.ownsRow (bx + 1) 32 11 (.slice ip ds.length ic) ds.length (rowOf ds)
  kids : ∀ x ∈ ds, Kid r bx (Value.slice ip ds.length ic).ownBlock W x
theorem Kid.later {r bx : Nat} {og : Option Nat} {W W' : World} {x : MD} (h : Kid r bx og W x) (hb : Below W.heap.size W W') : Kid r bx og W' x := ⟨h.here.later (Nat.le_refl _) hb, h.hi, h.full, h.size, h.off⟩
theorem Kid.moved {r bx kb : Nat} {og : Option Nat} {W W' : World} {x : MD} (h : Kid r bx og W x) (hk : kb ≤ bx) (hb : Moved kb W W') : Kid r bx og W' x :=
  ⟨MD.In.mono hb.size _ _ (MD.In.off (og := some kb) (fun b b1 b2 => hb.block b b1 (fun e => b2 (by rw [e]))) _ _ h.here (MD.Above.off (fun g e => by cases e; omega) _ _ h.hi)), h.hi, h.full, h.size, h.off⟩
theorem PM.below {r kb : Nat} {rp : Option Addr} {raw : List Int} {rc a bx : Nat} {w W W' : World} {row : Array Value} {ip : Option Addr} {ds : List MD} {ic : Nat} (h : PM r kb rp raw rc w W a bx row ip ds ic) (hb : Below W.heap.size W W') : PM r kb rp raw rc w W' a bx row ip ds ic :=
  ⟨⟨h.sb.st.up h.sb.lo (hb.mono h.sb.st.mv.size), (hb.block _ (Array.getElem?_eq_some_iff.1 h.sb.res).1).trans h.sb.res, (hb.block _ (Array.getElem?_eq_some_iff.1 h.sb.box).1).trans h.sb.box, h.sb.hi, h.sb.lo⟩, own_block h.own (fun b _ b2 => hb.block b b2), fun x hx => (h.kids x hx).later hb⟩
theorem PM.next {r kb : Nat} {rp : Option Addr} {raw : List Int} {rc a a' bx : Nat} {w W W' : World} {row : Array Value} {ip : Option Addr} {ds : List MD} {ic : Nat} (h : PM r kb rp raw rc w W a bx row ip ds ic) (hM : MakerAt W' kb rp raw rc a') (hv : Moved kb W W') : PM r kb rp raw rc w W' a' bx row ip ds ic := by
  have h1 := h.sb.lo
  have h2 := h.sb.hi
  exact ⟨h.sb.next hM hv, own_block h.own (fun b b1 b2 => hv.block b b2 (by omega)), fun x hx => (h.kids x hx).moved (by omega) hv⟩
/-- A row that has grown. -/
theorem PM.grown {r kb : Nat} {rp : Option Addr} {raw : List Int} {rc a bx : Nat} {w W W' : World} {row : Array Value} {ip : Option Addr} {ds : List MD} {ic : Nat} {vn : Value} {d : MD} (h : PM r kb rp raw rc w W a bx row ip ds ic) (hd : Kid r bx (Value.slice ip ds.length ic).ownBlock W d)
    (hown : W'.ownsRow (bx + 1) 32 11 vn (ds.length + 1) (rowOf ds ++ d.cells.toList)) (hg : W.grownBy W' (Value.slice ip ds.length ic).ownBlock) (hw : ∀ g, vn.ownBlock = some g → (Value.slice ip ds.length ic).ownBlock = some g ∨ W.heap.size ≤ g) :
    ∃ ip2 ic2, vn = .slice ip2 (ds.length + 1) ic2 ∧ PM r kb rp raw rc w W' a bx row ip2 (ds ++ [d]) ic2 := by
  have h1 := h.sb
  have hne : ∀ b, b ≤ bx → some b ≠ (Value.slice ip ds.length ic).ownBlock := fun b hb e => by
    have := (h.own.lt b e.symm).1
    omega
  have hbk : Below (bx + 1) W W' := ⟨hg.os, hg.tape, hg.output, hg.size, fun b hb => hg.block b (by have := (Array.getElem?_eq_some_iff.1 h1.box).1; omega) (hne b (by omega))⟩
  have hS : Sb kb rp raw rc w W' a bx row := ⟨h1.st.up h1.lo (hbk.mono (by have := h1.hi; omega)), (hbk.block _ (by have := h1.hi; omega)).trans h1.res, (hbk.block _ (by omega)).trans h1.box, h1.hi, h1.lo⟩
  have hK : ∀ x, Kid r bx (Value.slice ip ds.length ic).ownBlock W x → Kid r bx vn.ownBlock W' x := fun x hx => by
    refine ⟨MD.In.mono hg.size _ _ (MD.In.off (fun b b1 b2 => hg.block b b1 b2) _ _ hx.here hx.off), hx.hi, hx.full, hx.size, ?_⟩
    rcases hv : vn.ownBlock with _ | g
    · exact MD.Above.off (fun g e => by cases e) _ _ hx.hi
    · rcases hw g hv with e | e
      · rw [← e]; exact hx.off
      · exact MD.In.offs (fun g' e' => by cases e'; exact e) _ _ hx.here
  rcases hown.2 with ⟨_, e⟩ | ⟨g, cap, cur, e1, e2⟩
  · omega
  · refine ⟨some ⟨g, 0, none⟩, cap, e1, hS, ?_, fun x hx => ?_⟩
    · have := hown
      rw [e1] at this
      rw [rowOf_snoc]
      simpa using this
    · have e3 : (Value.slice (some ⟨g, 0, none⟩) (ds ++ [d]).length cap).ownBlock = vn.ownBlock := by rw [e1]; rfl
      rw [e3]
      rcases List.mem_append.1 hx with hx | hx
      · exact hK x (h.kids x hx)
      · have : x = d := by simpa using hx
        rw [this]
        exact hK d hd
theorem sum_le_sz (n s : Nat) : ∀ ds : List MD, (∀ x ∈ ds, MD.size n x ≤ s) → (ds.map (MD.size n)).sum ≤ ds.length * s
  | [], _ => Nat.zero_le _
  | x :: ds, h => by
    have h1 := h x (by simp)
    have h2 := sum_le_sz n s ds (fun y hy => h y (by simp [hy]))
    rw [List.map_cons, List.sum_cons, List.length_cons, Nat.add_mul]
    omega
/-- A struct, made. -/
theorem made_done {r kb : Nat} {rp : Option Addr} {raw : List Int} {rc at_ a bx : Nat} {w W F : World} {row : Array Value} {ip : Option Addr} {ds : List MD} {ic : Nat} (t : ByteArray) (hM : MakerAt w kb rp raw rc at_) (h : PM r kb rp raw rc w W a bx row ip ds ic) (hF : Below w.heap.size W F) (hF2 : ∀ b, b ≠ w.heap.size → F.heap[b]? = W.heap[b]?) (ha : a ≤ at_ + bd (r + 1))
    (hT : tyB 8 t = true) (t0 : t.size ≤ 100) (hl : ds.length ≤ 3) :
    MadeP (r + 1) kb rp raw rc at_ w (.returned (.agg #[.int .i64 8, .string t, .int .i64 0, .int .u64 0, .string ⟨#[]⟩, .int .i64 0, .int .i64 0, .int .i64 0, .int .i64 0, .slice none 0 0, .slice ip ds.length ic])) F := by
  have h1 := h.sb
  have hi := h1.hi
  have hS := h1.st.up h1.lo hF
  have m : (100 : Nat) ≤ maxLen := by decide
  have hform : (ds = [] ∧ ip = none ∧ ic = 0) ∨ ∃ g cur, ip = some ⟨g, 0, none⟩ ∧ bx + 1 ≤ g ∧ W.heap[g]? = some (.cells cur 32 (0, 0)) ∧ ds.length ≤ ic ∧ ic ≤ maxLen ∧ cur.toList.take (ds.length * 11) = rowOf ds := by
    rcases h.own.2 with ⟨e1, e2⟩ | ⟨g, cap, cur, e1, e2, e3, e4, e5, _, e6⟩
    · injection e1 with e1 _ e3
      exact .inl ⟨List.eq_nil_of_length_eq_zero e2, e1, e3⟩
    · injection e1 with e1 _ e7
      subst e7
      exact .inr ⟨g, cur, e1, e2, e3, e4, e5, e6⟩
  have hic : ds.length ≤ ic ∧ ic ≤ maxLen := by
    rcases hform with ⟨e1, _, e3⟩ | ⟨_, _, _, _, _, e5, e6, _⟩
    · subst e1 e3; exact ⟨Nat.le_refl _, Nat.zero_le _⟩
    · exact ⟨e5, e6⟩
  have hz : zeroK 8 0 0 ⟨#[]⟩ 0 0 0 0 0 ds.length = true := by simp [zeroK]
  refine ⟨⟨⟨8, t, 0, 0, ⟨#[]⟩, 0, 0, 0, 0, none, [], 0⟩, ip, ic, ds⟩, a, rfl, ⟨⟨by show _ ≤ (8 : Int); decide, by show (8 : Int) ≤ _; decide, by show _ ≤ (0 : Int); decide, by show (0 : Int) ≤ _; decide, by show (0 : Int) ≤ 0; decide, by show (0 : Int) ≤ _; decide, by show _ ≤ (0 : Int); decide, by show (0 : Int) ≤ _; decide, by show _ ≤ (0 : Int); decide, by show (0 : Int) ≤ _; decide, by show _ ≤ (0 : Int); decide, by show (0 : Int) ≤ _; decide, by show _ ≤ (0 : Int); decide, by show (0 : Int) ≤ _; decide, by show t.size ≤ _; omega, by show (⟨#[]⟩ : ByteArray).size ≤ _; decide, Nat.le_refl _, Nat.zero_le _⟩, ⟨fun z hz => (by cases hz), .inl rfl⟩, hic.1, hic.2, ?_⟩, ?_, ?_, ⟨fun _ _ e => (by cases e), ?_, fun x hx => MD.Above.mono (by omega) _ _ (h.kids x hx).hi⟩, ha, hS.maker hM, hS.mv⟩
  · rcases hform with ⟨e1, _, _⟩ | ⟨g, cur, e1, e2, e3, _, _, e6⟩
    · exact .inl e1
    · have hgF := (hF2 g (by omega)).trans e3
      refine .inr ⟨g, 0, e1, (Array.getElem?_eq_some_iff.1 hgF).1, fun i hi => ⟨?_, ?_⟩⟩
      · rw [Nat.zero_add]
        exact rowOf_at hgF e6 i hi
      · have hk := h.kids _ (List.getElem_mem hi)
        exact MD.In.mono hF.size _ _ (MD.In.off (og := some w.heap.size) (fun b _ b2 => hF2 b (fun e => b2 (by rw [e]))) _ _ hk.here (MD.Above.off (fun g' e => by cases e; omega) _ _ hk.hi))
  · have e1 : headOK ⟨8, t, 0, 0, ⟨#[]⟩, 0, 0, 0, 0, none, [], 0⟩ ds.length = true := by
      show (tyB 8 t && zeroK 8 0 0 ⟨#[]⟩ 0 0 0 0 0 ds.length && kindB ⟨8, t, 0, 0, ⟨#[]⟩, 0, 0, 0, 0, none, [], 0⟩) = true
      rw [hT, hz]; rfl
    show (headOK ⟨8, t, 0, 0, ⟨#[]⟩, 0, 0, 0, 0, none, [], 0⟩ ds.length && ((8 : Int) != 8 || (decide (ds.length ≤ 30) && ds.all (MD.full (r + 1))))) = true
    have e2 : ds.all (MD.full (r + 1)) = true := List.all_eq_true.2 fun x hx => (h.kids x hx).full
    rw [e1, e2, decide_eq_true (show ds.length ≤ 30 by omega)]; rfl
  · show 1 + (if (8 : Int) = 8 then (ds.map (MD.size (r + 1))).sum else 0) ≤ 1 + 3 * sz r
    rw [if_pos rfl]
    have e1 := sum_le_sz (r + 1) (sz r) ds (fun x hx => (h.kids x hx).size)
    have e2 := Nat.mul_le_mul_right (sz r) hl
    omega
  · intro b o e
    rcases hform with ⟨_, e1, _⟩ | ⟨g, cur, e1, e2, _⟩
    · exact absurd (e.symm.trans e1) (by simp)
    · have := e.symm.trans e1
      cases this
      omega
/-- A simple datum, handed on. -/
theorem made_of_sim {kb : Nat} {rp : Option Addr} {raw : List Int} {rc at_ a' : Nat} {w W F : World} {d : MD} (r : Nat) (hin : MD.In W.heap.size W 1 d) (hR : MD.right 1 d = true) (hab : MD.Above (w.heap.size + 1) 1 d) (hM : MakerAt w kb rp raw rc at_) (hW : MakerAt W kb rp raw rc a') (hv : Moved kb w W) (hF : Below w.heap.size W F) (hF2 : ∀ b, b ≠ w.heap.size → F.heap[b]? = W.heap[b]?) (ha : a' ≤ at_ + bd r) :
    MadeP r kb rp raw rc at_ w (.returned d.val) F := by
  have hk : kb < w.heap.size := (Array.getElem?_eq_some_iff.1 hM.row).1
  have hS : St kb rp raw rc w F a' := St.up ⟨hv, hW.row⟩ hk hF
  have hful := right_full hR
  have hit : d.items = [] := by
    rcases hd : d.items with _ | ⟨x, l⟩
    · rfl
    · have := full_items hful x (by rw [hd]; simp)
      cases this
  refine ⟨d, a', rfl, MD.In.more 1 _ _ (by omega) (MD.In.mono hF.size _ _ (MD.In.other (g := w.heap.size) (fun b b1 _ => hF2 b b1) 1 d hin hab)), ?_, ?_, ?_, ha, hS.maker hM, hS.mv⟩
  · have h1 : (headOK d.h d.items.length && (d.h.k != 8 || (decide (d.items.length ≤ 30) && d.items.all (MD.full 0)))) = true := hful
    show (headOK d.h d.items.length && (d.h.k != 8 || (decide (d.items.length ≤ 30) && d.items.all (MD.full r)))) = true
    rw [hit] at h1 ⊢
    exact h1
  · show 1 + (if d.h.k = 8 then (d.items.map (MD.size r)).sum else 0) ≤ sz r
    rw [hit]
    have := sz_pos r
    by_cases e : d.h.k = 8
    · rw [if_pos e]; simpa using this
    · rw [if_neg e]; exact this
  · obtain ⟨h1, h2, _⟩ := hab
    exact ⟨fun b o e => Nat.le_of_succ_le (h1 b o e), fun b o e => Nat.le_of_succ_le (h2 b o e), fun x hx => by rw [hit] at hx; cases hx⟩
end Go.Proofs.YtnhbpcmiolkllabDoor
