/-
  .
  .
  .
-/
import Derived.Test.YtdbijkgnddcneaaGreatDoorCa
import Derived.WalkSpells
import Derived.OwnWalk
namespace Go.Proofs.YtdbijkgnddcneaaGreatDoor
open Go.RowKit
attribute [local go_sem] refold2 cell3_0 cell3_1 b28_0 b28_01
theorem nz26 (a : Option Addr) (n c : Nat) (W : World) : (binOp .neq 27 (.slice a n c) (.slice none 0 0)).run Tryz.prog W = .ok (.bool a.isSome) W := (run_neq_slice_nil_any W 27 32 a n c 0 0 Tryz.underlying27).trans (by cases a <;> rfl)
theorem nz23 (a : Option Addr) (n c : Nat) (W : World) : (binOp .neq 22 (.slice a n c) (.slice none 0 0)).run Tryz.prog W = .ok (.bool a.isSome) W := (run_neq_slice_nil_any W 22 3 a n c 0 0 Tryz.underlying22).trans (by cases a <;> rfl)
attribute [local go_sem] nz26 nz23
theorem heap_setCell_other (w : World) (g o b : Nat) (v : Value) (h : b ≠ g) : (w.setCell ⟨g, o, none⟩ v).heap[b]? = w.heap[b]? := by
 have := World.heap_setCells_other w g o [v] (i := b)
 by_cases hb : b < w.heap.size
 ·exact this hb h
 ·rw [Array.getElem?_eq_none (by simp; omega), Array.getElem?_eq_none (by omega)]
theorem numsOf (path : List Int) : ∀ u ∈ path.map (Value.int .i64), u.oneCell' = true := by
 intro u hu
 obtain ⟨z, _, rfl⟩ := List.mem_map.1 hu
 rfl
theorem path_cells {w : World} {pa : Addr} {path : List Int} (h : path = [] ∨ ∃ b o, some pa = some ⟨b, o, none⟩ ∧ b < w.heap.size ∧ ∀ (i : Nat) (hi : i < path.length), w.cell? ⟨b, o + i, none⟩ = some (.int .i64 path[i])) (W : World) (hW : ∀ b, b < w.heap.size → W.heap[b]? = w.heap[b]?) :
  ∀ (j : Nat) (u : Value), (path.map (Value.int .i64))[j]? = some u → W.cell? (pa.add j) = some u := by
 intro j u hu
 rw [List.getElem?_map] at hu
 obtain ⟨z, hz, rfl⟩ := Option.map_eq_some_iff.1 hu
 obtain ⟨hj, rfl⟩ := List.getElem?_eq_some_iff.1 hz
 rcases h with e | ⟨b, o, e1, e2, e3⟩
 ·subst e; simp at hj
 ·obtain rfl : pa = ⟨b, o, none⟩ := Option.some.inj e1
  rw [Addr.add_mid]
  exact (World.cell?_of_block (a := ⟨b, o + j, none⟩) (hW b e2)).trans (e3 j hj)
end Go.Proofs.YtdbijkgnddcneaaGreatDoor
namespace Go.Proofs.YtdbijkgnddcneaaGreatDoor
open Go.RowKit
attribute [local go_sem] refold2 cell3_0 cell3_1 b28_0 b28_01 nz26 nz23
theorem MD.In.aloft {B lo : Nat} {w w' : World} (hh : ∀ b, lo ≤ b → b < B → w'.heap[b]? = w.heap[b]?) : ∀ (n : Nat) (d : MD), MD.In B w n d → MD.Above lo n d → MD.In B w' n d
 | 0, _, h, _ => h
 | n + 1, d, ⟨h1, h2, h3, h4, h5⟩, ⟨a1, a2, a3⟩ => by
  refine ⟨h1, ⟨h2.1, ?_⟩, h3, h4, ?_⟩
  ·rcases h2.2 with e | ⟨b, o, e1, e2, e3⟩
   ·exact .inl e
   ·exact .inr ⟨b, o, e1, e2, fun i hi => (World.cell?_of_block (a := ⟨b, o + i, none⟩) (hh b (a1 b o e1) e2)).trans (e3 i hi)⟩
  ·rcases h5 with e | ⟨b, o, e1, e2, e3⟩
   ·exact .inl e
   ·exact .inr ⟨b, o, e1, e2, fun i hi => ⟨(e3 i hi).1.other (hh b (a2 b o e1) e2), MD.In.aloft hh n _ (e3 i hi).2 (a3 _ (List.getElem_mem hi))⟩⟩
theorem eleven_after (w3 : World) (h b : Nat) (h1 : b ≠ h) (h2 : b ≠ h + 1) (q : Nat) (v v0 v1 v2 v3 v4 v5 v6 v7 v8 v9 v10 : Value) :
  ((((((((((((w3.setCell ⟨h, q, none⟩ v).setCell ⟨h + 1, 0, none⟩ v0).setCell ⟨h + 1, 1, none⟩ v1).setCell ⟨h + 1, 2, none⟩ v2).setCell ⟨h + 1, 3, none⟩ v3).setCell ⟨h + 1, 4, none⟩ v4).setCell ⟨h + 1, 5, none⟩ v5).setCell ⟨h + 1, 6, none⟩ v6).setCell ⟨h + 1, 7, none⟩ v7).setCell ⟨h + 1, 8, none⟩ v8).setCell ⟨h + 1, 9, none⟩ v9).setCell ⟨h + 1, 10, none⟩ v10).heap[b]? = w3.heap[b]? := by
 rw [heap_setCell_other _ _ _ _ _ h2, heap_setCell_other _ _ _ _ _ h2, heap_setCell_other _ _ _ _ _ h2, heap_setCell_other _ _ _ _ _ h2, heap_setCell_other _ _ _ _ _ h2, heap_setCell_other _ _ _ _ _ h2, heap_setCell_other _ _ _ _ _ h2, heap_setCell_other _ _ _ _ _ h2, heap_setCell_other _ _ _ _ _ h2, heap_setCell_other _ _ _ _ _ h2, heap_setCell_other _ _ _ _ _ h2, heap_setCell_other _ _ _ _ _ h1]
theorem old_cells {w : World} {g k m : Nat} (h : w.there g 0 m) (hk : k * 11 + 11 ≤ m) : ∃ u0 u1 u2 u3 u4 u5 u6 u7 u8 u9 u10 : Value, (w.cell? ⟨g, k * 11, none⟩ = some u0 ∧ w.cell? ⟨g, k * 11 + 1, none⟩ = some u1 ∧ w.cell? ⟨g, k * 11 + 2, none⟩ = some u2 ∧ w.cell? ⟨g, k * 11 + 3, none⟩ = some u3 ∧ w.cell? ⟨g, k * 11 + 4, none⟩ = some u4 ∧ w.cell? ⟨g, k * 11 + 5, none⟩ = some u5 ∧ w.cell? ⟨g, k * 11 + 6, none⟩ = some u6 ∧ w.cell? ⟨g, k * 11 + 7, none⟩ = some u7 ∧ w.cell? ⟨g, k * 11 + 8, none⟩ = some u8 ∧ w.cell? ⟨g, k * 11 + 9, none⟩ = some u9 ∧ w.cell? ⟨g, k * 11 + 10, none⟩ = some u10) ∧
  (w.frozen? ⟨g, k * 11, none⟩ = false ∧ w.frozen? ⟨g, k * 11 + 1, none⟩ = false ∧ w.frozen? ⟨g, k * 11 + 2, none⟩ = false ∧ w.frozen? ⟨g, k * 11 + 3, none⟩ = false ∧ w.frozen? ⟨g, k * 11 + 4, none⟩ = false ∧ w.frozen? ⟨g, k * 11 + 5, none⟩ = false ∧ w.frozen? ⟨g, k * 11 + 6, none⟩ = false ∧ w.frozen? ⟨g, k * 11 + 7, none⟩ = false ∧ w.frozen? ⟨g, k * 11 + 8, none⟩ = false ∧ w.frozen? ⟨g, k * 11 + 9, none⟩ = false ∧ w.frozen? ⟨g, k * 11 + 10, none⟩ = false) := by
 have key := there_part h hk
 have get : ∀ j, j < 11 → ∃ u, w.cell? ⟨g, k * 11 + j, none⟩ = some u := fun j hj => Option.isSome_iff_exists.1 (key j hj).1
 obtain ⟨u0, e0⟩ := get 0 (by omega)
 obtain ⟨u1, e1⟩ := get 1 (by omega)
 obtain ⟨u2, e2⟩ := get 2 (by omega)
 obtain ⟨u3, e3⟩ := get 3 (by omega)
 obtain ⟨u4, e4⟩ := get 4 (by omega)
 obtain ⟨u5, e5⟩ := get 5 (by omega)
 obtain ⟨u6, e6⟩ := get 6 (by omega)
 obtain ⟨u7, e7⟩ := get 7 (by omega)
 obtain ⟨u8, e8⟩ := get 8 (by omega)
 obtain ⟨u9, e9⟩ := get 9 (by omega)
 obtain ⟨u10, e10⟩ := get 10 (by omega)
 exact ⟨u0, u1, u2, u3, u4, u5, u6, u7, u8, u9, u10, ⟨e0, e1, e2, e3, e4, e5, e6, e7, e8, e9, e10⟩, (key 0 (by omega)).2, (key 1 (by omega)).2, (key 2 (by omega)).2, (key 3 (by omega)).2, (key 4 (by omega)).2, (key 5 (by omega)).2, (key 6 (by omega)).2, (key 7 (by omega)).2, (key 8 (by omega)).2, (key 9 (by omega)).2, (key 10 (by omega)).2⟩
end Go.Proofs.YtdbijkgnddcneaaGreatDoor
namespace Go.Proofs.YtdbijkgnddcneaaGreatDoor
open Go.RowKit
def NewRow (w w' : World) (e : TypeId) (size m : Nat) (news : List Value) (p2 : Option Addr) (c2 : Nat) : Prop :=
 m ≤ c2 ∧ c2 ≤ maxLen ∧ Below w.heap.size w w' ∧ (∀ b o, p2 = some ⟨b, o, none⟩ → w.heap.size ≤ b) ∧
 ((m = 0 ∧ p2 = none ∧ c2 = 0) ∨ ∃ g cur, 0 < m ∧ p2 = some ⟨g, 0, none⟩ ∧ w.heap.size ≤ g ∧ g < w'.heap.size ∧ w'.heap[g]? = some (.cells cur e (0, 0)) ∧ m * size ≤ cur.size ∧ cur.toList.take (m * size) = news)
theorem run_append_new {P : Program} (w : World) (t ty e : TypeId) (i : TypeInfo) (z : Value) (size bytes : Nat) (ht : P.underlying t = some (.slice e)) (hi : P.info? e = some i) (hz : i.zero = some z)
  (hsize : i.size = size) (hby : i.bytes = bytes) (hzs : z.cells.size = size) (hsz : 0 < size) (sp : Option Addr) (m c : Nat) (news : List Value) (hl : news.length = m * size) (hn : sp = none → m = 0)
  (hnews : ∀ ad, sp = some ad → ∀ j u, news[j]? = some u → w.cell? (ad.add j) = some u) (h1 : ∀ u ∈ news, u.oneCell' = true) (h63 : m ≤ maxLen) (hbytes : m * bytes ≤ 140737488355328) :
  ∃ p2 c2 w', (Builtin.append_ #[t, t] ty #[.slice none 0 0, .slice sp m c]).run P w = .ok (.slice p2 m c2) w' ∧ NewRow w w' e size m news p2 c2 := by
 cases sp with
 | none =>
  obtain rfl := hn rfl
  refine ⟨none, 0, w, ?_, Nat.le_refl _, Nat.zero_le _, Below.refl _ _, fun _ _ h => (by cases h), .inl ⟨rfl, rfl, rfl⟩⟩
  simp [Builtin.append_, run_underlying ht, sizeOf, typeInfo, hi, Builtin.lenOf, Builtin.firstCells]
 | some ad =>
  obtain ⟨v', w', hr, h2, h3, h4⟩ := run_append_own (P := P) w w.heap.size t ty e i z size bytes ht hi hz hsize hby hzs hsz (.slice none 0 0) 0 [] (World.ownsRow_nil _ _ _ _) ad m c news hl (hnews ad rfl) h1 (by omega) (by rw [Nat.zero_add]; exact hbytes) (Nat.le_refl _)
  have hbel : Below w.heap.size w w' := Below.grown (Below.refl _ _) h3 (Nat.le_refl _) (fun j hj => by simp [Value.ownBlock] at hj)
  rw [List.nil_append, Nat.zero_add] at h2
  by_cases hm : m = 0
  ·obtain rfl := h4.2 ⟨rfl, hm⟩
   subst hm
   exact ⟨none, 0, w', hr, Nat.le_refl _, Nat.zero_le _, hbel, fun _ _ h => (by cases h), .inl ⟨rfl, rfl, rfl⟩⟩
  ·rcases h2.2 with ⟨_, h0⟩ | ⟨g, cap, cur, rfl, hb, hg, hc, hcm, hcs, htk⟩
   ·exact absurd h0 hm
   ·exact ⟨some ⟨g, 0, none⟩, cap, w', hr, hc, hcm, hbel, fun b o h => (by cases h; exact hb), .inr ⟨g, cur, by omega, rfl, hb, (Array.getElem?_eq_some_iff.1 hg).1, hg, by rw [hcs]; exact Nat.mul_le_mul_right _ hc, htk⟩⟩
theorem wpList_append_new {P : Program} {w : World} {ops : Array Oper} {rest : List Oper} {o : Oper} {a : Act} {Q : Exit → Act → World → Prop} (hgd : o.guard = none) (s x : Operand) (t : TypeId)
  (ho : o.op = .call { callee := .builtin .append, args := #[s, x], argTypes := #[t, t] })
  (e : TypeId) (i : TypeInfo) (z : Value) (size bytes : Nat) (ht : P.underlying t = some (.slice e)) (hi : P.info? e = some i) (hz : i.zero = some z)
  (hsize : i.size = size) (hby : i.bytes = bytes) (hzs : z.cells.size = size) (hsz : 0 < size) (hs : a.eval s = .slice none 0 0) (sp : Option Addr) (m c : Nat) (news : List Value) (hx : a.eval x = .slice sp m c)
  (hl : news.length = m * size) (hn : sp = none → m = 0)
  (hnews : ∀ ad, sp = some ad → ∀ j u, news[j]? = some u → w.cell? (ad.add j) = some u) (h1 : ∀ u ∈ news, u.oneCell' = true) (h63 : m ≤ maxLen) (hbytes : m * bytes ≤ 140737488355328)
  (h : ∀ p2 c2 w', NewRow w w' e size m news p2 c2 → wpList P ops Q rest (a.put o.dst (.slice p2 m c2)) w') : wpList P ops Q (o :: rest) a w := by
 refine wpList_plain hgd fun K hK => ?_
 obtain ⟨p2, c2, w', hr, h2⟩ := run_append_new (P := P) w t o.type e i z size bytes ht hi hz hsize hby hzs hsz sp m c news hl hn hnews h1 h63 hbytes
 unfold Oper.wp execOp
 simp only [ho, resolve, invoke, builtin, Sem.run_bind, Sem.run_pure, Result.andThen_ok, List.map_toArray, List.map_cons, List.map_nil, hs, hx, hr]
 exact hK _ _ (h p2 c2 w' h2)
def rowOf : List MD → List Value
 | [] => []
 | d :: l => d.cells.toList ++ rowOf l
theorem rowOf_length : ∀ l : List MD, (rowOf l).length = l.length * 11
 | [] => rfl
 | d :: l => by
  show (d.cells.toList ++ rowOf l).length = _
  rw [List.length_append, rowOf_length l]
  show 11 + _ = (l.length + 1) * 11
  omega
theorem rowOf_get : ∀ (l : List MD) (i : Nat) (hi : i < l.length) (j : Nat), j < 11 → (rowOf l)[i * 11 + j]? = l[i].cells[j]?
 | d :: l, 0, _, j, hj => by
  show (d.cells.toList ++ rowOf l)[0 * 11 + j]? = d.cells[j]?
  rw [Nat.zero_mul, Nat.zero_add, List.getElem?_append_left (show j < 11 from hj), Array.getElem?_toList]
 | d :: l, i + 1, hi, j, hj => by
  show (d.cells.toList ++ rowOf l)[(i + 1) * 11 + j]? = (d :: l)[i + 1].cells[j]?
  rw [List.getElem?_append_right (show 11 ≤ _ by omega)]
  show (rowOf l)[(i + 1) * 11 + j - 11]? = _
  rw [show (i + 1) * 11 + j - 11 = i * 11 + j by omega]
  exact rowOf_get l i (by simpa using hi) j hj
theorem rowOf_one : ∀ (l : List MD), ∀ u ∈ rowOf l, u.oneCell' = true
 | [], _, h => by cases h
 | d :: l, u, h => by
  rcases List.mem_append.1 (show u ∈ d.cells.toList ++ rowOf l from h) with h1 | h1
  ·exact MD.cells_one d u h1
  ·exact rowOf_one l u h1
theorem rowOf_cells {W : World} {ad : Addr} {items : List MD} (h : items = [] ∨ ∃ b o, some ad = some ⟨b, o, none⟩ ∧ ∀ (i : Nat) (hi : i < items.length), MD.CellsAt W b (o + i * 11) items[i]) :
  ∀ (j : Nat) (u : Value), (rowOf items)[j]? = some u → W.cell? (ad.add j) = some u := by
 intro j u hu
 have hj : j < items.length * 11 := by rw [← rowOf_length]; exact (List.getElem?_eq_some_iff.1 hu).1
 rcases h with e | ⟨b, o, e1, e2⟩
 ·subst e; simp at hj
 ·obtain rfl : ad = ⟨b, o, none⟩ := Option.some.inj e1
  have hi : j / 11 < items.length := by omega
  have hr : j % 11 < 11 := Nat.mod_lt _ (by omega)
  have ej : j / 11 * 11 + j % 11 = j := by omega
  rw [← ej, rowOf_get items _ hi _ hr] at hu
  rw [Addr.add_mid, show o + j = o + j / 11 * 11 + j % 11 by omega]
  exact (e2 _ hi _ hr).trans hu
theorem rowOf_at {W : World} {g : Nat} {cur : Array Value} {items : List MD} (hg : W.heap[g]? = some (.cells cur 32 (0, 0))) (ht : cur.toList.take (items.length * 11) = rowOf items) (i : Nat) (hi : i < items.length) : MD.CellsAt W g (i * 11) items[i] := by
 intro j hj
 rw [row_at hg (i * 11 + j), ← rowOf_get items i hi j hj, ← ht, List.getElem?_take_of_lt (by omega), Array.getElem?_toList]
theorem there_at {W : World} {g m : Nat} {cur : Array Value} (hg : W.heap[g]? = some (.cells cur 32 (0, 0))) (hm : m ≤ cur.size) : W.there g 0 m := fun j hj => by
 refine ⟨?_, fz _ _ _ _ _ hg⟩
 rw [row_at hg (0 + j)]; simp; omega
theorem path_row {W w3 : World} {path : List Int} {pp2 : Option Addr} {pc2 : Nat} (h : NewRow W w3 3 1 path.length (path.map (Value.int .i64)) pp2 pc2) :
  path = [] ∨ ∃ g, pp2 = some ⟨g, 0, none⟩ ∧ g < w3.heap.size ∧ W.heap.size ≤ g ∧ ∀ (i : Nat) (hi : i < path.length), w3.cell? ⟨g, 0 + i, none⟩ = some (.int .i64 path[i]) := by
 obtain ⟨_, _, _, _, h5⟩ := h
 rcases h5 with ⟨h0, _⟩ | ⟨g, cur, _, e1, e2, e3, e4, e5, e6⟩
 ·exact .inl (List.eq_nil_of_length_eq_zero h0)
 ·refine .inr ⟨g, e1, e3, e2, fun i hi => ?_⟩
  rw [row_at e4 (0 + i), Nat.zero_add]
  have : (cur.toList.take (path.length * 1))[i]? = some (.int .i64 path[i]) := by rw [e6, List.getElem?_map, List.getElem?_eq_getElem hi]; rfl
  rwa [List.getElem?_take_of_lt (by omega), Array.getElem?_toList] at this
theorem path_kept2 {w W w3 F : World} {path : List Int} {pp2 : Option Addr} (h : path = [] ∨ ∃ g, pp2 = some ⟨g, 0, none⟩ ∧ g < w3.heap.size ∧ W.heap.size ≤ g ∧ ∀ (i : Nat) (hi : i < path.length), w3.cell? ⟨g, 0 + i, none⟩ = some (.int .i64 path[i]))
  (hW : w.heap.size + 2 ≤ W.heap.size) (hF : ∀ b, w.heap.size + 2 ≤ b → b < w3.heap.size → F.heap[b]? = w3.heap[b]?) (hz : w3.heap.size ≤ F.heap.size) :
  path = [] ∨ ∃ b o2, pp2 = some ⟨b, o2, none⟩ ∧ b < F.heap.size ∧ ∀ (i : Nat) (hi : i < path.length), F.cell? ⟨b, o2 + i, none⟩ = some (.int .i64 path[i]) := by
 rcases h with e | ⟨g, e1, e2, e3, e4⟩
 ·exact .inl e
 ·exact .inr ⟨g, 0, e1, by omega, fun i hi => (World.cell?_of_block (a := ⟨g, 0 + i, none⟩) (hF g (by omega) e2)).trans (e4 i hi)⟩
theorem rows_kept2 {n lo g : Nat} {ds : List MD} {wr F : World} (hc : ∀ (i : Nat) (hi : i < ds.length), MD.CellsAt wr g (i * 11) ds[i] ∧ MD.In wr.heap.size wr n ds[i] ∧ MD.Above (g + 1) n ds[i]) (hlo : lo ≤ g) (hg : g < wr.heap.size)
  (hF : ∀ b, g ≤ b → b < wr.heap.size → F.heap[b]? = wr.heap[b]?) (hz : wr.heap.size ≤ F.heap.size) :
  (ds = [] ∨ ∃ b o, some (⟨g, 0, none⟩ : Addr) = some ⟨b, o, none⟩ ∧ b < F.heap.size ∧ ∀ (i : Nat) (hi : i < ds.length), MD.CellsAt F b (o + i * 11) ds[i] ∧ MD.In F.heap.size F n ds[i]) ∧ (∀ x ∈ ds, MD.Above lo n x) := by
 refine ⟨.inr ⟨g, 0, rfl, by omega, fun i hi => ?_⟩, fun x hx => ?_⟩
 ·obtain ⟨q1, q2, q3⟩ := hc i hi
  rw [Nat.zero_add]
  exact ⟨q1.other (hF _ (Nat.le_refl _) hg), MD.In.mono hz n _ (MD.In.aloft hF n _ q2 (MD.Above.mono (by omega) n _ q3))⟩
 ·obtain ⟨i, hi, rfl⟩ := List.getElem_of_mem hx
  exact MD.Above.mono (by omega) n _ (hc i hi).2.2
def VRel (n : Nat) (items : List MD) (W : World) (g : Nat) (i : Value) (wr : World) : Prop :=
 ∃ k : Nat, i = .int .i64 k ∧ CopyRel n items W g (.int .i64 k) wr ∧ ∀ (j : Nat) (hj : j < items.length), k ≤ j → MD.CellsAt wr g (j * 11) items[j]
theorem VRel.rest {items : List MD} {g k : Nat} {wr w9 : World} {d : MD} (h : ∀ (j : Nat) (hj : j < items.length), k ≤ j → MD.CellsAt wr g (j * 11) items[j]) (hg : g < wr.heap.size) (h9 : Below wr.heap.size wr w9) :
  ∀ (j : Nat) (hj : j < items.length), k + 1 ≤ j → MD.CellsAt (w9.setCells g (k * 11) d.cells.toList) g (j * 11) items[j] := fun j hj hk => by
 rw [rangeAt_cells]
 refine World.rangeAt_setCells_apart (rangeAt_cells.1 ((h j hj (by omega)).below hg h9)) _ _ _ (.inr (.inr ?_))
 show k * 11 + 11 ≤ j * 11
 omega
end Go.Proofs.YtdbijkgnddcneaaGreatDoor
