/-
  A list of Kids put behind nothing; what TreeMore asks of trees alone; the walk of TreeMore.
-/
import Derived.Test.YthbnegggohegkaaGreatDoorNg
import Derived.Test.YthbnegggohegkaaGreatDoorOp
import Derived.Test.YthbnegggohegkaaGreatDoorAkJ
import Derived.Test.YthbnegggohegkaaGreatDoorSyJ
import Derived.Test.YthbnegggohegkaaGreatDoorAi
import Derived.Test.YthbnegggohegkaaGreatDoorSmJ
import Derived.Test.YthbnegggohegkaaGreatDoorEx
namespace Go.Proofs.YthbnegggohegkaaGreatDoor
open Go.RowKit Go.Shelf

attribute [local go_sem] Oper.semAt_some

/-- The cells of nodes behind one another. -/
def nodesL (ks : List MT) : List Value := ks.flatMap fun t => t.cells.toList
theorem nodesL_length (ks : List MT) : (nodesL ks).length = ks.length * 5 := by
  induction ks with
  | nil => rfl
  | cons x xs ih => simp only [nodesL, List.flatMap_cons, List.length_append, List.length_cons] at *; rw [ih]; simp [MT.cells]; omega
theorem nodesL_cons (x : MT) (xs : List MT) : nodesL (x :: xs) = x.cells.toList ++ nodesL xs := by simp [nodesL]
theorem nodesL_append (xs ys : List MT) : nodesL (xs ++ ys) = nodesL xs ++ nodesL ys := by simp [nodesL]

theorem nodesL_get (xs : List MT) (j : Nat) (hj : j < xs.length) (i : Nat) (hi : i < 5) : (nodesL xs)[j * 5 + i]? = xs[j].cells.toList[i]? := by
  induction xs generalizing j with
  | nil => simp at hj
  | cons x xs ih =>
    have hl : x.cells.toList.length = 5 := rfl
    cases j with
    | zero =>
      rw [nodesL_cons, List.getElem?_append_left (by omega)]
      simp
    | succ j =>
      rw [nodesL_cons, List.getElem?_append_right (by omega), hl, show (j + 1) * 5 + i - 5 = j * 5 + i by omega]
      simpa using ih j (by simpa using hj)

theorem MT.InL.cells {B : Nat} {w : World} {b : Nat} : ∀ {ks : List MT} {o : Nat}, MT.InL B w b o ks → ∀ j u, (nodesL ks)[j]? = some u → w.cell? ⟨b, o + j, none⟩ = some u
  | [], o, _, j, u, hu => by simp [nodesL] at hu
  | t :: ts, o, h, j, u, hu => by
    rw [MT.InL] at h
    rw [nodesL_cons] at hu
    obtain ⟨⟨c0, c1, c2, c3, c4⟩, _, hl⟩ := h
    by_cases hj : j < 5
    · rw [List.getElem?_append_left (by show j < 5; exact hj)] at hu
      match j, hj with
      | 0, _ => cases hu; exact c0
      | 1, _ => cases hu; exact c1
      | 2, _ => cases hu; exact c2
      | 3, _ => cases hu; exact c3
      | 4, _ => cases hu; exact c4
    · rw [List.getElem?_append_right (by show 5 ≤ j; omega)] at hu
      have := MT.InL.cells hl (j - 5) u hu
      rwa [show o + 5 + (j - 5) = o + j by omega] at this

theorem info24 : (Tryz.prog.info? 24).map (fun i => (i.zero, i.size, i.bytes)) = some (some (.agg #[.int .i64 0, .string ⟨#[]⟩, .int .i64 0, .int .i64 0, .slice none 0 0]), 5, 64) := by kernel_rfl

theorem oneCell_nodes (ks : List MT) : ∀ u ∈ nodesL ks, u.oneCell' = true := by
  intro u hu
  obtain ⟨t, _, ht⟩ := List.mem_flatMap.1 hu
  simp [MT.cells, MT.row] at ht
  rcases ht with rfl | rfl | rfl | rfl | rfl <;> rfl

theorem run_append_kids (t : MT) (ty : TypeId) (w : World) {B : Nat} (ht : t.In B w) (base : Nat) (hb : base ≤ w.heap.size) (hlen : t.kids.length ≤ 1000000) :
    ∃ v' w', (Builtin.append_ #[22, 22] ty #[.slice none 0 0, .slice t.ptr t.kids.length t.cap]).run Tryz.prog w = .ok v' w' ∧ w'.ownsRow base 24 5 v' t.kids.length (nodesL t.kids) ∧ w.grownBy w' none := by
  obtain ⟨i0, hi, hz0, hz1, hz2⟩ := info_parts info24
  rcases ht.kidsL with h0 | ⟨b, o, hp, _, hl⟩
  · refine ⟨.slice none 0 0, w, ?_, by rw [h0]; exact World.ownsRow_nil w base 24 5, ⟨rfl, rfl, rfl, Nat.le_refl _, fun _ _ _ => rfl⟩⟩
    rw [h0]
    cases t.ptr <;> simp [Builtin.append_, run_underlying Tryz.underlying22, sizeOf, typeInfo, hi, Builtin.lenOf, Builtin.firstCells, loadCells, loadCellsFrom]
  · obtain ⟨v', w', hr, h1, h2, _⟩ := run_append_own (P := Tryz.prog) w base 22 ty 24 i0 _ 5 64 Tryz.underlying22 hi hz0 hz1 hz2 rfl (by decide) (.slice none 0 0) 0 [] (World.ownsRow_nil w base 24 5) ⟨b, o, none⟩ t.kids.length t.cap (nodesL t.kids) (nodesL_length _)
      (fun j u hu => by
        have e : (⟨b, o, none⟩ : Addr).add j = ⟨b, o + j, none⟩ := by unfold Addr.add; split <;> simp_all
        rw [e]; exact hl.cells j u hu) (oneCell_nodes _) (by unfold maxLen; omega) (by omega) hb
    rw [hp]
    rw [Nat.zero_add] at h1
    exact ⟨v', w', hr, h1, h2⟩

/-- append(nil, n.Kids...) in a walk. -/
theorem wpListIn_append_kids {F : Fence} {n : Nat} (w : World) {ops : Array Oper} {rest : List Oper} {o : Oper} {a : Act} {Q : Exit → Act → World → Prop}
    (hg : o.guard = none) (s x : Operand) (hop : o.op = Op.call { callee := Callee.builtin Builtin.append, args := #[s, x], argTypes := #[22, 22] })
    (hs : a.eval s = .slice none 0 0) (t : MT) (hx : a.eval x = .slice t.ptr t.kids.length t.cap) {B : Nat} (ht : t.In B w) (base : Nat) (hb : base ≤ w.heap.size) (hlen : t.kids.length ≤ 1000000)
    (hK : ∀ v' w', w'.ownsRow base 24 5 v' t.kids.length (nodesL t.kids) → w.grownBy w' none → wpListIn F n Tryz.prog ops Q rest (a.put o.dst v') w') :
    wpListIn F n Tryz.prog ops Q (o :: rest) a w := by
  obtain ⟨v', w', hrun, r1, r2⟩ := run_append_kids t o.type w ht base hb hlen
  refine wpListIn_plain hg fun K hK' => ?_
  unfold Oper.wpIn
  constructor
  · simp [hop, Oper.about, resolve, Sem.run_pure, Target.leads]
  · rw [Oper.semAt_plain F _ _ (by rw [hop]; intro c hc'; cases hc')]
    simp [hop, hs, hx, hrun, execOp, resolve, invoke, builtin, Result.andThen]
    exact hK' _ _ (hK v' w' r1 r2)
end Go.Proofs.YthbnegggohegkaaGreatDoor
namespace Go.Proofs.YthbnegggohegkaaGreatDoor

mutual
theorem MT.ord_deep : ∀ (t : MT) (d : Nat), ∀ x ∈ MT.ord d t, d ≤ x.1
  | .node k s n a p c ks, d => fun x hx => by
    rw [MT.ord, List.mem_cons] at hx
    rcases hx with rfl | hx
    · exact Nat.le_refl _
    · have := MT.ordL_deep ks (d + 1) x hx; omega
theorem MT.ordL_deep : ∀ (ts : List MT) (d : Nat), ∀ x ∈ MT.ordL d ts, d ≤ x.1
  | [], d => fun x hx => by rw [MT.ordL] at hx; cases hx
  | t :: ts, d => fun x hx => by
    rw [MT.ordL, List.mem_append] at hx
    rcases hx with hx | hx
    · exact MT.ord_deep t d x hx
    · exact MT.ordL_deep ts d x hx
end

theorem MT.ord_first (t : MT) {pre : List (Nat × MT)} {x : Nat × MT} (h : pre ++ [x] <+: MT.ord 1 t) : (pre = [] ∧ x.1 = 1) ∨ (0 < pre.length ∧ 2 ≤ x.1) := by
  obtain ⟨r, hr⟩ := h
  rw [MT.ord_eq] at hr
  cases pre with
  | nil =>
    simp only [List.nil_append, List.cons_append, List.cons.injEq] at hr
    exact .inl ⟨rfl, by rw [hr.1]⟩
  | cons y pre =>
    simp only [List.cons_append, List.cons.injEq] at hr
    refine .inr ⟨by simp, MT.ordL_deep t.kids 2 x ?_⟩
    rw [← hr.2]; simp

mutual
theorem MT.alike_self : ∀ t : MT, MT.alike t t = true
  | .node k s n a p c ks => by simp [MT.alike, MT.kind_node, MT.text_node, MT.num_node, MT.kids_node, MT.alikeL_self ks]
theorem MT.alikeL_self : ∀ ts : List MT, MT.alikeL ts ts = true
  | [] => by simp [MT.alikeL]
  | t :: ts => by simp [MT.alikeL, MT.alike_self t, MT.alikeL_self ts]
end

/-- A tree with another text. -/
def MT.withText (t : MT) (s : ByteArray) : MT := .node t.kind s t.num t.at_ t.ptr t.cap t.kids
/-- A tree with other Kids. -/
def MT.withKids (t : MT) (p : Option Addr) (c : Nat) (ks : List MT) : MT := .node t.kind t.text t.num t.at_ p c ks

theorem MT.same_withText (t : MT) (s : ByteArray) (h : t.size ≤ 1000000) : MT.same t (t.withText (t.text ++ s)) = (s.data.toList == []) := by
  cases t with
  | node k u n a p c ks =>
    unfold MT.same
    rw [decide_eq_true h, Bool.true_and]
    simp only [MT.alike, MT.withText, MT.kind_node, MT.text_node, MT.num_node, MT.kids_node, MT.alikeL_self, beq_self_eq_true, Bool.true_and, Bool.and_true]
    rw [Bool.eq_iff_iff]
    simp [ByteArray.data_append]

theorem MT.same_withKids (t : MT) (p : Option Addr) (c : Nat) (x : MT) : MT.same t (t.withKids p c (t.kids ++ [x])) = false := by
  cases t with
  | node k u n a q d ks =>
    unfold MT.same
    simp [MT.alike, MT.withKids, MT.kind_node, MT.text_node, MT.num_node, MT.kids_node]

theorem MT.size_withKids (t : MT) (p : Option Addr) (c : Nat) (x : MT) (hx : x.size = 1) : (t.withKids p c (t.kids ++ [x])).size = t.size + 1 := by
  rw [MT.size_eq, MT.size_eq t]
  simp only [MT.withKids, MT.kids_node, MT.sizeL_append]
  simp [MT.sizeL, hx]; omega
end Go.Proofs.YthbnegggohegkaaGreatDoor
namespace Go.Proofs.YthbnegggohegkaaGreatDoor
open Go.RowKit Go.Shelf

attribute [local go_sem] Oper.semAt_some

/-- The box of the result, and the box of the argument. -/
structure MoBox (Bt : Nat) (t : MT) (W : World) : Prop where
  k0 : W.cell? ⟨Bt, 0, none⟩ = some (.int .i64 t.kind)
  k1 : W.cell? ⟨Bt, 1, none⟩ = some (.string t.text)
  k2 : W.cell? ⟨Bt, 2, none⟩ = some (.int .i64 t.num)
  k3 : W.cell? ⟨Bt, 3, none⟩ = some (.int .i64 t.at_)
  k4 : W.cell? ⟨Bt, 4, none⟩ = some (.slice t.ptr t.kids.length t.cap)
  r : W.cell? ⟨Bt + 1, 0, none⟩ = some (.bool false)
  f : W.frozen? ⟨Bt + 1, 0, none⟩ = false

theorem MoBox.below {Bt B : Nat} {t : MT} {W W' : World} (h : MoBox Bt t W) (hB : Bt + 1 < B) (hb : Below B W W') : MoBox Bt t W' :=
  ⟨(hb.cell (p := ⟨Bt, _, none⟩) (by show Bt < B; omega)).trans h.k0, (hb.cell (p := ⟨Bt, _, none⟩) (by show Bt < B; omega)).trans h.k1, (hb.cell (p := ⟨Bt, _, none⟩) (by show Bt < B; omega)).trans h.k2,
   (hb.cell (p := ⟨Bt, _, none⟩) (by show Bt < B; omega)).trans h.k3, (hb.cell (p := ⟨Bt, _, none⟩) (by show Bt < B; omega)).trans h.k4,
   (hb.cell (p := ⟨Bt + 1, _, none⟩) hB).trans h.r, (hb.frozen (p := ⟨Bt + 1, _, none⟩) hB).trans h.f⟩

theorem five_new (w : World) (a b c d e : Value) (t : TypeId) (n : Nat) (hn : n = w.heap.size) : ∀ j u, [a, b, c, d, e][j]? = some u → (w.alloc (.cells #[a, b, c, d, e] t)).cell? ((⟨n, 0, none⟩ : Addr).add j) = some u := by
  subst hn
  intro j u hj
  have e' : (⟨w.heap.size, 0, none⟩ : Addr).add j = ⟨w.heap.size, j, none⟩ := by unfold Addr.add; split <;> simp_all
  rw [e', World.cell?_alloc_new]
  simpa using hj

theorem equal_nilFunc (fn : Fn) (lb : Array Value) (W : World) : (Op.equal 43 (.func fn #[] lb) .nilFunc).run Tryz.prog W = .ok false W := by
  show (Op.equalIn (_ + 1) 43 (.func fn #[] lb) .nilFunc).run Tryz.prog W = _
  rw [Op.equalIn]
  simp [go_sem, run_underlying Tryz.underlying43]
theorem eq_nilFunc (fn : Fn) (lb : Array Value) (W : World) : (binOp .eql 43 (.func fn #[] lb) .nilFunc).run Tryz.prog W = .ok (.bool false) W := by
  simp [binOp, go_sem, equal_nilFunc]

theorem min_more (n : Nat) (h : n ≤ 100000) (r : Int) (hr : r = min (((n + 1 : Nat)) : Int) 1000001) : r = (n : Int) + 1 := by
  rw [hr, Int.min_eq_left (by omega)]; simp

/-- The Kid more. -/
def leafM : MT := .node 16 ⟨#[]⟩ 0 0 none 0 []
def moreM (t : MT) (g c : Nat) : MT := t.withKids (some ⟨g, 0, none⟩) c (t.kids ++ [leafM])
theorem nodeV_more (t : MT) (g c : Nat) : nodeV (moreM t g c) = .agg #[.int .i64 t.kind, .string t.text, .int .i64 t.num, .int .i64 t.at_, .slice (some ⟨g, 0, none⟩) (t.kids.length + 1) c] := by
  simp [moreM, MT.withKids, MT.kind, MT.text, MT.num, MT.at_, MT.ptr, MT.cap, MT.kids]
theorem nodeV_other (t : MT) (s : ByteArray) : nodeV (t.withText s) = .agg #[.int .i64 t.kind, .string s, .int .i64 t.num, .int .i64 t.at_, .slice t.ptr t.kids.length t.cap] := by
  simp [MT.withText, MT.kind, MT.text, MT.num, MT.at_, MT.ptr, MT.cap, MT.kids]

theorem more_in {t : MT} {g c B : Nat} {w : World} (ht : t.In w.heap.size w) {base : Nat} (ho : w.ownsRow base 24 5 (.slice (some ⟨g, 0, none⟩) (t.kids.length + 1) c) (t.kids.length + 1) (nodesL t.kids ++ [.int .i64 16, .string ⟨#[]⟩, .int .i64 0, .int .i64 0, .slice none 0 0])) (hB : w.heap.size ≤ B) :
    (moreM t g c).In B w := by
  obtain ⟨hg1, hg2⟩ := ho.lt g rfl
  have hc : t.kids.length + 1 ≤ c ∧ c ≤ maxLen := by
    rcases ho.2 with ⟨h, _⟩ | ⟨g', cap, cur, h, _, _, h1, h2, _⟩
    · cases h
    · cases h; exact ⟨h1, h2⟩
  have hcell : ∀ j u, (nodesL (t.kids ++ [leafM]))[j]? = some u → w.cell? ⟨g, j, none⟩ = some u := by
    intro j u hu
    have h1 := ho.cells (g := g) rfl j u (by rw [nodesL_append] at hu; exact hu)
    have e : (⟨g, 0, none⟩ : Addr).add j = ⟨g, j, none⟩ := by unfold Addr.add; split <;> simp_all
    rwa [e] at h1
  unfold moreM MT.withKids
  rw [MT.In]
  refine ⟨ht.text_le, by simpa using hc.1, hc.2, .inr ⟨g, 0, rfl, by omega, MT.InL.mk fun i hi => ?_⟩⟩
  have hget : ∀ o u, o < 5 → (t.kids ++ [leafM])[i].cells.toList[o]? = some u → w.cell? ⟨g, i * 5 + o, none⟩ = some u := fun o u ho' hu =>
    hcell _ u (by rw [nodesL_get _ i hi o ho']; exact hu)
  refine ⟨⟨?_, ?_, ?_, ?_, ?_⟩, ?_⟩
  · simpa using hget 0 _ (by omega) rfl
  · simpa using hget 1 _ (by omega) rfl
  · simpa using hget 2 _ (by omega) rfl
  · simpa using hget 3 _ (by omega) rfl
  · rw [Nat.zero_add]; exact hget 4 _ (by omega) rfl
  · by_cases hik : i < t.kids.length
    · rw [List.getElem_append_left hik]
      rcases ht.kidsL with h0 | ⟨b, o, hp, hlt, hl⟩
      · rw [h0] at hik; simp at hik
      · exact MT.In.mono hB _ (hl.get i hik).2
    · have hi' : i = t.kids.length := by simp at hi; omega
      subst hi'
      rw [List.getElem_append_right (Nat.le_refl _)]
      simp only [Nat.sub_self, List.getElem_singleton, leafM]
      rw [MT.In]
      exact ⟨Nat.zero_le _, Nat.le_refl _, Nat.zero_le _, .inl rfl⟩

theorem other_in {t : MT} {s : ByteArray} {B : Nat} {w : World} (ht : t.In B w) (hs : s.size ≤ maxLen) : (t.withText s).In B w := by
  unfold MT.withText
  rw [MT.In]
  exact ⟨hs, ht.len_le, ht.cap_le, ht.kidsL⟩

theorem results8 (tmps : Array Value) (w : World) (g : Nat) (b : Bool) (hp : tmps[4]?.getD undef = .pointer (some ⟨g, 0, none⟩)) (hc : w.cell? ⟨g, 0, none⟩ = some (.bool b)) : (results Tryz.f8 tmps).run Tryz.prog w = .ok (.bool b) w := by
  have h : Tryz.f8.results = #[.cell 4 4] := rfl
  simp only [results, h]
  simp [Sem.run_bind, Result.andThen, hp, asAddr, loadVar, hc, go_sem]

set_option maxRecDepth 100000 in
set_option maxHeartbeats 2000000 in
theorem moreLaw_any {gw ow gs os : Nat} (t : MT) (s : ByteArray) (w : World) (ht : TabsAt gw ow gs os w) (hg : w.cell? ⟨0, 0, none⟩ = some (.iface 129 (.agg #[hnd 33]))) (hin : t.In w.heap.size w)
    (hsm : ∀ x ∈ MT.ord 1 t, x.2.text.size ≤ 140737488351232) (hs : s.size ≤ 140737488351232) :
    Calls Tryz.prog 8 #[nodeV t, .string s] w fun e w' => e = .returned (.bool true) ∧ Below w.heap.size w w' := by
  have h6 := ht.two
  have hB2 := below2 w (nodeO t) (.cells #[.bool false] 4)
  have hz2 : ((w.alloc (nodeO t)).alloc (.cells #[.bool false] 4)).heap.size = w.heap.size + 2 := by simp
  have HM : Hid (MoBox w.heap.size t ((w.alloc (nodeO t)).alloc (.cells #[.bool false] 4))) := by
    have h1 := (BoxAt.new w t).below (B := w.heap.size + 1) (by omega) ((Below.refl _ _).alloc (by simp) (.cells #[.bool false] 4))
    have h2 := Boxed.new (w.alloc (nodeO t)) 4 (.bool false)
    rw [World.size_alloc] at h2
    exact ⟨h1.k0, h1.k1, h1.k2, h1.k3, h1.k4, h2.cell, h2.frozen⟩
  refine (callsIn_wide (n := 8)).1 ?_
  refine callsIn_of_wp_marks Tryz.func8 rfl trivial ?_ rfl
  simp only [Tryz.ntmps8, List.size_toArray, List.length_cons, List.length_nil, Nat.reduceAdd, Nat.reduceSub, Array.replicate_succ, Array.replicate_zero, List.push_toArray, List.append_toArray, List.nil_append, List.cons_append]
  gi_wp2_with fail
  refine ⟨trivial, ?_⟩
  refine (callsIn_wide.2 (examples_any _ (ht.below (Nat.le_refl _) hB2) ((hB2.cell (p := ⟨0, 0, none⟩) (by show 0 < _; omega)).trans hg))).mono ?_
  have HW : ∃ W1, W1 = ((w.alloc (nodeO t)).alloc (.cells #[.bool false] 4)) := ⟨_, rfl⟩
  obtain ⟨W1, hW1⟩ := HW
  rw [← hW1] at hB2 hz2 HM
  rintro e w1 ⟨rfl, hb1'⟩
  have hb1 : Below W1.heap.size W1 w1 := by rw [hW1]; exact hb1'
  clear hb1' hW1
  have HK : Hid (∀ W, Below W1.heap.size W1 W → MoBox w.heap.size t W) := fun W hW => HM.out.below (by omega) hW
  have HIA : Hid (∀ W, Below W1.heap.size W1 W → t.In w.heap.size W) := fun W hW => MT.In.below (hB2.trans (hW.mono (by omega))) _ hin
  obtain ⟨k0, k1, k2, k3, k4, kr, kf⟩ := HK.out w1 hb1
  gi_wp2_with fail
  refine ⟨trivial, ?_⟩
  refine (callsIn_wide.2 (count_any t w1 (MT.In.mono (by have := hb1.size; omega) _ (HIA.out w1 hb1)))).mono ?_
  rintro e w2 ⟨r, rfl, hr0, hr1, HR, hb2⟩
  have hb12 : Below W1.heap.size W1 w2 := hb1.trans (hb2.mono hb1.size)
  have hr2 : 1 ≤ r := by have := HR.out; have := MT.size_pos t; omega
  have hz12 := hb12.size
  have HSM : Hid (∀ x ∈ (MT.ord 1 t).take 1000000, x.2.text.size ≤ 140737488351232) := fun x hx => hsm x (List.mem_of_mem_take hx)
  have hts : t.text.size ≤ 140737488351232 := hsm (1, t) (by rw [MT.ord_eq]; simp)
  clear k0 k1 k2 k3 k4 kr kf hb1 hb2 hin hsm
  obtain ⟨k0, k1, k2, k3, k4, kr, kf⟩ := HK.out w2 hb12
  by_cases hbig : 100000 < r
  · gi_wp2
    refine ⟨_, results8 _ _ (w.heap.size + 1) true rfl (World.cell?_setCell_same' _ _ _ (by rw [kr]; rfl)), rfl, ?_⟩
    exact (hB2.trans (hb12.mono (by omega))).setCell (p := ⟨w.heap.size + 1, 0, none⟩) (by simp) _
  · obtain rfl : r = (t.size : Int) := by have := HR.out; omega
    have hwl : w.heap.size < w2.heap.size := by omega
    gi_wp2_with fail
    refine ⟨trivial, ?_⟩
    refine (callsIn_wide.2 (all_any t _)).mono ?_
    rintro e w' ⟨rfl, rfl⟩
    have hcmp : ∀ W, (binOp .eql 43 (.func (.func 38) #[] #[.pointer (some ⟨w2.heap.size + 1, 0, none⟩)]) .nilFunc).run Tryz.prog W = .ok (.bool false) W := fun W => eq_nilFunc _ _ W
    gi_wp2_with fail
    clear hcmp
    have hb4 : Below w2.heap.size w2 ((w2.alloc (.cells #[.int .i64 0] 3)).alloc (nodeO t)) := below2 w2 _ _
    have hB4 : Below W1.heap.size W1 ((w2.alloc (.cells #[.int .i64 0] 3)).alloc (nodeO t)) := hb12.trans (hb4.mono (by omega))
    have hn4 : BoxAt ((w2.alloc (.cells #[.int .i64 0] 3)).alloc (nodeO t)) (w2.heap.size + 1) t := by
      have := BoxAt.new (w2.alloc (.cells #[.int .i64 0] 3)) t
      rwa [World.size_alloc] at this
    have hx4 : Boxed ((w2.alloc (.cells #[.int .i64 0] 3)).alloc (nodeO t)) w2.heap.size 3 (.int .i64 0) := (Boxed.new w2 3 (.int .i64 0)).alloc _
    have hz4 : ((w2.alloc (.cells #[.int .i64 0] 3)).alloc (nodeO t)).heap.size = w2.heap.size + 2 := by simp
    have ht4 := HIA.out _ hB4
    have HW : ∃ W4, W4 = ((w2.alloc (.cells #[.int .i64 0] 3)).alloc (nodeO t)) := ⟨_, rfl⟩
    obtain ⟨W4, hW4⟩ := HW
    rw [← hW4] at hb4 hB4 hn4 hx4 hz4 ht4 ⊢
    clear hW4 k0 k1 k2 k3 k4 kr kf
    have hsz : t.size ≤ 100000 := by omega
    have hord : (MT.ord 1 t).take 1000000 = MT.ord 1 t := List.take_of_length_le (by rw [MT.ord_length]; omega)
    have hseq := all1_in 7 (by omega) t (w2.heap.size + 1) w.heap.size W4 hn4 ht4 (by omega) (by omega) HSM.out
    rw [hord] at hseq
    refine wpIn_rangeFunc_all rfl (by omega) (gf := 38) (lb := #[.pointer (some ⟨w2.heap.size + 1, 0, none⟩)]) rfl trivial (enters_of Tryz.func38 (by kernel_rfl) rfl)
      hseq (fun _ => rfl)
      (by rintro k (h | h) <;> omega) (fun k => k = w2.heap.size) (by rintro k rfl; exact ⟨by omega, by omega⟩)
      (fun pre W => Boxed W w2.heap.size 3 (.int .i64 (pre.length : Int)) ∧ Below W1.heap.size W1 W)
      ?ab ⟨hx4, hB4⟩ (fun x => { tmps := #[nodeV t, .string s, .pointer (some ⟨w.heap.size, 0, none⟩), undef, .pointer (some ⟨w.heap.size + 1, 0, none⟩), .bool true, .int .i64 t.size, .pointer (some ⟨w2.heap.size, 0, none⟩), Value.func (.func 38) #[] #[.pointer (some ⟨w2.heap.size + 1, 0, none⟩)], .int .i64 x.1, undef, undef, .bool true, nodeV t, .int .i64 t.size, .bool true, .bool false, .bool false, .int .i64 t.size, .bool (decide ((t.size : Int) < 1)), .bool (decide ((t.size : Int) < 1)), .int .i64 t.size, .bool (decide (100000 < (t.size : Int))), nodeV t, Value.func (.func 38) #[] #[.pointer (some ⟨w2.heap.size + 1, 0, none⟩)], Value.func (.func 38) #[] #[.pointer (some ⟨w2.heap.size + 1, 0, none⟩)], .bool false, Value.func (.func 38) #[] #[.pointer (some ⟨w2.heap.size + 1, 0, none⟩)], .int .i64 x.1, bareV x.2, undef, undef, undef, undef, undef, undef, undef, undef, undef, undef, undef, undef, undef, undef, undef, undef, undef, undef, undef, undef, undef, undef, undef, undef, undef, undef, undef, undef, undef, undef, undef, undef, undef, undef, undef, undef, undef, undef, undef, undef, undef, undef, undef, undef, undef, undef, undef, undef, undef, undef, undef, undef, undef, undef, undef, undef, undef, undef], defers := [] }) ?assign ?body ?done
    case ab =>
      rintro u A A' row ⟨h1, h2⟩ hgr hr
      exact ⟨h1.kept hgr (fun e => by have := hr _ e.symm; omega), Below.grown h2 hgr h2.size (fun j e => by have := hr j e; omega)⟩
    case assign =>
      intro l x W K hK
      gi_wp2
      refine cast (congrArg (fun z => K ⟨z, []⟩ W) ?_) hK
      simp
    case body =>
      rintro l pre x W hpre ⟨h1, h2⟩
      have hc := h1.cell
      have hf := h1.frozen
      have hlen : pre.length < 100000 := by
        have := hpre.length_le
        rw [MT.ord_length] at this
        simp at this; omega
      have hd := MT.ord_first t hpre
      obtain ⟨d, y⟩ := x
      have HB : Hid (Boxed W w2.heap.size 3 (.int .i64 (pre.length : Int))) := h1
      have HP : Hid (KeepsX (fun k => k = w2.heap.size) W (W.setCell ⟨w2.heap.size, 0, none⟩ (.int .i64 ((pre.length : Int) + 1)))) := KeepsX.setCell W _ _ _ rfl
      clear h1 hseq hord hpre
      have HQ : Hid (Boxed (W.setCell ⟨w2.heap.size, 0, none⟩ (.int .i64 ((pre.length : Int) + 1))) w2.heap.size 3 (.int .i64 (((pre ++ [(d, y)]).length : Nat) : Int)) ∧ Below W1.heap.size W1 (W.setCell ⟨w2.heap.size, 0, none⟩ (.int .i64 ((pre.length : Int) + 1)))) := by
        refine ⟨?_, h2.setCell (p := ⟨w2.heap.size, 0, none⟩) (by show _ ≤ w2.heap.size; omega) _⟩
        have h3 := HB.out.set (.int .i64 ((pre.length : Int) + 1))
        simpa using h3
      rcases hd with ⟨hp0, hd1⟩ | ⟨hp0, hd1⟩
      · subst hp0
        simp only at hd1
        subst hd1
        simp only [List.length_nil, Int.cast_ofNat_Int] at hc HP HQ
        have hc' : W.cell? ⟨w2.heap.size, 0, none⟩ = some (.int .i64 0) := hc
        clear hc
        obtain ⟨z, hz⟩ : ∃ z : Int, z = ((1 : Nat) : Int) := ⟨_, rfl⟩
        rw [← hz]
        have hz1 : z = 1 := hz
        clear hz
        subst hz1
        gi_wp2
        exact ⟨HP.out, HQ.out⟩
      · simp only at hd1
        obtain ⟨m, hm⟩ : ∃ m, pre.length = m + 1 := ⟨pre.length - 1, by omega⟩
        obtain ⟨e, rfl⟩ : ∃ e, d = e + 2 := ⟨d - 2, by omega⟩
        rw [hm] at HP HQ hc
        have q1 : ¬ ((e : Int) + 2 < 1) := by omega
        have q2 : (((e : Int) + 2) == 1) = false := by simp; omega
        have q3 : (((m : Int) + 1) == 0) = false := by simp; omega
        have q4 : (0 : Int) < (m : Int) + 1 := by omega
        rw [show (((m + 1 : Nat)) : Int) = (m : Int) + 1 by simp] at hc HP HQ
        rw [show (((e + 2 : Nat)) : Int) = (e : Int) + 2 by simp]
        gi_wp2
        have hq := HQ.out
        rw [hz2] at hq
        exact ⟨HP.out, hq⟩
    case done =>
      rintro D W hD ⟨h1, h2⟩ hK
      rw [MT.ord_length] at h1
      have hci := h1.cell
      obtain ⟨k0, k1, k2, k3, k4, kr, kf⟩ := HK.out W h2
      have hzW := h2.size
      have hDW := (Array.getElem?_eq_some_iff.1 hK).1
      have hiW := h1.lt
      have hinW := HIA.out W h2
      have hkl : t.kids.length ≤ 1000000 := by
        have := MT.size_eq t
        have := MT.length_le_sizeL t.kids
        omega
      have HI1 : Hid (Boxed W w2.heap.size 3 (.int .i64 (t.size : Int))) := h1
      have hwW : w.heap.size < W.heap.size := by omega
      have hIn5 : t.In w.heap.size (W.alloc (nodeO t)) := MT.In.below (below1 W _ |>.mono (by omega)) t hinW
      have HI5 : Hid (t.In w.heap.size (W.alloc (nodeO t))) := hIn5
      have HD : Hid (W.heap[D]? = some (.deferred (some []))) := hK
      clear hseq hord h1 hIn5 hinW hn4 hx4 ht4 hK
      obtain ⟨i0, hi, hq0, hq1, hq2⟩ := info_parts info24
      have HH2 : Hid (Below W1.heap.size W1 W) := h2
      have HA : Hid (∀ v5 w5 row w6, w5.ownsRow (W.heap.size + 1) 24 5 v5 t.kids.length (nodesL t.kids) → (W.alloc (nodeO t)).grownBy w5 none → row = v5.ownBlock → (w5.alloc (.cells #[.int .i64 16, .string ⟨#[]⟩, .int .i64 0, .int .i64 0, .slice none 0 0] 24)).grownBy w6 row →
          Below (W.heap.size + 1) (W.alloc (nodeO t)) w6 ∧ W.heap.size + 1 ≤ w5.heap.size ∧ w5.heap.size + 1 ≤ w6.heap.size ∧ Below W1.heap.size W1 w6 ∧ w6.cell? ⟨w2.heap.size, 0, none⟩ = some (.int .i64 (t.size : Int)) ∧ BoxAt w6 W.heap.size t ∧ w6.frozen? ⟨W.heap.size, 4, none⟩ = false) := by
        intro v5 w5 row w6 ho h5 hrow h6'
        have z5 := h5.size
        have z6 := h6'.size
        simp only [World.size_alloc] at z5 z6
        have e1 : Below (W.heap.size + 1) (W.alloc (nodeO t)) w5 := Below.grown (Below.refl _ _) h5 (by simp) (fun j e => by cases e)
        have e2 : Below (W.heap.size + 1) (W.alloc (nodeO t)) w6 := Below.grown (e1.alloc (by omega) _) h6' (by simp; omega) (fun j e => by rw [hrow] at e; exact (ho.lt j e).1)
        refine ⟨e2, z5, z6, h2.trans (((below1 W (nodeO t)).mono hzW).trans (e2.mono (by omega))), ?_, (BoxAt.new W t).below (by omega) e2, ?_⟩
        · exact (e2.cell (p := ⟨w2.heap.size, 0, none⟩) (by show w2.heap.size < W.heap.size + 1; omega)).trans ((World.cell?_alloc_lt _ _ _ (by show w2.heap.size < _; omega)).trans hci)
        · refine (e2.frozen (p := ⟨W.heap.size, 4, none⟩) (by show W.heap.size < W.heap.size + 1; omega)).trans ?_
          unfold World.frozen?
          rw [heap_alloc_new]
          rfl
      clear h2
      gi_wp2_with (first
        | (gi_at_builtin; refine wpListIn_append_kids _ rfl _ _ rfl rfl t rfl HI5.out (W.heap.size + 1) (by simp) hkl ?_; intro v5 w5 hown5 hgr5; obtain ⟨p5, c5, hv5⟩ : ∃ p c, v5 = .slice p t.kids.length c := (by rcases hown5.2 with ⟨h, h0⟩ | ⟨g, cap, cur, h, _⟩; exact ⟨none, 0, by rw [h, h0]⟩; exact ⟨_, _, h⟩); subst hv5; have HO5 : Hid (w5.ownsRow (W.heap.size + 1) 24 5 (.slice p5 t.kids.length c5) t.kids.length (nodesL t.kids)) := hown5; have HG5 : Hid ((W.alloc (nodeO t)).grownBy w5 none) := hgr5; have hz5 : W.heap.size + 1 ≤ w5.heap.size := (by have := hgr5.size; simpa using this); clear hown5 hgr5)
        | (gi_at_builtin; refine wpListIn_append_own _ rfl _ _ 22 rfl (W.heap.size + 1) 24 i0 _ 5 64 Tryz.underlying22 hi hq0 hq1 hq2 rfl (by decide) _ _ _ rfl (HO5.out.alloc _) ⟨w5.heap.size, 0, none⟩ 1 1 [.int .i64 16, .string ⟨#[]⟩, .int .i64 0, .int .i64 0, .slice none 0 0] rfl rfl ?_ (by simp [Value.oneCell']) (by unfold maxLen; omega) (by omega) (by simp; omega) ?_; exact five_new _ _ _ _ _ _ _ _ rfl; intro v6 w6 hown6 hgr6 _; obtain ⟨g6, c6, hv6⟩ := ownsRow_succ hown6; subst hv6; have HO6 : Hid (w6.ownsRow (W.heap.size + 1) 24 5 (.slice (some ⟨g6, 0, none⟩) (t.kids.length + 1) c6) (t.kids.length + 1) (nodesL t.kids ++ [.int .i64 16, .string ⟨#[]⟩, .int .i64 0, .int .i64 0, .slice none 0 0])) := hown6; obtain ⟨hb6, hz5', hz6, hB6, hci6, ⟨m0, m1, m2, m3, m4⟩, mf⟩ := HA.out _ _ _ _ HO5.out HG5.out rfl hgr6; clear k0 k1 k2 k3 k4 kr kf hci hown6 hgr6; obtain ⟨k0, k1, k2, k3, k4, kr, kf⟩ := HK.out w6 hB6; have hgl := (HO6.out.lt g6 rfl).1; have hgl' := (HO6.out.lt g6 rfl).2; have hwl6 : w.heap.size < w6.heap.size := (by omega); have hWl6 : W.heap.size < w6.heap.size := (by omega); have h2l6 : w2.heap.size < w6.heap.size := (by omega); have hne1 : w.heap.size ≠ W.heap.size := (by omega); have hne2 : w2.heap.size ≠ W.heap.size := (by omega)))
      have hbZ : Below W1.heap.size W1 ((w6.setCell ⟨W.heap.size, 4, none⟩ (.slice (some ⟨g6, 0, none⟩) (t.kids.length + 1) c6)).alloc (.cells #[.int .i64 t.kind, .string (t.text ++ s), .int .i64 t.num, .int .i64 t.at_, .slice t.ptr t.kids.length t.cap] 24)) :=
        (hB6.setCell (p := ⟨W.heap.size, 4, none⟩) (by show _ ≤ W.heap.size; omega) _).alloc (by simp; omega) _
      have hoZ := (HO6.out.kept (grownBy_set w6 W.heap.size 4 (.slice (some ⟨g6, 0, none⟩) (t.kids.length + 1) c6)) (.inr (by simp [Value.ownBlock]; omega))).alloc (.cells #[.int .i64 t.kind, .string (t.text ++ s), .int .i64 t.num, .int .i64 t.at_, .slice t.ptr t.kids.length t.cap] 24)
      have hDZ : ((w6.setCell ⟨W.heap.size, 4, none⟩ (.slice (some ⟨g6, 0, none⟩) (t.kids.length + 1) c6)).alloc (.cells #[.int .i64 t.kind, .string (t.text ++ s), .int .i64 t.num, .int .i64 t.at_, .slice t.ptr t.kids.length t.cap] 24)).heap[D]? = some (.deferred (some [])) :=
        (Below.heap_alloc _ _ D (by simp; omega)).trans ((Below.heap_setCell w6 ⟨W.heap.size, 4, none⟩ _ D (by show D ≠ W.heap.size; omega)).trans ((hb6.block D (by omega)).trans ((Below.heap_alloc W _ D hDW).trans HD.out)))
      have hcZ : ∀ b o, b < w6.heap.size → (b, o) ≠ (W.heap.size, 4) → ((w6.setCell ⟨W.heap.size, 4, none⟩ (.slice (some ⟨g6, 0, none⟩) (t.kids.length + 1) c6)).alloc (.cells #[.int .i64 t.kind, .string (t.text ++ s), .int .i64 t.num, .int .i64 t.at_, .slice t.ptr t.kids.length t.cap] 24)).cell? ⟨b, o, none⟩ = w6.cell? ⟨b, o, none⟩ := by
        intro b o hb hne
        rw [World.cell?_alloc_lt _ _ _ (by show b < _; simpa using hb)]
        exact World.cell?_setCell_other _ _ _ _ (fun e => hne (by cases e; rfl))
      have hmZ : ((w6.setCell ⟨W.heap.size, 4, none⟩ (.slice (some ⟨g6, 0, none⟩) (t.kids.length + 1) c6)).alloc (.cells #[.int .i64 t.kind, .string (t.text ++ s), .int .i64 t.num, .int .i64 t.at_, .slice t.ptr t.kids.length t.cap] 24)).cell? ⟨W.heap.size, 4, none⟩ = some (.slice (some ⟨g6, 0, none⟩) (t.kids.length + 1) c6) := by
        rw [World.cell?_alloc_lt _ _ _ (by show W.heap.size < _; simpa using hWl6)]
        exact World.cell?_setCell_same' _ _ _ (by rw [m4]; rfl)
      have hqZ : CellsOf ((w6.setCell ⟨W.heap.size, 4, none⟩ (.slice (some ⟨g6, 0, none⟩) (t.kids.length + 1) c6)).alloc (.cells #[.int .i64 t.kind, .string (t.text ++ s), .int .i64 t.num, .int .i64 t.at_, .slice t.ptr t.kids.length t.cap] 24)) w6.heap.size #[.int .i64 t.kind, .string (t.text ++ s), .int .i64 t.num, .int .i64 t.at_, .slice t.ptr t.kids.length t.cap] := by
        have := CellsOf.new (w6.setCell ⟨W.heap.size, 4, none⟩ (.slice (some ⟨g6, 0, none⟩) (t.kids.length + 1) c6)) #[.int .i64 t.kind, .string (t.text ++ s), .int .i64 t.num, .int .i64 t.at_, .slice t.ptr t.kids.length t.cap] 24
        rwa [World.size_setCell] at this
      have hzZ : ((w6.setCell ⟨W.heap.size, 4, none⟩ (.slice (some ⟨g6, 0, none⟩) (t.kids.length + 1) c6)).alloc (.cells #[.int .i64 t.kind, .string (t.text ++ s), .int .i64 t.num, .int .i64 t.at_, .slice t.ptr t.kids.length t.cap] 24)).heap.size = w6.heap.size + 1 := by simp
      obtain ⟨Z, hZ⟩ : ∃ Z, Z = ((w6.setCell ⟨W.heap.size, 4, none⟩ (.slice (some ⟨g6, 0, none⟩) (t.kids.length + 1) c6)).alloc (.cells #[.int .i64 t.kind, .string (t.text ++ s), .int .i64 t.num, .int .i64 t.at_, .slice t.ptr t.kids.length t.cap] 24)) := ⟨_, rfl⟩
      rw [← hZ] at hbZ hoZ hDZ hcZ hmZ hqZ hzZ ⊢
      clear hZ
      have hinZ : t.In Z.heap.size Z := MT.In.mono (by omega) _ (HIA.out Z hbZ)
      have hmin : (moreM t g6 c6).In Z.heap.size Z := more_in hinZ hoZ (Nat.le_refl _)
      have hoin : (t.withText (t.text ++ s)).In Z.heap.size Z := other_in hinZ (by rw [ByteArray.size_append]; unfold maxLen; omega)
      have HF : Hid (∀ V, Below Z.heap.size Z V → MoBox w.heap.size t V ∧ BoxAt V w6.heap.size (t.withText (t.text ++ s)) ∧ (V.cell? ⟨W.heap.size, 0, none⟩ = some (.int .i64 t.kind) ∧ V.cell? ⟨W.heap.size, 1, none⟩ = some (.string t.text) ∧ V.cell? ⟨W.heap.size, 2, none⟩ = some (.int .i64 t.num) ∧ V.cell? ⟨W.heap.size, 3, none⟩ = some (.int .i64 t.at_) ∧ V.cell? ⟨W.heap.size, 4, none⟩ = some (.slice (some ⟨g6, 0, none⟩) (t.kids.length + 1) c6)) ∧ V.heap[D]? = some (.deferred (some []))) := by
        intro V hV
        refine ⟨HK.out V (hbZ.trans (hV.mono hbZ.size)), ?_, ⟨?_, ?_, ?_, ?_, ?_⟩, (hV.block D (by omega)).trans hDZ⟩
        · have h9 := hqZ.below (B := Z.heap.size) (by omega) hV
          exact ⟨h9 0 _ rfl, h9 1 _ rfl, h9 2 _ rfl, h9 3 _ rfl, h9 4 _ rfl⟩
        · exact (hV.cell (p := ⟨W.heap.size, _, none⟩) (by show W.heap.size < _; omega)).trans ((hcZ _ _ hWl6 (by simp)).trans m0)
        · exact (hV.cell (p := ⟨W.heap.size, _, none⟩) (by show W.heap.size < _; omega)).trans ((hcZ _ _ hWl6 (by simp)).trans m1)
        · exact (hV.cell (p := ⟨W.heap.size, _, none⟩) (by show W.heap.size < _; omega)).trans ((hcZ _ _ hWl6 (by simp)).trans m2)
        · exact (hV.cell (p := ⟨W.heap.size, _, none⟩) (by show W.heap.size < _; omega)).trans ((hcZ _ _ hWl6 (by simp)).trans m3)
        · exact (hV.cell (p := ⟨W.heap.size, _, none⟩) (by show W.heap.size < _; omega)).trans hmZ
      have HC : Calls Tryz.prog 18 #[.agg #[.int .i64 t.kind, .string t.text, .int .i64 t.num, .int .i64 t.at_, .slice (some ⟨g6, 0, none⟩) (t.kids.length + 1) c6]] Z fun e w' => e = .returned (.int .i64 ((t.size : Int) + 1)) ∧ Below Z.heap.size Z w' := by
        have := count_any (moreM t g6 c6) Z hmin
        rw [nodeV_more] at this
        refine this.mono fun _ _ ⟨r, h1, _, _, h2, h3⟩ => ⟨?_, h3⟩
        have hm := h2.out
        unfold moreM at hm
        rw [MT.size_withKids t _ _ _ (by rfl)] at hm
        rw [h1, min_more t.size hsz r hm]
      have HS1 : Hid (∀ V, Below Z.heap.size Z V → Calls Tryz.prog 17 #[.agg #[.int .i64 t.kind, .string t.text, .int .i64 t.num, .int .i64 t.at_, .slice t.ptr t.kids.length t.cap], .agg #[.int .i64 t.kind, .string t.text, .int .i64 t.num, .int .i64 t.at_, .slice (some ⟨g6, 0, none⟩) (t.kids.length + 1) c6]] V fun e w' => e = .returned (.bool false) ∧ Below Z.heap.size Z w') := fun V hV => by
        have := same_any t (moreM t g6 c6) V (MT.In.mono hV.size _ (MT.In.below hV _ hinZ)) (MT.In.mono hV.size _ (MT.In.below hV _ hmin))
        rw [nodeV_more] at this
        refine this.mono fun _ _ ⟨r, h1, h2, h3⟩ => ⟨?_, hV.trans (h3.mono hV.size)⟩
        rw [h1, h2.out]; unfold moreM; rw [MT.same_withKids]
      have HS2 : Hid (∀ V, Below Z.heap.size Z V → Calls Tryz.prog 17 #[.agg #[.int .i64 t.kind, .string t.text, .int .i64 t.num, .int .i64 t.at_, .slice t.ptr t.kids.length t.cap], .agg #[.int .i64 t.kind, .string (t.text ++ s), .int .i64 t.num, .int .i64 t.at_, .slice t.ptr t.kids.length t.cap]] V fun e w' => e = .returned (.bool (s.data.toList == [])) ∧ Below Z.heap.size Z w') := fun V hV => by
        have := same_any t (t.withText (t.text ++ s)) V (MT.In.mono hV.size _ (MT.In.below hV _ hinZ)) (MT.In.mono hV.size _ (MT.In.below hV _ hoin))
        rw [nodeV_other] at this
        refine this.mono fun _ _ ⟨r, h1, h2, h3⟩ => ⟨?_, hV.trans (h3.mono hV.size)⟩
        rw [h1, h2.out, MT.same_withText t s (by omega)]
      clear hcZ hmZ hqZ hDZ hoZ m0 m1 m2 m3 m4 mf k0 k1 k2 k3 k4 kr kf hci6
      refine ⟨trivial, ?_⟩
      refine (callsIn_wide.2 HC).mono ?_
      rintro e w9 ⟨rfl, hb9⟩
      clear HC
      obtain ⟨⟨k0, k1, k2, k3, k4, kr, kf⟩, ⟨o0, o1, o2, o3, o4⟩, ⟨m0, m1, m2, m3, m4⟩, _⟩ := HF.out w9 hb9
      gi_wp2_with fail
      refine ⟨trivial, ?_⟩
      refine (callsIn_wide.2 (HS1.out w9 hb9)).mono ?_
      rintro e w10 ⟨rfl, hb10⟩
      clear k0 k1 k2 k3 k4 kr kf o0 o1 o2 o3 o4 m0 m1 m2 m3 m4 hb9 HS1
      obtain ⟨⟨k0, k1, k2, k3, k4, kr, kf⟩, ⟨o0, o1, o2, o3, o4⟩, ⟨m0, m1, m2, m3, m4⟩, _⟩ := HF.out w10 hb10
      simp only [MT.withText, MT.kind_node, MT.text_node, MT.num_node, MT.at_node, MT.ptr_node, MT.cap_node, MT.kids_node] at o0 o1 o2 o3 o4
      gi_wp2_with fail
      refine ⟨trivial, ?_⟩
      refine (callsIn_wide.2 (HS2.out w10 hb10)).mono ?_
      rintro e w11 ⟨rfl, hb11⟩
      clear k0 k1 k2 k3 k4 kr kf o0 o1 o2 o3 o4 m0 m1 m2 m3 m4 hb10 HS2
      obtain ⟨⟨k0, k1, k2, k3, k4, kr, kf⟩, _, _, hK11⟩ := HF.out w11 hb11
      have hemp : (s.data.isEmpty == s.toList.isEmpty) = true := by rw [ByteArray.toList_eq, Array.isEmpty_toList]; simp
      gi_wp2
      have hD1 : W4.heap.size ≤ D := hD
      have hK12 : (w11.setCell ⟨w.heap.size + 1, 0, none⟩ (.bool true)).heap[D]? = some (.deferred (some [])) := (Below.heap_setCell w11 ⟨w.heap.size + 1, 0, none⟩ _ D (by show D ≠ w.heap.size + 1; omega)).trans hK11
      have hB11 : Below w.heap.size w (w11.setCell ⟨w.heap.size + 1, 0, none⟩ (.bool true)) :=
        (hB2.trans ((hbZ.trans (hb11.mono hbZ.size)).mono (by omega))).setCell (p := ⟨w.heap.size + 1, 0, none⟩) (by simp) _
      refine ⟨by simp, .inl ⟨_, _, rfl, run_takeDeferred hK12, ?_⟩⟩
      refine ⟨_, results8 _ _ (w.heap.size + 1) true rfl ?_, rfl, hB11.trans (belowK_b (w := w) (Nat.le_refl _) _ D _ _ (by omega) hK12 rfl rfl)⟩
      have hne9 : w.heap.size + 1 ≠ D := by omega
      rw [World.cell?_of_block (a := ⟨w.heap.size + 1, 0, none⟩) (World.putObj_heap_other (by first | exact hne9 | exact hne9.symm))]
      exact World.cell?_setCell_same' _ _ _ (by rw [kr]; rfl)
end Go.Proofs.YthbnegggohegkaaGreatDoor
