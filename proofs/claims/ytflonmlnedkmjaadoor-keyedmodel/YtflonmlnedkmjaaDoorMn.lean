/-
  grow: twice as many heads.
-/
import Derived.Test.YtflonmlnedkmjaaDoorMm
namespace Go.Proofs.YtflonmlnedkmjaaDoor
open Go.RowKit Go.Shelf
attribute [local go_sem] Oper.semAt_some
theorem run_append_where {P : Program} (w : World) (base : Nat) (t ty e : TypeId) (i : TypeInfo) (z : Value) (size bytes : Nat) (ht : P.underlying t = some (.slice e)) (hi : P.info? e = some i) (hz : i.zero = some z)
    (hsize : i.size = size) (hby : i.bytes = bytes) (hzs : z.cells.size = size) (hsz : 0 < size)
    (v : Value) (n : Nat) (xs : List Value) (hown : w.ownsRow base e size v n xs)
    (a : Addr) (m c : Nat) (news : List Value) (hl : news.length = m * size) (hnews : ∀ j u, news[j]? = some u → w.cell? (a.add j) = some u) (h1 : ∀ u ∈ news, u.oneCell' = true)
    (h63 : n + m ≤ maxLen) (hbytes : (n + m) * bytes ≤ 140737488355328) (hbase : base ≤ w.heap.size) :
    ∃ v' w', (Builtin.append_ #[t, t] ty #[v, .slice (some a) m c]).run P w = .ok v' w' ∧ w'.ownsRow base e size v' (n + m) (xs ++ news) ∧ w.grownBy w' v.ownBlock ∧
      ∀ g, v'.ownBlock = some g → v.ownBlock = some g ∨ w.heap.size ≤ g := by
  obtain ⟨v', w', hr, h2, h3, h4⟩ := run_append_own (P := P) w base t ty e i z size bytes ht hi hz hsize hby hzs hsz v n xs hown a m c news hl hnews h1 h63 hbytes hbase
  refine ⟨v', w', hr, h2, h3, ?_⟩
  intro g hg
  rcases hown.2 with ⟨e1, e2⟩ | ⟨g0, cap, cur, e1, hbg, hg0, hnc, hcm, hcs, htake⟩
  · subst e1 e2
    have hx : xs = [] := List.eq_nil_of_length_eq_zero (by simpa using hown.1)
    subst hx
    obtain ⟨v2, w2, hr2, h22, _⟩ := run_append_own (P := P) w w.heap.size t ty e i z size bytes ht hi hz hsize hby hzs hsz (.slice none 0 0) 0 [] (World.ownsRow_nil _ _ _ _) a m c news hl hnews h1 h63 hbytes (Nat.le_refl _)
    rw [hr] at hr2
    injection hr2 with e1 e2
    subst e1
    exact .inr (h22.lt g hg).1
  · subst e1
    by_cases hroom : n + m ≤ cap
    · subst hsize
      have hfit : n * i.size + news.length ≤ cur.size := by rw [hl, hcs, ← Nat.add_mul]; exact Nat.mul_le_mul_right _ hroom
      have hr2 := run_append_room (P := P) w t ty e i ht hi g0 n cap cur hg0 a m c news hl hnews h1 hroom hfit
      rw [hr] at hr2
      injection hr2 with e1 e2
      subst e1
      exact .inl hg
    · subst hsize
      subst hby
      have holds : ∀ j u, xs[j]? = some u → w.cell? ((⟨g0, 0, none⟩ : Addr).add j) = some u := hown.cells (g := g0) rfl
      have hs : n + m ≤ 9223372036854775807 := by simp only [maxLen] at h63; omega
      have hr2 := run_append_grow (P := P) w t ty e i z ht hi hz ⟨g0, 0, none⟩ n cap xs hown.1 holds a m c news hl hnews (by omega) (by omega) (growslice_fits (by omega) hbytes)
      rw [hr] at hr2
      injection hr2 with e1 e2
      subst e1
      simp [Value.ownBlock] at hg
      exact .inr (by omega)
theorem wp_append_where {P : Program} {w : World} {o : Oper} {a : Act} {K : Act → World → Prop} {Q : Exit → Act → World → Prop} (s x : Operand) (t : TypeId)
    (ho : o.op = .call { callee := .builtin .append, args := #[s, x], argTypes := #[t, t] })
    (base : Nat) (e : TypeId) (i : TypeInfo) (z : Value) (size bytes : Nat) (ht : P.underlying t = some (.slice e)) (hi : P.info? e = some i) (hz : i.zero = some z)
    (hsize : i.size = size) (hby : i.bytes = bytes) (hzs : z.cells.size = size) (hsz : 0 < size)
    (v : Value) (n : Nat) (xs : List Value) (hs : a.eval s = v) (hown : w.ownsRow base e size v n xs)
    (ad : Addr) (m c : Nat) (news : List Value) (hx : a.eval x = .slice (some ad) m c) (hl : news.length = m * size) (hnews : ∀ j u, news[j]? = some u → w.cell? (ad.add j) = some u) (h1 : ∀ u ∈ news, u.oneCell' = true)
    (h63 : n + m ≤ maxLen) (hbytes : (n + m) * bytes ≤ 140737488355328) (hbase : base ≤ w.heap.size)
    (h : ∀ v' w', w'.ownsRow base e size v' (n + m) (xs ++ news) → w.grownBy w' v.ownBlock → (∀ g, v'.ownBlock = some g → v.ownBlock = some g ∨ w.heap.size ≤ g) → K (a.put o.dst v') w') : o.wp P a w K Q := by
  obtain ⟨v', w', hr, h2, h3, h4⟩ := run_append_where (P := P) w base t o.type e i z size bytes ht hi hz hsize hby hzs hsz v n xs hown ad m c news hl hnews h1 h63 hbytes hbase
  unfold Oper.wp execOp
  simp only [ho, resolve, invoke, builtin, Sem.run_bind, Sem.run_pure, Result.andThen_ok, List.map_toArray, List.map_cons, List.map_nil, hs, hx, hr]
  exact h v' w' h2 h3 h4
variable {n : Nat} {w w' : World} {m : Nat} {es : List Ent} {G : KG} {S : Nat → Prop}
theorem KMp.ownHeads (h : KMp n w m es G S) : ∃ xs, w.ownsRow 0 112 8 (.slice (some ⟨G.hb, 0, none⟩) G.L G.cap) G.L xs ∧ (∀ j u, xs[j]? = some u → w.cell? ((⟨G.hb, 0, none⟩ : Addr).add j) = some u) ∧ (∀ u ∈ xs, u.oneCell' = true) := by
  obtain ⟨cur, h1, h2, h3⟩ := h.heads
  have hL := h.Lc
  refine ⟨cur.toList.take (G.L * 8), ⟨by simp; omega, .inr ⟨G.hb, G.cap, cur, rfl, Nat.zero_le _, h1, h.Lc, h.capm, by omega, rfl⟩⟩, fun j u hj => ?_, fun u hu => ?_⟩
  · have hj' : j < G.L * 8 := by
      have := (List.getElem?_eq_some_iff.1 hj).1
      simp at this; omega
    rw [List.getElem?_take_of_lt hj'] at hj
    have e : (⟨G.hb, 0, none⟩ : Addr).add j = ⟨G.hb, j, none⟩ := by unfold Addr.add; split <;> simp_all
    rw [e]
    exact (row_at h1 j).trans (by simpa using hj)
  · obtain ⟨j, hj, rfl⟩ := List.getElem_of_mem hu
    have hj' : j < 8 * G.L := by simp at hj; omega
    have h4 := h3 j hj'
    have h5 : cur.toList[j]? = some (cur.toList.take (G.L * 8))[j] := by
      rw [List.getElem?_eq_some_iff]
      exact ⟨by simp at hj ⊢; omega, by simp⟩
    have h6 : some (cur.toList.take (G.L * 8))[j] = some (pv (G.hd j)) := by
      rw [← h5]
      simpa using h4
    injection h6 with h6
    rw [h6]
    cases G.hd j <;> rfl

/-- All heads are empty, and twice as many. -/
def KG.wide (G : KG) (g L cap : Nat) : KG := { G with hb := g, L := L, cap := cap, hd := fun _ => none, ch := fun _ => [] }
theorem KMp.cleared (h : KMp n w m es G S) {W : World} {g L cap : Nat} {ct : Int} {cur : Array Value} (k : KeepS (fun b => b = m ∨ b = G.hb) w W)
    (hm : W.heap[m]? = some (.cells #[.slice (some ⟨g, 0, none⟩) L cap, .pointer (some ⟨G.rb, 0, none⟩), .int .i64 ct] 65 (0, 0))) (hg : W.heap[g]? = some (.cells cur 112 (0, 0)))
    (L1 : 1 ≤ L) (Lc : L ≤ cap) (Lm : L ≤ 1099511627776) (cm : cap ≤ maxLen) (hs : cur.size = 8 * cap) (hc : ∀ i, i < 8 * L → cur[i]? = some (.pointer none)) : KMp n W m es (G.wide g L cap) (fun _ => False) := by
  obtain ⟨ct0, h1⟩ := h.map
  obtain ⟨cur0, h2, _⟩ := h.heads
  have hd : ∀ (g : Nat) (c : Array Value) (t : TypeId), (t = 3 ∨ t = 39) → w.heap[g]? = some (.cells c t (0, 0)) → ¬ (g = m ∨ g = G.hb) := fun x c t ht hx ho => by
    rcases ho with rfl | rfl
    · rw [hx] at h1
      injection h1 with h1
      injection h1 with _ h1
      rcases ht with rfl | rfl <;> exact absurd h1 (by decide)
    · rw [hx] at h2
      injection h2 with h2
      injection h2 with _ h2
      rcases ht with rfl | rfl <;> exact absurd h2 (by decide)
  have he : ∀ {b kp vp hh nx bf bh g'}, EntAt w b kp vp hh nx bf bh g' → EntAt W b kp vp hh nx bf bh g' := fun hb => k.cells hb (by rintro (q | q); exact hb.ne h1 (by decide) q; exact hb.ne h2 (by decide) q)
  exact ⟨⟨ct, hm⟩, L1, Lc, Lm, cm, ⟨cur, hg, hs, fun i hi => (hc i hi).trans rfl⟩, he h.ring, fun e hee => he (h.ent e hee), fun e hee => ⟨(h.box e hee).1.keep k hd, (h.box e hee).2.keep k hd⟩, h.adj, h.nod, fun i _ => ⟨rfl, List.nodup_nil, fun b => ⟨fun hb => (by cases hb), fun ⟨_, _, _, hf, _⟩ => hf.elim⟩⟩, h.key, h.apart⟩

theorem KMp.congr {S' : Nat → Prop} (h : KMp n w m es G S) (hS : ∀ b, S b ↔ S' b) : KMp n w m es G S' :=
  ⟨h.map, h.L1, h.Lc, h.Lm, h.capm, h.heads, h.ring, h.ent, h.box, h.adj, h.nod, fun i hi => ⟨(h.chain i hi).1, (h.chain i hi).2.1, fun b => by rw [(h.chain i hi).2.2 b, hS b]⟩, h.key, h.apart⟩
/-- What holds between two rounds of grow: s hang by now; the first blocks of W are a map's. -/
def GrowI (n : Nat) (w W7 : World) (m : Nat) (es : List Ent) (G : KG) (g3 cap3 : Nat) (s : List Nat) (W : World) : Prop :=
  ∃ W' G', KMp n W' m es G' (fun b => b ∈ s) ∧ W'.heap.size = W7.heap.size ∧ Below W7.heap.size W' W ∧ G'.hb = g3 ∧ G'.rb = G.rb ∧ G'.L = G.L + G.L ∧ G'.cap = cap3 ∧ G'.bf = G.bf ∧ G'.bh = G.bh ∧
    W'.heap[w.heap.size]? = some (.cells #[.pointer (some ⟨m, 0, none⟩)] 24 (0, 0)) ∧ w.heap.size < W7.heap.size ∧ KeepS (fun b => KM.own m es G b ∨ b = g3) W7 W' ∧ W'.cell? ⟨m, 2, none⟩ = some (.int .i64 es.length)
theorem GrowI.size {W7 W : World} {g3 cap3 : Nat} {s : List Nat} (h : GrowI n w W7 m es G g3 cap3 s W) : W7.heap.size ≤ W.heap.size := by
  obtain ⟨W', G', _, h2, h3, _⟩ := h
  have := h3.size
  omega
theorem GrowI.later {W7 W V : World} {g3 cap3 : Nat} {s : List Nat} (h : GrowI n w W7 m es G g3 cap3 s W) (hb : ∀ b, b < W7.heap.size → V.heap[b]? = W.heap[b]?) (hz : W7.heap.size ≤ V.heap.size) (ho : V.os = W.os) (ht : V.tape = W.tape) (hu : V.output = W.output) : GrowI n w W7 m es G g3 cap3 s V := by
  obtain ⟨W', G', h1, h2, h3, h4⟩ := h
  exact ⟨W', G', h1, h2, ⟨ho.trans h3.os, ht.trans h3.tape, hu.trans h3.output, by omega, fun k hk => (hb k hk).trans (h3.block k hk)⟩, h4⟩
theorem GrowI.kmp {W7 W : World} {g3 cap3 : Nat} {s : List Nat} (h : GrowI n w W7 m es G g3 cap3 s W) : ∃ G', KMp n W m es G' (fun b => b ∈ s) ∧ G'.hb = g3 ∧ G'.rb = G.rb ∧ G'.bh = G.bh := by
  obtain ⟨W', G', h1, h2, h3, h4, h5, h6, h7, h8, h9, _⟩ := h
  exact ⟨G', h1.keep (by rw [h2]; exact h3), h4, h5, h9⟩
theorem GrowI.boxc {W7 W : World} {g3 cap3 : Nat} {s : List Nat} (h : GrowI n w W7 m es G g3 cap3 s W) : W.cell? ⟨w.heap.size, 0, none⟩ = some (.pointer (some ⟨m, 0, none⟩)) ∧ w.heap.size < W.heap.size := by
  have hz := h.size
  obtain ⟨W', G', h1, h2, h3, h4, h5, h6, h7, h8, h9, h10, h11, _⟩ := h
  exact ⟨(h3.cell (p := ⟨w.heap.size, 0, none⟩) h11).trans (row_at h10 0), by omega⟩
theorem GrowI.ring {W7 W : World} {g3 cap3 : Nat} {s : List Nat} (h : GrowI n w W7 m es G g3 cap3 s W) : RingR m G.rb (es.map Ent.b) G.bh W := by
  obtain ⟨G', h1, h2, h3, h4⟩ := h.kmp
  obtain ⟨ct, hm⟩ := h1.map
  have hr := h1.ring
  rw [h3, h4] at hr
  rw [h3] at hm
  refine ⟨row_at hm 1, row_ltT hm, fun x hx => ?_⟩
  rcases List.mem_cons.1 hx with rfl | hx
  · exact ⟨hr.cell 5, row_ltT hr, _, _, hr⟩
  · obtain ⟨e, he, rfl⟩ := List.mem_map.1 hx
    have hee := h1.ent e he
    rw [h4] at hee
    exact ⟨hee.cell 5, row_ltT hee, _, _, hee⟩

def undefAct : Act := { tmps := #[], defers := [] }
theorem GrowI.step {W7 W' V : World} {G' : KG} {g3 cap3 : Nat} {s : List Nat} (h1 : KMp n W' m es G' (fun b => b ∈ s)) (h2 : W'.heap.size = W7.heap.size) (h3 : Below W7.heap.size W' V) (h4 : G'.hb = g3 ∧ G'.rb = G.rb ∧ G'.L = G.L + G.L ∧ G'.cap = cap3 ∧ G'.bf = G.bf ∧ G'.bh = G.bh ∧
    W'.heap[w.heap.size]? = some (.cells #[.pointer (some ⟨m, 0, none⟩)] 24 (0, 0)) ∧ w.heap.size < W7.heap.size ∧ KeepS (fun b => KM.own m es G b ∨ b = g3) W7 W' ∧ W'.cell? ⟨m, 2, none⟩ = some (.int .i64 es.length)) {e : Ent} (he : e ∈ es) (hes : e.b ∉ s) {i : Nat} (hi : i < 8 * G'.L) (hei : e.h % (8 * G'.L : Nat) = (i : Int)) (a : Act) :
    rPost W7.heap.size (GrowI n w W7 m es G g3 cap3) (s ++ [e.b]) V .normal a ((V.setCell ⟨e.b, 3, none⟩ (pv (G'.hd i))).setCell ⟨G'.hb, i, none⟩ (.pointer (some ⟨e.b, 0, none⟩))) := by
  obtain ⟨a1, a2, a3, a4, a5, a6, a7, a8, a9, a10⟩ := h4
  have hee := h1.ent e he
  have hez : e.b < W7.heap.size := by rw [← h2]; exact row_ltT hee
  obtain ⟨cur, c1, _⟩ := h1.heads
  have hhz : G'.hb < W7.heap.size := by rw [← h2]; exact row_ltT c1
  obtain ⟨ct, hm⟩ := h1.map
  have hkk : KeepS (fun b => KM.own m es G b ∨ b = g3) W7 ((W'.setCell ⟨e.b, 3, none⟩ (pv (G'.hd i))).setCell ⟨G'.hb, i, none⟩ (.pointer (some ⟨e.b, 0, none⟩))) :=
    (a9.set _ (fun _ => .inl (.inr (.inr (.inr (List.mem_map_of_mem he)))))).set _ (fun _ => .inr a1)
  have hother : ∀ k, k ≠ e.b → k ≠ G'.hb → ((W'.setCell ⟨e.b, 3, none⟩ (pv (G'.hd i))).setCell ⟨G'.hb, i, none⟩ (.pointer (some ⟨e.b, 0, none⟩))).heap[k]? = W'.heap[k]? := fun k k1 k2 => (heap_setCell_other _ _ _ _ _ k2).trans (heap_setCell_other _ _ _ _ _ k1)
  refine ⟨(heap_setCell_other _ _ _ _ _ (by omega)).trans (heap_setCell_other _ _ _ _ _ (by omega)), (heap_setCell_other _ _ _ _ _ (by omega)).trans (heap_setCell_other _ _ _ _ _ (by omega)), _, G'.hung e.b i, (h1.hang he hes hi hei).congr (fun b => by simp), by simpa using h2, ?_, a1, a2, a3, a4, a5, a6, ?_, a8, hkk, ?_⟩
  · exact Below.setBoth (Below.setBoth h3 e.b 3 _ hez) G'.hb i _ hhz
  · exact (hother _ (hee.ne a7 (by decide)).symm (tag_ne a7 c1 (by decide))).trans a7
  · exact (World.cell?_of_block (a := ⟨m, 2, none⟩) (hother _ (hee.ne hm (by decide)).symm (tag_ne hm c1 (by decide)))).trans a10

theorem GrowI.done {W7 W : World} {g3 cap3 : Nat} (hI : GrowI n w W7 m es G g3 cap3 (es.map Ent.b) W) (hk : KeepS (fun b => b = m ∨ b = G.hb) w W7) (hM : ∃ ct : Int, W7.heap[m]? = some (.cells #[.slice (some ⟨g3, 0, none⟩) (G.L + G.L) cap3, .pointer (some ⟨G.rb, 0, none⟩), .int .i64 ct] 65 (0, 0)) ∧ ct = es.length)
    (hfit : es.length ≤ 16 * G.L) (hg : g3 = G.hb ∨ w.heap.size ≤ g3) : ∃ G', KM n W m es G' ∧ (∀ b, KM.own m es G' b → KM.own m es G b ∨ w.heap.size ≤ b) ∧ KeepS (KM.own m es G) w W := by
  obtain ⟨W', G', h1, h2, h3, a1, a2, a3, a4, a5, a6, a7, a8, a9, a10⟩ := hI
  have h1' := h1.keep (w' := W) (by rw [h2]; exact h3)
  refine ⟨G', h1'.whole (fun e he => List.mem_map_of_mem he) ?_ (by rw [a3]; omega), fun b hb => ?_, ?_⟩
  · obtain ⟨ct, hm⟩ := h1.map
    have e : ct = es.length := by
      have := (row_at hm 2).symm.trans a10
      simpa using this
    rw [← e]
    exact (h3.block m (by rw [← h2]; exact row_ltT hm)).trans hm
  · rcases hb with rfl | hb | hb | hb
    · exact .inl (.inl rfl)
    · rw [hb, a1]
      rcases hg with e | e
      · exact .inl (.inr (.inl e))
      · exact .inr e
    · rw [hb, a2]
      exact .inl (.inr (.inr (.inl rfl)))
    · exact .inl (.inr (.inr (.inr hb)))
  · refine ⟨(h3.os.trans a9.os).trans hk.os, (h3.tape.trans a9.tape).trans hk.tape, (h3.output.trans a9.output).trans hk.output, by have := h3.size; have := hk.size; omega, fun b hb hn => ?_⟩
    have hz := hk.size
    refine (h3.block b (by omega)).trans ((a9.block b (by omega) ?_).trans (hk.block b hb ?_))
    · rintro (q | q)
      · exact hn q
      · rcases hg with e | e
        · exact hn (.inr (.inl (q.trans e)))
        · omega
    · rintro (q | q)
      · exact hn (.inl q)
      · exact hn (.inr (.inl q))
set_option maxRecDepth 100000 in
set_option maxHeartbeats 4000000 in
theorem grow_any (hP : KMp n w m es G (fun _ => True)) (hct : w.cell? ⟨m, 2, none⟩ = some (.int .i64 es.length)) (hfit : es.length ≤ 16 * G.L) (hL : G.L ≤ 274877906944) :
    Calls Tryd.prog 38 #[.pointer (some ⟨m, 0, none⟩)] w fun r w' => r = .returned (.tuple #[]) ∧ ∃ G', KM n w' m es G' ∧ (∀ b, KM.own m es G' b → KM.own m es G b ∨ w.heap.size ≤ b) ∧ KeepS (KM.own m es G) w w' := by
  refine (callsIn_wide (n := 5)).1 ?_
  refine callsIn_of_wp_marks Tryd.func38 rfl trivial ?_ rfl
  simp only [Tryd.ntmps38, List.size_toArray, List.length_cons, List.length_nil, Nat.reduceAdd, Nat.reduceSub, Array.replicate_succ, Array.replicate_zero, List.push_toArray, List.append_toArray, List.nil_append, List.cons_append]
  gi_wp2_with fail
  obtain ⟨W0, hW0⟩ : ∃ W0, W0 = w.alloc (.cells #[.pointer (some ⟨m, 0, none⟩)] 24) := ⟨_, rfl⟩
  have hb0 : Below w.heap.size w W0 := by rw [hW0]; exact below1 _ _
  have hz0 : W0.heap.size = w.heap.size + 1 := by rw [hW0]; simp
  have hbx : W0.heap[w.heap.size]? = some (.cells #[.pointer (some ⟨m, 0, none⟩)] 24 (0, 0)) := by rw [hW0]; exact heap_alloc_new _ _
  rw [← hW0]
  clear hW0
  have HP0 : Hid (KMp n W0 m es G (fun _ => True)) := hP.keep hb0
  have hLp := hP.L1
  have HBX : Hid ((some w.heap.size : Option Nat) ≠ some G.hb) := by
    obtain ⟨cur, h1, _⟩ := hP.heads
    have := row_ltT h1
    intro e
    injection e with e
    omega
  have HBM : Hid (w.heap.size ≠ m) := by
    obtain ⟨ct, h1⟩ := hP.map
    have := row_ltT h1
    show _ ≠ _
    omega
  have HMB : Hid ((some m : Option Nat) ≠ some G.hb) := by
    obtain ⟨ct, h1⟩ := hP.map
    obtain ⟨cur, h2, _⟩ := hP.heads
    intro e
    injection e with e
    exact tag_ne h1 h2 (by decide) e
  refine wpIn_wide.2 ?_
  · skip
    refine wp_region_noPanic ?_
    refine wp_region_held (S := fun W => W.cell? ⟨w.heap.size, 0, none⟩ = some (.pointer (some ⟨m, 0, none⟩))) (by kernel_rfl) ?_
    obtain ⟨W4, hW4⟩ : ∃ W4, W4 = (W0).drew := ⟨_, rfl⟩
    have e4 : ({ W0 with drawn := (W0).drawn + 1 } : World) = W4 := hW4.symm
    rw [e4]
    have hB4 : Below (W0).heap.size (W0) W4 := by rw [hW4]; exact (Below.refl _ _).drew
    have hS : W4.cell? ⟨w.heap.size, 0, none⟩ = some (.pointer (some ⟨m, 0, none⟩)) := (hB4.cell (p := ⟨w.heap.size, 0, none⟩) (by show w.heap.size < _; omega)).trans (row_at hbx 0)
    clear e4 hW4
    have hz4 : w.heap.size < W4.heap.size := by have := hB4.size; omega
    have hP4 := HP0.out.keep hB4
    have HP4 : Hid (KMp n W4 m es G (fun _ => True)) := hP4
    have hm4 : W4.cell? ⟨m, 0, none⟩ = some (.slice (some ⟨G.hb, 0, none⟩) G.L G.cap) := by
      obtain ⟨ct, h⟩ := hP4.map
      exact row_at h 0
    have hmz4 : m < W4.heap.size := by
      obtain ⟨ct, h⟩ := hP4.map
      exact row_ltT h
    have HF4 : Hid (W4.frozen? ⟨m, 0, none⟩ = false) := by
      obtain ⟨ct, h⟩ := hP4.map
      exact fz _ _ _ _ 0 h
    have HX4 : Hid (W4.heap[w.heap.size]? = some (.cells #[.pointer (some ⟨m, 0, none⟩)] 24 (0, 0))) := (hB4.block _ (by omega)).trans hbx
    have HO4 : Hid (∃ xs, W4.ownsRow 0 112 8 (.slice (some ⟨G.hb, 0, none⟩) G.L G.cap) G.L xs ∧ (∀ j u, xs[j]? = some u → W4.cell? ((⟨G.hb, 0, none⟩ : Addr).add j) = some u) ∧ (∀ u ∈ xs, u.oneCell' = true)) := hP4.ownHeads
    clear hP4
    obtain ⟨xs, hown4, hnews4, hone4⟩ := HO4.out
    have HO5 : Hid (W4.ownsRow 0 112 8 (.slice (some ⟨G.hb, 0, none⟩) G.L G.cap) G.L xs) := hown4
    have HN5 : Hid ((∀ j u, xs[j]? = some u → W4.cell? ((⟨G.hb, 0, none⟩ : Addr).add j) = some u) ∧ (∀ u ∈ xs, u.oneCell' = true)) := ⟨hnews4, hone4⟩
    clear hown4 hnews4 hone4 HO4
    refine wpAnyH_take (i := 0) (v := .pointer (some ⟨m, 0, none⟩)) rfl (by kernel_rfl) (by kernel_rfl) (by kernel_rfl) (fun _ _ _ h => h) (Or.inl ⟨by rfl, ?r⟩) hS ?_
    case r => intro W hW; simp [go_sem, execOp, Act.eval, hW]
    simp only [List.getElem_toArray, List.getElem_cons_zero, Act.put, List.setIfInBounds_toArray, List.set_cons_succ, List.set_cons_zero]
    refine wpAnyH_take (i := 1) (v := .pointer (some ⟨m, 0, none⟩)) rfl (by kernel_rfl) (by kernel_rfl) (by kernel_rfl) (fun _ _ _ h => h) (Or.inl ⟨by rfl, ?r⟩) hS ?_
    case r => intro W hW; simp [go_sem, execOp, Act.eval, hW]
    simp only [List.getElem_toArray, List.getElem_cons_zero, List.getElem_cons_succ, Act.put, List.setIfInBounds_toArray, List.set_cons_succ, List.set_cons_zero]
    refine wpAnyH_take (i := 2) (v := .pointer (some ⟨m, 0, none⟩)) rfl (by kernel_rfl) (by kernel_rfl) (by kernel_rfl) (fun _ _ _ h => h) (Or.inl ⟨by rfl, ?r⟩) hS ?_
    case r => intro W hW; simp [go_sem, execOp, Act.eval]
    simp only [List.getElem_toArray, List.getElem_cons_zero, List.getElem_cons_succ, Act.put, List.setIfInBounds_toArray, List.set_cons_succ, List.set_cons_zero]
    refine wpAnyH_take (i := 3) (v := .pointer (some ⟨m, 0, none⟩)) rfl (by kernel_rfl) (by kernel_rfl) (by kernel_rfl) (fun _ _ _ h => h) (Or.inl ⟨by rfl, ?r⟩) hS ?_
    case r => intro W hW; simp [go_sem, execOp, Act.eval]
    simp only [List.getElem_toArray, List.getElem_cons_zero, List.getElem_cons_succ, Act.put, List.setIfInBounds_toArray, List.set_cons_succ, List.set_cons_zero]
    refine wpAnyH_take (i := 5) (v := .pointer (some ⟨m, 0, none⟩)) rfl (by kernel_rfl) (by kernel_rfl) (by kernel_rfl) (fun _ _ _ h => h) (Or.inl ⟨by rfl, ?r⟩) hS ?_
    case r => intro W hW; simp [go_sem, execOp, Act.eval, hW]
    simp only [List.getElem_toArray, List.getElem_cons_zero, List.getElem_cons_succ, Act.put, List.setIfInBounds_toArray, List.set_cons_succ, List.set_cons_zero]
    refine wpAnyH_take (i := 6) (v := .pointer (some ⟨m, 0, none⟩)) rfl (by kernel_rfl) (by kernel_rfl) (by kernel_rfl) (fun _ _ _ h => h) (Or.inl ⟨by rfl, ?r⟩) hS ?_
    case r => intro W hW; simp [go_sem, execOp, Act.eval]
    simp only [List.getElem_toArray, List.getElem_cons_zero, List.getElem_cons_succ, Act.put, List.setIfInBounds_toArray, List.set_cons_succ, List.set_cons_zero]
    refine wpAnyH_take (i := 7) (v := .pointer (some ⟨m, 0, none⟩)) rfl (by kernel_rfl) (by kernel_rfl) (by kernel_rfl) (fun _ _ _ h => h) (Or.inl ⟨by rfl, ?r⟩) hS ?_
    case r => intro W hW; simp [go_sem, execOp, Act.eval]
    simp only [List.getElem_toArray, List.getElem_cons_zero, List.getElem_cons_succ, Act.put, List.setIfInBounds_toArray, List.set_cons_succ, List.set_cons_zero]
    refine wpAnyH_all (rs := [4, 8]) (by kernel_rfl) (by simp) (fun i2 hi2 => ?_)
    rcases (by simpa using hi2 : i2 = 4 ∨ i2 = 8) with rfl | rfl
    · skip
      clear hi2
      refine wpOp_step rfl (fun K hK => ite_yes rfl ?_)
      simp only [List.getElem_toArray, List.getElem_cons_zero, List.getElem_cons_succ]
      go_simp
      refine hK _ _ ⟨hS, ?_⟩
      clear hK K
      try simp only [Act.put, List.setIfInBounds_toArray, List.set_cons_succ, List.set_cons_zero]
      refine wpAnyH_all (rs := [8]) (by kernel_rfl) (by simp) (fun i2 hi2 => ?_)
      obtain rfl : i2 = 8 := by simpa using hi2
      clear hi2
      refine wpOp_step rfl (fun K hK => ite_yes rfl ?_)
      simp only [List.getElem_toArray, List.getElem_cons_zero, List.getElem_cons_succ]
      go_simp
      refine hK _ _ ⟨hS, ?_⟩
      clear hK K
      try simp only [Act.put, List.setIfInBounds_toArray, List.set_cons_succ, List.set_cons_zero]
      refine wpAnyH_all (rs := [9]) (by kernel_rfl) (by simp) (fun i2 hi2 => ?_)
      obtain rfl : i2 = 9 := by simpa using hi2
      clear hi2
      refine wpOp_step rfl (fun K hK => ite_yes rfl ?_)
      simp only [List.getElem_toArray, List.getElem_cons_zero, List.getElem_cons_succ]
      obtain ⟨iR, hiR, hzR, hsR, hbR⟩ := infoR_parts
      refine wp_append_where _ _ 63 rfl 0 112 iR (.agg #[.pointer none, .pointer none, .pointer none, .pointer none, .pointer none, .pointer none, .pointer none, .pointer none]) 8 64 Tryd.underlying63 hiR hzR hsR hbR rfl (by decide) (.slice (some ⟨G.hb, 0, none⟩) G.L G.cap) G.L xs rfl HO5.out ⟨G.hb, 0, none⟩ G.L G.cap xs rfl HO5.out.1 HN5.out.1 HN5.out.2 (by unfold maxLen; omega) (by omega) (Nat.zero_le _) ?_
      intro v3 w3 hown3 hgr3 hwh3
      have hS3 : w3.cell? ⟨w.heap.size, 0, none⟩ = some (.pointer (some ⟨m, 0, none⟩)) := (World.cell?_of_block (a := ⟨w.heap.size, 0, none⟩) (hgr3.block w.heap.size hz4 HBX.out)).trans hS
      have HG3 : Hid (w3.ownsRow 0 112 8 v3 (G.L + G.L) (xs ++ xs) ∧ W4.grownBy w3 (some G.hb) ∧ ∀ g, v3.ownBlock = some g → (some G.hb : Option Nat) = some g ∨ W4.heap.size ≤ g) := ⟨hown3, hgr3, hwh3⟩
      have hm3 : ∃ u, w3.cell? ⟨m, 0, none⟩ = some u := ⟨_, (World.cell?_of_block (a := ⟨m, 0, none⟩) (hgr3.block m hmz4 HMB.out)).trans hm4⟩
      obtain ⟨u3, hm3⟩ := hm3
      have hmz3 : m < w3.heap.size := Nat.lt_of_lt_of_le hmz4 hgr3.size
      have hf3 : w3.frozen? ⟨m, 0, none⟩ = false := (World.frozen?_of_block (a := ⟨m, 0, none⟩) (hgr3.block m hmz4 HMB.out)).trans HF4.out
      have hzx : w.heap.size < w3.heap.size := Nat.lt_of_lt_of_le hz4 hgr3.size
      refine hK _ _ ⟨hS3, ?_⟩
      clear hK K hown3 hgr3 hwh3 hS
      have hS := hS3
      try simp only [Act.put, List.setIfInBounds_toArray, List.set_cons_succ, List.set_cons_zero]
      obtain ⟨g3, cap3, cur3, rfl, hg3, hcs3, hcap3, hcm3, hgw3⟩ : ∃ g cap cur, v3 = .slice (some ⟨g, 0, none⟩) (G.L + G.L) cap ∧ w3.heap[g]? = some (.cells cur 112 (0, 0)) ∧ cur.size = cap * 8 ∧ G.L + G.L ≤ cap ∧ cap ≤ maxLen ∧ (g = G.hb ∨ W4.heap.size ≤ g) := by
        obtain ⟨_, h⟩ := HG3.out.1
        rcases h with ⟨_, h⟩ | ⟨g, cap, cur, rfl, _, h2, h3, h4, h5, _⟩
        · omega
        · exact ⟨g, cap, cur, rfl, h2, h5, h3, h4, (HG3.out.2.2 g rfl).imp (fun e => by cases e; rfl) id⟩
      refine wpAnyH_take (i := 10) (v := .pointer (some ⟨m, 0, none⟩)) rfl (by kernel_rfl) (by kernel_rfl) (by kernel_rfl) (fun _ _ _ h => h) (Or.inl ⟨by rfl, ?r⟩) hS ?_
      case r => intro W hW; simp [go_sem, execOp, Act.eval]
      simp only [List.getElem_toArray, List.getElem_cons_zero, List.getElem_cons_succ, Act.put, List.setIfInBounds_toArray, List.set_cons_succ, List.set_cons_zero]
      refine wpAnyH_take (i := 11) (v := .pointer (some ⟨m, 0, none⟩)) rfl (by kernel_rfl) (by kernel_rfl) (by kernel_rfl) (fun _ _ _ h => h) (Or.inl ⟨by rfl, ?r⟩) hS ?_
      case r => intro W hW; simp [go_sem, execOp, Act.eval]
      simp only [List.getElem_toArray, List.getElem_cons_zero, List.getElem_cons_succ, Act.put, List.setIfInBounds_toArray, List.set_cons_succ, List.set_cons_zero]
      refine wpAnyH_all (rs := [12]) (by kernel_rfl) (by simp) (fun i2 hi2 => ?_)
      obtain rfl : i2 = 12 := by simpa using hi2
      clear hi2
      refine wpOp_step rfl (fun K hK => ite_yes rfl ?_)
      simp only [List.getElem_toArray, List.getElem_cons_zero, List.getElem_cons_succ]
      go_simp
      have hne3 : w.heap.size ≠ m := HBM.out
      refine hK _ _ ⟨(World.cell?_of_block (a := ⟨w.heap.size, 0, none⟩) (heap_setCell_other w3 m 0 w.heap.size _ HBM.out)).trans hS3, ?_⟩
      clear hK K hS
      refine wpAnyH_done (by kernel_rfl) ?_ _
      refine NoPanic.normal ?_
      try simp only [Act.put]
      have hmg3 : m ≠ g3 := by
        have h1 : w3.heap[m]? = W4.heap[m]? := HG3.out.2.1.block m hmz4 HMB.out
        obtain ⟨ct, h2⟩ := HP4.out.map
        exact tag_ne (h1.trans h2) hg3 (by decide)
      have hxg3 : w.heap.size ≠ g3 := tag_ne ((HG3.out.2.1.block w.heap.size hz4 HBX.out).trans (HX4.out)) hg3 (by decide)
      have hg6 : (w3.setCell ⟨m, 0, none⟩ (.slice (some ⟨g3, 0, none⟩) (G.L + G.L) cap3)).heap[g3]? = some (.cells cur3 112 (0, 0)) := (heap_setCell_other _ _ _ _ _ hmg3.symm).trans hg3
      have hc6 : (w3.setCell ⟨m, 0, none⟩ (.slice (some ⟨g3, 0, none⟩) (G.L + G.L) cap3)).cell? ⟨m, 0, none⟩ = some (.slice (some ⟨g3, 0, none⟩) (G.L + G.L) cap3) := by rw [World.cell?_setCell_same' _ _ _ (by rw [hm3]; rfl)]
      have hx6 : (w3.setCell ⟨m, 0, none⟩ (.slice (some ⟨g3, 0, none⟩) (G.L + G.L) cap3)).cell? ⟨w.heap.size, 0, none⟩ = some (.pointer (some ⟨m, 0, none⟩)) := (World.cell?_of_block (a := ⟨w.heap.size, 0, none⟩) (heap_setCell_other w3 m 0 w.heap.size _ HBM.out)).trans hS3
      obtain ⟨W6, hW6⟩ : ∃ W6, W6 = w3.setCell ⟨m, 0, none⟩ (.slice (some ⟨g3, 0, none⟩) (G.L + G.L) cap3) := ⟨_, rfl⟩
      have hmz6 : m < W6.heap.size := by rw [hW6]; simpa using hmz3
      have hzx6 : w.heap.size < W6.heap.size := by rw [hW6]; simpa using hzx
      rw [← hW6] at hg6 hc6 hx6 ⊢
      have HW6 : Hid (W6 = w3.setCell ⟨m, 0, none⟩ (.slice (some ⟨g3, 0, none⟩) (G.L + G.L) cap3)) := hW6
      clear hW6 hm3 hmz3 hf3 hzx hS3
      obtain ⟨kL, hkL⟩ : ∃ kL, G.L + G.L = kL + 1 := ⟨G.L + G.L - 1, by omega⟩
      rw [hkL] at hc6
      have HKL : Hid (G.L + G.L = kL + 1) := hkL
      have HC6 : Hid (∀ ty, (Builtin.clear_ #[63] ty #[.slice (some ⟨g3, 0, none⟩) (kL + 1) cap3]).run Tryd.prog W6 = .ok (.tuple #[]) (W6.setRow g3 (List.replicate ((kL + 1) * 8) (Value.pointer none) ++ cur3.toList.drop ((kL + 1) * 8)).toArray)) := fun ty => run_clear W6 g3 kL cap3 cur3 ty hg6 (by omega)
      clear hkL
      gi_wp2_with fail
      rw [HC6.out]
      obtain ⟨W7, hW7⟩ : ∃ W7, W7 = W6.setRow g3 (List.replicate ((kL + 1) * 8) (Value.pointer none) ++ cur3.toList.drop ((kL + 1) * 8)).toArray := ⟨_, rfl⟩
      have hx7 : W7.cell? ⟨w.heap.size, 0, none⟩ = some (.pointer (some ⟨m, 0, none⟩)) := by rw [hW7]; exact (srow hxg3).trans hx6
      have HX7 : Hid (W7.heap[w.heap.size]? = some (.cells #[.pointer (some ⟨m, 0, none⟩)] 24 (0, 0))) := by
        have h3 := (HG3.out.2.1.block w.heap.size hz4 HBX.out).trans HX4.out
        rw [hW7]
        refine (setRow_other _ _ _ _ hxg3).trans ?_
        rw [HW6.out]
        exact (heap_setCell_other _ _ _ _ _ HBM.out).trans h3
      have hzx7 : w.heap.size < W7.heap.size := by rw [hW7]; simpa using hzx6
      have HK7 : Hid (KeepS (fun b => b = m ∨ b = G.hb) w W7) := by
        have k4 : KeepS (fun b => b = m ∨ b = G.hb) w W4 := (Below.keepS _ hb0).below hB4
        have k3 : KeepS (fun b => b = m ∨ b = G.hb) w w3 := ⟨HG3.out.2.1.os.trans k4.os, HG3.out.2.1.tape.trans k4.tape, HG3.out.2.1.output.trans k4.output, Nat.le_trans k4.size HG3.out.2.1.size, fun b hb hn => (HG3.out.2.1.block b (Nat.lt_of_lt_of_le hb k4.size) (fun e => by cases e; exact hn (.inr rfl))).trans (k4.block b hb hn)⟩
        have k6 : KeepS (fun b => b = m ∨ b = G.hb) w W6 := by rw [HW6.out]; exact k3.set _ (fun _ => .inl rfl)
        rw [hW7]
        refine ⟨k6.os, k6.tape, k6.output, by simpa using k6.size, fun b hb hn => (setRow_other _ _ _ _ ?_).trans (k6.block b hb hn)⟩
        rintro rfl
        rcases hgw3 with rfl | h
        · exact hn (.inr rfl)
        · omega
      have HM7 : Hid (∃ ct : Int, W7.heap[m]? = some (.cells #[.slice (some ⟨g3, 0, none⟩) (G.L + G.L) cap3, .pointer (some ⟨G.rb, 0, none⟩), .int .i64 ct] 65 (0, 0)) ∧ ct = es.length) := by
        obtain ⟨ct, h⟩ := hP.map
        have e : ct = es.length := by
          have := (row_at h 2).symm.trans hct
          simpa using this
        refine ⟨ct, ?_, e⟩
        have h3 : w3.heap[m]? = _ := (HG3.out.2.1.block m hmz4 HMB.out).trans (((hB4.block m (Nat.lt_of_lt_of_le (row_ltT h) hb0.size)).trans (hb0.block m (row_ltT h))).trans h)
        rw [hW7]
        refine (setRow_other _ _ _ _ hmg3).trans ?_
        rw [HW6.out]
        exact row_set h3 0 _
      have HP7 : Hid (KMp n W7 m es (G.wide g3 (G.L + G.L) cap3) (fun _ => False)) := by
        obtain ⟨ct, h, _⟩ := HM7.out
        refine hP.cleared HK7.out h (by rw [hW7]; exact setRow_heap W6 g3 cur3 _ _ _ hg6) (by omega) hcap3 (by omega) hcm3 ?_ ?_
        · have := HKL.out
          simp
          omega
        · intro i hi
          have := HKL.out
          rw [List.getElem?_toArray, List.getElem?_append_left (by simp; omega), List.getElem?_replicate, if_pos (by omega)]
      rw [← hW7]
      have HS7 : Hid (W4.heap.size ≤ W7.heap.size ∧ (g3 = G.hb ∨ w.heap.size ≤ g3)) := by
        refine ⟨?_, hgw3.imp id (fun h => by omega)⟩
        have := HG3.out.2.1.size
        rw [hW7, HW6.out]
        simpa using this
      clear hW7 hx6 hc6 hg6 hzx6 hmz6 HC6 HW6 HKL hg3 hcs3 hcap3 hcm3 hgw3 hmg3 hxg3 HG3 hne3 hm4 hmz4 HF4 HX4 HO5 HN5 HP4 hB4 hz4 hbx hct
      gi_wp2_with fail
      have HE : Hid (∀ s x, s ++ [x] <+: es.map Ent.b → ∃ e ∈ es, e.b = x ∧ x ∉ s) := fun s x h => by
        have hx : x ∈ es.map Ent.b := h.subset (by simp)
        obtain ⟨e, he, rfl⟩ := List.mem_map.1 hx
        refine ⟨e, he, rfl, fun hs => ?_⟩
        have hnd := (List.nodup_cons.1 hP.nod).2.sublist h.sublist
        rw [List.nodup_append] at hnd
        exact hnd.2.2 _ hs _ (by simp) rfl
      have HADJ : Hid (Adj G.bf G.bh (G.rb :: es.map Ent.b ++ [G.rb]) ∧ (G.rb :: es.map Ent.b).Nodup) := ⟨hP.adj, hP.nod⟩
      refine wpIn_rangeFunc_R rfl (by omega) (gf := 40) (pre := #[.pointer (some ⟨m, 0, none⟩)]) (lb := #[]) rfl trivial (enters_of Tryd.func40 (by kernel_rfl) rfl)
        (entries_seq 4 (by omega) m G.rb (es.map Ent.b) G.bf G.bh HADJ.out.1 HADJ.out.2) (fun _ => rfl)
        (GrowI n w W7 m es G g3 cap3) (fun s W h => h.ring) (fun o1 o2 => ?start) (fun s W o hz h => h.later (fun b hb => World.putObj_heap_other (by omega)) (by simpa using h.size) rfl rfl rfl)
        (fun x _ => { tmps := #[.pointer (some ⟨m, 0, none⟩), .pointer (some ⟨w.heap.size, 0, none⟩), .pointer (some ⟨x, 0, none⟩), .pointer (some ⟨m, 0, none⟩), .pointer (some ⟨m, 0, none⟩), .pointer (some ⟨m, 0, none⟩), .pointer (some ⟨m, 0, none⟩), .slice (some ⟨G.hb, 0, none⟩) G.L G.cap, .pointer (some ⟨m, 0, none⟩), .pointer (some ⟨m, 0, none⟩), .pointer (some ⟨m, 0, none⟩), .slice (some ⟨G.hb, 0, none⟩) G.L G.cap, .slice (some ⟨g3, 0, none⟩) (G.L + G.L) cap3, .pointer (some ⟨m, 0, none⟩), .pointer (some ⟨m, 0, none⟩), .pointer (some ⟨m, 0, none⟩), .pointer (some ⟨m, 0, none⟩), .pointer (some ⟨m, 0, none⟩), .slice (some ⟨g3, 0, none⟩) (kL + 1) cap3, .pointer (some ⟨m, 0, none⟩), .func (.func 40) #[.pointer (some ⟨m, 0, none⟩)] #[], .pointer (some ⟨x, 0, none⟩), undef, undef, undef], defers := [] }) (fun _ W => W) (fun s x W _ h => ⟨h, rfl, rfl⟩) ?assign ?body ?done
      case start =>
        have hb : Below W7.heap.size W7 ((W7.alloc o1).alloc o2) := below2 _ _ _
        exact ⟨W7, _, HP7.out.congr (fun b => by simp), rfl, hb, rfl, rfl, rfl, rfl, rfl, rfl, HX7.out, hzx7, KeepS.refl _ _, by obtain ⟨ct, h, e⟩ := HM7.out; rw [← e]; exact row_at h 2⟩
      case assign =>
        intro l x W K hK
        gi_wp2
        refine cast (congrArg (fun z => K ⟨z, []⟩ W) ?_) hK
        simp
      case body =>
        intro l s x W o hpre hlt hI
        obtain ⟨e, he, rfl, hes⟩ := HE.out s x hpre
        have hI : GrowI n w W7 m es G g3 cap3 s (W.putObj (W7.heap.size + 1) o) := hI
        show Code.wpIn _ _ _ _ (rPost W7.heap.size (GrowI n w W7 m es G g3 cap3) (s ++ [e.b]) (W.putObj (W7.heap.size + 1) o)) _ (W.putObj (W7.heap.size + 1) o)
        generalize W.putObj (W7.heap.size + 1) o = V at hI ⊢
        obtain ⟨hcx, hcz⟩ := hI.boxc
        obtain ⟨W', G', h1, h2, h3, h4⟩ := hI
        have HC := hang_any (h1.keep (by rw [h2]; exact h3)) he hes
        have HC : Hid _ := HC
        have HST : Hid (∀ i, i < 8 * G'.L → e.h % (8 * G'.L : Nat) = (i : Int) → rPost W7.heap.size (GrowI n w W7 m es G g3 cap3) (s ++ [e.b]) V .normal undefAct ((V.setCell ⟨e.b, 3, none⟩ (pv (G'.hd i))).setCell ⟨G'.hb, i, none⟩ (.pointer (some ⟨e.b, 0, none⟩)))) := fun i hi hei => GrowI.step h1 h2 h3 h4 he hes hi hei _
        clear h1 h2 h3 h4 hpre
        gi_wp2_with fail
        refine ⟨trivial, (CallsIn.inRound l (callsIn_wide.2 HC.out)).mono ?_⟩
        rintro r w9 ⟨rfl, i, rfl, _, hiL, hei⟩
        gi_wp2_with fail
        exact HST.out i hiL hei
      case done =>
        intro W hI hK
        gi_wp2
        refine ⟨by simp, .inl ⟨_, _, rfl, run_takeDeferred hK, ?_⟩⟩
        refine ⟨_, results_none rfl _ _ _, rfl, ?_⟩
        exact GrowI.done (hI.later (fun b hb => World.putObj_heap_other (by omega)) (by simpa using hI.size) rfl rfl rfl) HK7.out HM7.out hfit HS7.out.2
    · skip
      clear hi2
      refine wpOp_step rfl (fun K hK => ite_yes rfl ?_)
      simp only [List.getElem_toArray, List.getElem_cons_zero, List.getElem_cons_succ]
      go_simp
      refine hK _ _ ⟨hS, ?_⟩
      clear hK K
      try simp only [Act.put, List.setIfInBounds_toArray, List.set_cons_succ, List.set_cons_zero]
      refine wpAnyH_all (rs := [4]) (by kernel_rfl) (by simp) (fun i2 hi2 => ?_)
      obtain rfl : i2 = 4 := by simpa using hi2
      clear hi2
      refine wpOp_step rfl (fun K hK => ite_yes rfl ?_)
      simp only [List.getElem_toArray, List.getElem_cons_zero, List.getElem_cons_succ]
      go_simp
      refine hK _ _ ⟨hS, ?_⟩
      clear hK K
      try simp only [Act.put, List.setIfInBounds_toArray, List.set_cons_succ, List.set_cons_zero]
      refine wpAnyH_all (rs := [9]) (by kernel_rfl) (by simp) (fun i2 hi2 => ?_)
      obtain rfl : i2 = 9 := by simpa using hi2
      clear hi2
      refine wpOp_step rfl (fun K hK => ite_yes rfl ?_)
      simp only [List.getElem_toArray, List.getElem_cons_zero, List.getElem_cons_succ]
      obtain ⟨iR, hiR, hzR, hsR, hbR⟩ := infoR_parts
      refine wp_append_where _ _ 63 rfl 0 112 iR (.agg #[.pointer none, .pointer none, .pointer none, .pointer none, .pointer none, .pointer none, .pointer none, .pointer none]) 8 64 Tryd.underlying63 hiR hzR hsR hbR rfl (by decide) (.slice (some ⟨G.hb, 0, none⟩) G.L G.cap) G.L xs rfl HO5.out ⟨G.hb, 0, none⟩ G.L G.cap xs rfl HO5.out.1 HN5.out.1 HN5.out.2 (by unfold maxLen; omega) (by omega) (Nat.zero_le _) ?_
      intro v3 w3 hown3 hgr3 hwh3
      have hS3 : w3.cell? ⟨w.heap.size, 0, none⟩ = some (.pointer (some ⟨m, 0, none⟩)) := (World.cell?_of_block (a := ⟨w.heap.size, 0, none⟩) (hgr3.block w.heap.size hz4 HBX.out)).trans hS
      have HG3 : Hid (w3.ownsRow 0 112 8 v3 (G.L + G.L) (xs ++ xs) ∧ W4.grownBy w3 (some G.hb) ∧ ∀ g, v3.ownBlock = some g → (some G.hb : Option Nat) = some g ∨ W4.heap.size ≤ g) := ⟨hown3, hgr3, hwh3⟩
      have hm3 : ∃ u, w3.cell? ⟨m, 0, none⟩ = some u := ⟨_, (World.cell?_of_block (a := ⟨m, 0, none⟩) (hgr3.block m hmz4 HMB.out)).trans hm4⟩
      obtain ⟨u3, hm3⟩ := hm3
      have hmz3 : m < w3.heap.size := Nat.lt_of_lt_of_le hmz4 hgr3.size
      have hf3 : w3.frozen? ⟨m, 0, none⟩ = false := (World.frozen?_of_block (a := ⟨m, 0, none⟩) (hgr3.block m hmz4 HMB.out)).trans HF4.out
      have hzx : w.heap.size < w3.heap.size := Nat.lt_of_lt_of_le hz4 hgr3.size
      refine hK _ _ ⟨hS3, ?_⟩
      clear hK K hown3 hgr3 hwh3 hS
      have hS := hS3
      try simp only [Act.put, List.setIfInBounds_toArray, List.set_cons_succ, List.set_cons_zero]
      obtain ⟨g3, cap3, cur3, rfl, hg3, hcs3, hcap3, hcm3, hgw3⟩ : ∃ g cap cur, v3 = .slice (some ⟨g, 0, none⟩) (G.L + G.L) cap ∧ w3.heap[g]? = some (.cells cur 112 (0, 0)) ∧ cur.size = cap * 8 ∧ G.L + G.L ≤ cap ∧ cap ≤ maxLen ∧ (g = G.hb ∨ W4.heap.size ≤ g) := by
        obtain ⟨_, h⟩ := HG3.out.1
        rcases h with ⟨_, h⟩ | ⟨g, cap, cur, rfl, _, h2, h3, h4, h5, _⟩
        · omega
        · exact ⟨g, cap, cur, rfl, h2, h5, h3, h4, (HG3.out.2.2 g rfl).imp (fun e => by cases e; rfl) id⟩
      refine wpAnyH_take (i := 10) (v := .pointer (some ⟨m, 0, none⟩)) rfl (by kernel_rfl) (by kernel_rfl) (by kernel_rfl) (fun _ _ _ h => h) (Or.inl ⟨by rfl, ?r⟩) hS ?_
      case r => intro W hW; simp [go_sem, execOp, Act.eval]
      simp only [List.getElem_toArray, List.getElem_cons_zero, List.getElem_cons_succ, Act.put, List.setIfInBounds_toArray, List.set_cons_succ, List.set_cons_zero]
      refine wpAnyH_take (i := 11) (v := .pointer (some ⟨m, 0, none⟩)) rfl (by kernel_rfl) (by kernel_rfl) (by kernel_rfl) (fun _ _ _ h => h) (Or.inl ⟨by rfl, ?r⟩) hS ?_
      case r => intro W hW; simp [go_sem, execOp, Act.eval]
      simp only [List.getElem_toArray, List.getElem_cons_zero, List.getElem_cons_succ, Act.put, List.setIfInBounds_toArray, List.set_cons_succ, List.set_cons_zero]
      refine wpAnyH_all (rs := [12]) (by kernel_rfl) (by simp) (fun i2 hi2 => ?_)
      obtain rfl : i2 = 12 := by simpa using hi2
      clear hi2
      refine wpOp_step rfl (fun K hK => ite_yes rfl ?_)
      simp only [List.getElem_toArray, List.getElem_cons_zero, List.getElem_cons_succ]
      go_simp
      have hne3 : w.heap.size ≠ m := HBM.out
      refine hK _ _ ⟨(World.cell?_of_block (a := ⟨w.heap.size, 0, none⟩) (heap_setCell_other w3 m 0 w.heap.size _ HBM.out)).trans hS3, ?_⟩
      clear hK K hS
      refine wpAnyH_done (by kernel_rfl) ?_ _
      refine NoPanic.normal ?_
      try simp only [Act.put]
      have hmg3 : m ≠ g3 := by
        have h1 : w3.heap[m]? = W4.heap[m]? := HG3.out.2.1.block m hmz4 HMB.out
        obtain ⟨ct, h2⟩ := HP4.out.map
        exact tag_ne (h1.trans h2) hg3 (by decide)
      have hxg3 : w.heap.size ≠ g3 := tag_ne ((HG3.out.2.1.block w.heap.size hz4 HBX.out).trans (HX4.out)) hg3 (by decide)
      have hg6 : (w3.setCell ⟨m, 0, none⟩ (.slice (some ⟨g3, 0, none⟩) (G.L + G.L) cap3)).heap[g3]? = some (.cells cur3 112 (0, 0)) := (heap_setCell_other _ _ _ _ _ hmg3.symm).trans hg3
      have hc6 : (w3.setCell ⟨m, 0, none⟩ (.slice (some ⟨g3, 0, none⟩) (G.L + G.L) cap3)).cell? ⟨m, 0, none⟩ = some (.slice (some ⟨g3, 0, none⟩) (G.L + G.L) cap3) := by rw [World.cell?_setCell_same' _ _ _ (by rw [hm3]; rfl)]
      have hx6 : (w3.setCell ⟨m, 0, none⟩ (.slice (some ⟨g3, 0, none⟩) (G.L + G.L) cap3)).cell? ⟨w.heap.size, 0, none⟩ = some (.pointer (some ⟨m, 0, none⟩)) := (World.cell?_of_block (a := ⟨w.heap.size, 0, none⟩) (heap_setCell_other w3 m 0 w.heap.size _ HBM.out)).trans hS3
      obtain ⟨W6, hW6⟩ : ∃ W6, W6 = w3.setCell ⟨m, 0, none⟩ (.slice (some ⟨g3, 0, none⟩) (G.L + G.L) cap3) := ⟨_, rfl⟩
      have hmz6 : m < W6.heap.size := by rw [hW6]; simpa using hmz3
      have hzx6 : w.heap.size < W6.heap.size := by rw [hW6]; simpa using hzx
      rw [← hW6] at hg6 hc6 hx6 ⊢
      have HW6 : Hid (W6 = w3.setCell ⟨m, 0, none⟩ (.slice (some ⟨g3, 0, none⟩) (G.L + G.L) cap3)) := hW6
      clear hW6 hm3 hmz3 hf3 hzx hS3
      obtain ⟨kL, hkL⟩ : ∃ kL, G.L + G.L = kL + 1 := ⟨G.L + G.L - 1, by omega⟩
      rw [hkL] at hc6
      have HKL : Hid (G.L + G.L = kL + 1) := hkL
      have HC6 : Hid (∀ ty, (Builtin.clear_ #[63] ty #[.slice (some ⟨g3, 0, none⟩) (kL + 1) cap3]).run Tryd.prog W6 = .ok (.tuple #[]) (W6.setRow g3 (List.replicate ((kL + 1) * 8) (Value.pointer none) ++ cur3.toList.drop ((kL + 1) * 8)).toArray)) := fun ty => run_clear W6 g3 kL cap3 cur3 ty hg6 (by omega)
      clear hkL
      gi_wp2_with fail
      rw [HC6.out]
      obtain ⟨W7, hW7⟩ : ∃ W7, W7 = W6.setRow g3 (List.replicate ((kL + 1) * 8) (Value.pointer none) ++ cur3.toList.drop ((kL + 1) * 8)).toArray := ⟨_, rfl⟩
      have hx7 : W7.cell? ⟨w.heap.size, 0, none⟩ = some (.pointer (some ⟨m, 0, none⟩)) := by rw [hW7]; exact (srow hxg3).trans hx6
      have HX7 : Hid (W7.heap[w.heap.size]? = some (.cells #[.pointer (some ⟨m, 0, none⟩)] 24 (0, 0))) := by
        have h3 := (HG3.out.2.1.block w.heap.size hz4 HBX.out).trans HX4.out
        rw [hW7]
        refine (setRow_other _ _ _ _ hxg3).trans ?_
        rw [HW6.out]
        exact (heap_setCell_other _ _ _ _ _ HBM.out).trans h3
      have hzx7 : w.heap.size < W7.heap.size := by rw [hW7]; simpa using hzx6
      have HK7 : Hid (KeepS (fun b => b = m ∨ b = G.hb) w W7) := by
        have k4 : KeepS (fun b => b = m ∨ b = G.hb) w W4 := (Below.keepS _ hb0).below hB4
        have k3 : KeepS (fun b => b = m ∨ b = G.hb) w w3 := ⟨HG3.out.2.1.os.trans k4.os, HG3.out.2.1.tape.trans k4.tape, HG3.out.2.1.output.trans k4.output, Nat.le_trans k4.size HG3.out.2.1.size, fun b hb hn => (HG3.out.2.1.block b (Nat.lt_of_lt_of_le hb k4.size) (fun e => by cases e; exact hn (.inr rfl))).trans (k4.block b hb hn)⟩
        have k6 : KeepS (fun b => b = m ∨ b = G.hb) w W6 := by rw [HW6.out]; exact k3.set _ (fun _ => .inl rfl)
        rw [hW7]
        refine ⟨k6.os, k6.tape, k6.output, by simpa using k6.size, fun b hb hn => (setRow_other _ _ _ _ ?_).trans (k6.block b hb hn)⟩
        rintro rfl
        rcases hgw3 with rfl | h
        · exact hn (.inr rfl)
        · omega
      have HM7 : Hid (∃ ct : Int, W7.heap[m]? = some (.cells #[.slice (some ⟨g3, 0, none⟩) (G.L + G.L) cap3, .pointer (some ⟨G.rb, 0, none⟩), .int .i64 ct] 65 (0, 0)) ∧ ct = es.length) := by
        obtain ⟨ct, h⟩ := hP.map
        have e : ct = es.length := by
          have := (row_at h 2).symm.trans hct
          simpa using this
        refine ⟨ct, ?_, e⟩
        have h3 : w3.heap[m]? = _ := (HG3.out.2.1.block m hmz4 HMB.out).trans (((hB4.block m (Nat.lt_of_lt_of_le (row_ltT h) hb0.size)).trans (hb0.block m (row_ltT h))).trans h)
        rw [hW7]
        refine (setRow_other _ _ _ _ hmg3).trans ?_
        rw [HW6.out]
        exact row_set h3 0 _
      have HP7 : Hid (KMp n W7 m es (G.wide g3 (G.L + G.L) cap3) (fun _ => False)) := by
        obtain ⟨ct, h, _⟩ := HM7.out
        refine hP.cleared HK7.out h (by rw [hW7]; exact setRow_heap W6 g3 cur3 _ _ _ hg6) (by omega) hcap3 (by omega) hcm3 ?_ ?_
        · have := HKL.out
          simp
          omega
        · intro i hi
          have := HKL.out
          rw [List.getElem?_toArray, List.getElem?_append_left (by simp; omega), List.getElem?_replicate, if_pos (by omega)]
      rw [← hW7]
      have HS7 : Hid (W4.heap.size ≤ W7.heap.size ∧ (g3 = G.hb ∨ w.heap.size ≤ g3)) := by
        refine ⟨?_, hgw3.imp id (fun h => by omega)⟩
        have := HG3.out.2.1.size
        rw [hW7, HW6.out]
        simpa using this
      clear hW7 hx6 hc6 hg6 hzx6 hmz6 HC6 HW6 HKL hg3 hcs3 hcap3 hcm3 hgw3 hmg3 hxg3 HG3 hne3 hm4 hmz4 HF4 HX4 HO5 HN5 HP4 hB4 hz4 hbx hct
      gi_wp2_with fail
      have HE : Hid (∀ s x, s ++ [x] <+: es.map Ent.b → ∃ e ∈ es, e.b = x ∧ x ∉ s) := fun s x h => by
        have hx : x ∈ es.map Ent.b := h.subset (by simp)
        obtain ⟨e, he, rfl⟩ := List.mem_map.1 hx
        refine ⟨e, he, rfl, fun hs => ?_⟩
        have hnd := (List.nodup_cons.1 hP.nod).2.sublist h.sublist
        rw [List.nodup_append] at hnd
        exact hnd.2.2 _ hs _ (by simp) rfl
      have HADJ : Hid (Adj G.bf G.bh (G.rb :: es.map Ent.b ++ [G.rb]) ∧ (G.rb :: es.map Ent.b).Nodup) := ⟨hP.adj, hP.nod⟩
      refine wpIn_rangeFunc_R rfl (by omega) (gf := 40) (pre := #[.pointer (some ⟨m, 0, none⟩)]) (lb := #[]) rfl trivial (enters_of Tryd.func40 (by kernel_rfl) rfl)
        (entries_seq 4 (by omega) m G.rb (es.map Ent.b) G.bf G.bh HADJ.out.1 HADJ.out.2) (fun _ => rfl)
        (GrowI n w W7 m es G g3 cap3) (fun s W h => h.ring) (fun o1 o2 => ?start) (fun s W o hz h => h.later (fun b hb => World.putObj_heap_other (by omega)) (by simpa using h.size) rfl rfl rfl)
        (fun x _ => { tmps := #[.pointer (some ⟨m, 0, none⟩), .pointer (some ⟨w.heap.size, 0, none⟩), .pointer (some ⟨x, 0, none⟩), .pointer (some ⟨m, 0, none⟩), .pointer (some ⟨m, 0, none⟩), .pointer (some ⟨m, 0, none⟩), .pointer (some ⟨m, 0, none⟩), .slice (some ⟨G.hb, 0, none⟩) G.L G.cap, .pointer (some ⟨m, 0, none⟩), .pointer (some ⟨m, 0, none⟩), .pointer (some ⟨m, 0, none⟩), .slice (some ⟨G.hb, 0, none⟩) G.L G.cap, .slice (some ⟨g3, 0, none⟩) (G.L + G.L) cap3, .pointer (some ⟨m, 0, none⟩), .pointer (some ⟨m, 0, none⟩), .pointer (some ⟨m, 0, none⟩), .pointer (some ⟨m, 0, none⟩), .pointer (some ⟨m, 0, none⟩), .slice (some ⟨g3, 0, none⟩) (kL + 1) cap3, .pointer (some ⟨m, 0, none⟩), .func (.func 40) #[.pointer (some ⟨m, 0, none⟩)] #[], .pointer (some ⟨x, 0, none⟩), undef, undef, undef], defers := [] }) (fun _ W => W) (fun s x W _ h => ⟨h, rfl, rfl⟩) ?assign ?body ?done
      case start =>
        have hb : Below W7.heap.size W7 ((W7.alloc o1).alloc o2) := below2 _ _ _
        exact ⟨W7, _, HP7.out.congr (fun b => by simp), rfl, hb, rfl, rfl, rfl, rfl, rfl, rfl, HX7.out, hzx7, KeepS.refl _ _, by obtain ⟨ct, h, e⟩ := HM7.out; rw [← e]; exact row_at h 2⟩
      case assign =>
        intro l x W K hK
        gi_wp2
        refine cast (congrArg (fun z => K ⟨z, []⟩ W) ?_) hK
        simp
      case body =>
        intro l s x W o hpre hlt hI
        obtain ⟨e, he, rfl, hes⟩ := HE.out s x hpre
        have hI : GrowI n w W7 m es G g3 cap3 s (W.putObj (W7.heap.size + 1) o) := hI
        show Code.wpIn _ _ _ _ (rPost W7.heap.size (GrowI n w W7 m es G g3 cap3) (s ++ [e.b]) (W.putObj (W7.heap.size + 1) o)) _ (W.putObj (W7.heap.size + 1) o)
        generalize W.putObj (W7.heap.size + 1) o = V at hI ⊢
        obtain ⟨hcx, hcz⟩ := hI.boxc
        obtain ⟨W', G', h1, h2, h3, h4⟩ := hI
        have HC := hang_any (h1.keep (by rw [h2]; exact h3)) he hes
        have HC : Hid _ := HC
        have HST : Hid (∀ i, i < 8 * G'.L → e.h % (8 * G'.L : Nat) = (i : Int) → rPost W7.heap.size (GrowI n w W7 m es G g3 cap3) (s ++ [e.b]) V .normal undefAct ((V.setCell ⟨e.b, 3, none⟩ (pv (G'.hd i))).setCell ⟨G'.hb, i, none⟩ (.pointer (some ⟨e.b, 0, none⟩)))) := fun i hi hei => GrowI.step h1 h2 h3 h4 he hes hi hei _
        clear h1 h2 h3 h4 hpre
        gi_wp2_with fail
        refine ⟨trivial, (CallsIn.inRound l (callsIn_wide.2 HC.out)).mono ?_⟩
        rintro r w9 ⟨rfl, i, rfl, _, hiL, hei⟩
        gi_wp2_with fail
        exact HST.out i hiL hei
      case done =>
        intro W hI hK
        gi_wp2
        refine ⟨by simp, .inl ⟨_, _, rfl, run_takeDeferred hK, ?_⟩⟩
        refine ⟨_, results_none rfl _ _ _, rfl, ?_⟩
        exact GrowI.done (hI.later (fun b hb => World.putObj_heap_other (by omega)) (by simpa using hI.size) rfl rfl rfl) HK7.out HM7.out hfit HS7.out.2
end Go.Proofs.YtflonmlnedkmjaaDoor
