/-
  listed: the entries in a row.
  A loop over a map that is walked: its turns.
  The iterator of Walk.
  Data of the statements.
  The keys of raw numbers; the map and the list of numbers.
  The first examples, call by call.
  The first examples.
  What the map holds that has keys of that kind.
  A map in the midst of a walk.
  Rows beside the map that are written.
  The map of KeyedModel and the rows beside it.
  Regions of a turn that draw their order.
-/
import Derived.Test.YtflonmlnedkmjaaDoorMv
import Derived.Maps.AppendAt
import Derived.Test.YtflonmlnedkmjaaDoorSc
import Derived.Deep.RegionHeld3
namespace Go.Proofs.YtflonmlnedkmjaaDoor
open Go.RowKit Go.Shelf
attribute [local go_sem] Oper.semAt_some
variable {n : Nat} {w w' : World} {m : Nat} {es A B : List Ent} {e : Ent} {G : KG}
/-- The entries of a map, one behind the other. -/
def ptrs (bs : List Nat) : List Value := bs.map fun b => .pointer (some ⟨b, 0, none⟩)
theorem wpListIn_append_there {F : Fence} {n : Nat} {P : Program} (w : World) {ops : Array Oper} {rest : List Oper} {o : Oper} {a : Act} {Q : Exit → Act → World → Prop}
    (hg : o.guard = none) (s x : Operand) (t : TypeId) (hop : o.op = Op.call { callee := Callee.builtin Builtin.append, args := #[s, x], argTypes := #[t, t] })
    (base : Nat) (e : TypeId) (i : TypeInfo) (z : Value) (size bytes : Nat) (h1 : P.underlying t = some (.slice e)) (h2 : P.info? e = some i) (h3 : i.zero = some z) (h4 : i.size = size) (h5 : i.bytes = bytes) (h6 : z.cells.size = size) (h7 : 0 < size)
    (v : Value) (k : Nat) (xs : List Value) (hs : a.eval s = v) (hown : w.ownsRow base e size v k xs) (ad : Addr) (m c : Nat) (news : List Value) (hx : a.eval x = .slice (some ad) m c) (hn : news.length = m * size)
    (hc : ∀ j u, news[j]? = some u → w.cell? (ad.add j) = some u) (h1c : ∀ u ∈ news, u.oneCell' = true) (b1 : k + m ≤ maxLen) (b2 : (k + m) * bytes ≤ 140737488355328) (b3 : base ≤ w.heap.size)
    (hK : ∀ v' w', w'.ownsRow base e size v' (k + m) (xs ++ news) → w.grownBy w' v.ownBlock → (v'.ownBlock = v.ownBlock ∨ v'.ownBlock = some w.heap.size) → wpListIn F n P ops Q rest (a.put o.dst v') w') :
    wpListIn F n P ops Q (o :: rest) a w := by
  obtain ⟨v', w', hrun, r1, r2, _, r4⟩ := run_append_own_at (P := P) w base t o.type e i z size bytes h1 h2 h3 h4 h5 h6 h7 v k xs hown ad m c news hn hc h1c b1 b2 b3
  refine wpListIn_plain hg fun K hK' => ?_
  unfold Oper.wpIn
  constructor
  · simp [hop, Oper.about, resolve, Sem.run_pure, Target.leads]
  · rw [Oper.semAt_plain F _ _ (by rw [hop]; intro c hc'; cases hc')]
    simp [hop, hs, hx, hrun, execOp, resolve, invoke, builtin, Result.andThen]
    exact hK' _ _ (hK v' w' r1 r2 r4)

theorem KM.keepS {S : Nat → Prop} (h : KM n w m es G) (k : KeepS S w w') (hs : ∀ b c t, w.heap[b]? = some (.cells c t (0, 0)) → (t = 65 ∨ t = 112 ∨ t = 62 ∨ t = 3 ∨ t = 39) → ¬ S b) : KM n w' m es G := by
  have hd : ∀ g c t, (t = 3 ∨ t = 39) → w.heap[g]? = some (.cells c t (0, 0)) → ¬ S g := fun g c t ht hg => hs g c t hg (by rcases ht with rfl | rfl <;> simp)
  obtain ⟨cur, h1, h2, h3⟩ := h.heads
  exact ⟨k.cells h.map (hs _ _ _ h.map (by simp)), h.L1, h.Lc, h.Lm, h.capm, ⟨cur, k.cells h1 (hs _ _ _ h1 (by simp)), h2, h3⟩, k.cells h.ring (hs _ _ _ h.ring (by simp)), fun e he => k.cells (h.ent e he) (hs _ _ _ (h.ent e he) (by simp)), fun e he => ⟨(h.box e he).1.keep k hd, (h.box e he).2.keep k hd⟩, h.adj, h.nod, h.chain, h.fit, h.key, h.apart⟩
theorem KM.ringR (h : KM n w m es G) : RingR m G.rb (es.map Ent.b) G.bh w := by
  refine ⟨h.cell 1, row_ltT h.map, fun x hx => ?_⟩
  rcases List.mem_cons.1 hx with rfl | hx
  · exact ⟨h.ring.cell 5, row_ltT h.ring, _, _, h.ring⟩
  · obtain ⟨e, he, rfl⟩ := List.mem_map.1 hx
    exact ⟨(h.ent e he).cell 5, row_ltT (h.ent e he), _, _, h.ent e he⟩
theorem own_other {base : Nat} {t : TypeId} {size : Nat} {v : Value} {k : Nat} {xs : List Value} (h : w.ownsRow base t size v k xs) (hb : ∀ g, v.ownBlock = some g → w'.heap[g]? = w.heap[g]?) : w'.ownsRow base t size v k xs := by
  refine ⟨h.1, ?_⟩
  rcases h.2 with q | ⟨g, cap, cur, hv, hg, hgg, rest⟩
  · exact .inl q
  · refine .inr ⟨g, cap, cur, hv, hg, (hb g (by rw [hv]; rfl)).trans hgg, rest⟩
theorem infoPE : (Tryd.prog.info? 57).map (fun i => (i.zero, i.size, i.bytes)) = some (some (.pointer none), 1, 8) := by kernel_rfl
theorem infoPE_parts : ∃ i, Tryd.prog.info? 57 = some i ∧ i.zero = some (.pointer none) ∧ i.size = 1 ∧ i.bytes = 8 := by
  have h := infoPE
  cases hi : Tryd.prog.info? 57 with
  | none => rw [hi] at h; cases h
  | some i => rw [hi] at h; simp at h; exact ⟨i, rfl, h.1, h.2.1, h.2.2⟩
theorem slice_of {base : Nat} {t : TypeId} {size : Nat} {v : Value} {k : Nat} {xs : List Value} (h : w.ownsRow base t size v k xs) (hk : 0 < k) : ∃ g c, v = .slice (some ⟨g, 0, none⟩) k c := by
  rcases h.2 with ⟨_, q⟩ | ⟨g, cap, cur, hv, _⟩
  · omega
  · exact ⟨g, cap, hv⟩
theorem app_box {V w6 : World} {o : Obj} {v u : Value} {b : Nat} (h : (V.alloc o).grownBy w6 v.ownBlock) (hc : V.cell? ⟨b, 0, none⟩ = some u) (hz : b < V.heap.size) (hb : ∀ g', v.ownBlock = some g' → g' < V.heap.size ∧ g' ≠ b) : w6.cell? ⟨b, 0, none⟩ = some u :=
  (World.cell?_of_block (a := ⟨b, 0, none⟩) ((h.block b (by simp; omega) (fun q => (hb b q.symm).2 rfl)).trans (Below.heap_alloc V _ b hz))).trans hc
theorem app_frozen {V w6 : World} {o : Obj} {v : Value} {b : Nat} (h : (V.alloc o).grownBy w6 v.ownBlock) (hc : V.frozen? ⟨b, 0, none⟩ = false) (hz : b < V.heap.size) (hb : ∀ g', v.ownBlock = some g' → g' < V.heap.size ∧ g' ≠ b) : w6.frozen? ⟨b, 0, none⟩ = false :=
  (World.frozen?_of_block (a := ⟨b, 0, none⟩) ((h.block b (by simp; omega) (fun q => (hb b q.symm).2 rfl)).trans (Below.heap_alloc V _ b hz))).trans hc
theorem app_size {V w6 : World} {o : Obj} {r : Option Nat} {b : Nat} (h : (V.alloc o).grownBy w6 r) (hz : b < V.heap.size) : b < w6.heap.size := by
  have := h.size
  simp at this
  omega
theorem one_new (w : World) (a : Value) (t : TypeId) (n : Nat) (hn : n = w.heap.size) : ∀ j u, [a][j]? = some u → (w.alloc (.cells #[a] t)).cell? ((⟨n, 0, none⟩ : Addr).add j) = some u := by
  subst hn
  intro j u hj
  match j, hj with
  | 0, hj => simp at hj; subst hj; simp [Addr.add]
  | j + 1, hj => simp at hj

/-- What holds between two rounds of AppendSeq. -/
structure ListI (w : World) (g : Nat) (s : List Nat) (v : Value) (W : World) : Prop where
  box : W.heap[w.heap.size]? = some (.cells #[v] 83 (0, 0))
  own : W.ownsRow 0 57 1 v s.length (ptrs s)
  at_ : ∀ g', v.ownBlock = some g' → g' = g ∨ w.heap.size + 3 ≤ g'
  keep : KeepS (fun b => b = g) w W
theorem ListI.put {g : Nat} {s : List Nat} {v : Value} {W : World} (h : ListI w g s v W) (hg : g < w.heap.size) (o : Obj) : ListI w g s v (W.putObj (w.heap.size + 1 + 1) o) :=
  ⟨(World.putObj_heap_other (by omega)).trans h.box, own_other h.own (fun g' hg' => World.putObj_heap_other (by rcases h.at_ g' hg' with q | q <;> omega)), h.at_, ⟨h.keep.os, h.keep.tape, h.keep.output, by simpa using h.keep.size, fun b hb hn => (World.putObj_heap_other (by omega)).trans (h.keep.block b hb hn)⟩⟩
set_option maxRecDepth 100000 in
set_option maxHeartbeats 4000000 in
theorem appendSeq_any (hK : KM n w m es G) {g cap : Nat} (hg : w.ownsRow 0 57 1 (.slice (some ⟨g, 0, none⟩) 0 cap) 0 []) (hlen : es.length ≤ 1099511627776) :
    Calls Tryd.prog 41 #[.slice (some ⟨g, 0, none⟩) 0 cap, .func (.func 40) #[.pointer (some ⟨m, 0, none⟩)] #[]] w fun r w' => ∃ v, r = .returned v ∧ w'.ownsRow 0 57 1 v es.length (ptrs (es.map Ent.b)) ∧ KeepS (fun b => b = g) w w' ∧ ∀ g', v.ownBlock = some g' → g' = g ∨ w.heap.size ≤ g' := by
  obtain ⟨cg, hgt⟩ : ∃ c, w.heap[g]? = some (.cells c 57 (0, 0)) := by
    rcases hg.2 with ⟨q, _⟩ | ⟨g', cap', cur, hv, _, hgg, _⟩
    · cases q
    · cases hv; exact ⟨_, hgg⟩
  have hgz := row_ltT hgt
  have HS : Hid (∀ b c t, w.heap[b]? = some (.cells c t (0, 0)) → (t = 65 ∨ t = 112 ∨ t = 62 ∨ t = 3 ∨ t = 39) → ¬ b = g) := fun b c t hb ht => by
    refine tag_ne hb hgt ?_
    rcases ht with rfl | rfl | rfl | rfl | rfl <;> decide
  have H : Hid (KM n w m es G) := hK
  have HR : Hid (∀ s v W, ListI w g s v W → RingR m G.rb (es.map Ent.b) G.bh W) := fun s v W h => (hK.keepS h.keep HS.out).ringR
  refine (callsIn_wide (n := 5)).1 ?_
  refine callsIn_of_wp_marks Tryd.func41 rfl trivial ?_ rfl
  simp only [Tryd.ntmps41, List.size_toArray, List.length_cons, List.length_nil, Nat.reduceAdd, Nat.reduceSub, Array.replicate_succ, Array.replicate_zero, List.push_toArray, List.append_toArray, List.nil_append, List.cons_append]
  gi_wp2_with fail
  obtain ⟨W0, hW0⟩ : ∃ W0, W0 = w.alloc (.cells #[.slice (some ⟨g, 0, none⟩) 0 cap] 83) := ⟨_, rfl⟩
  have hz0 : W0.heap.size = w.heap.size + 1 := by rw [hW0]; simp
  have hb0 : Below w.heap.size w W0 := by rw [hW0]; exact below1 _ _
  have hx0 : W0.heap[w.heap.size]? = some (.cells #[.slice (some ⟨g, 0, none⟩) 0 cap] 83 (0, 0)) := by rw [hW0]; exact heap_alloc_new _ _
  rw [← hW0]
  clear hW0 hK
  refine wpIn_rangeFunc_R rfl (by omega) (gf := 40) (pre := #[.pointer (some ⟨m, 0, none⟩)]) (lb := #[]) rfl trivial (enters_of Tryd.func40 (by kernel_rfl) rfl)
    (entries_seq 4 (by omega) m G.rb (es.map Ent.b) G.bf G.bh H.out.adj H.out.nod) (fun _ => rfl)
    (fun s W => ∃ v, ListI w g s v W) (fun s W ⟨v, h⟩ => HR.out s v W h) (fun o1 o2 => ?start) (fun s W o hz ⟨v, h⟩ => ⟨v, by rw [hz0]; exact h.put hgz o⟩)
    (fun x _ => { tmps := #[.slice (some ⟨g, 0, none⟩) 0 cap, .func (.func 40) #[.pointer (some ⟨m, 0, none⟩)] #[], .pointer (some ⟨w.heap.size, 0, none⟩), undef, .slice none 0 0, .pointer (some ⟨x, 0, none⟩), .func (.func 40) #[.pointer (some ⟨m, 0, none⟩)] #[], .pointer (some ⟨x, 0, none⟩), undef, undef, undef, undef, undef], defers := [] }) (fun _ W => W) (fun s x W _ h => ⟨h, rfl, rfl⟩) ?assign ?body ?done
  case start =>
    have hb : Below W0.heap.size W0 ((W0.alloc o1).alloc o2) := below2 _ _ _
    refine ⟨_, (hb.block _ (by omega)).trans hx0, own_other hg (fun g' hg' => ?_), fun g' hg' => ?_, (Below.keepS _ hb0).below hb⟩
    · cases hg'
      exact (hb.block g (by omega)).trans (hb0.block g hgz)
    · cases hg'
      exact .inl rfl
  case assign =>
    intro l x W K hK
    gi_wp2
    refine cast (congrArg (fun z => K ⟨z, []⟩ W) ?_) hK
    simp
  case body =>
    intro l s x W o hpre hlt hI
    obtain ⟨v, hI⟩ := hI
    have hI : ListI w g s v (W.putObj (W0.heap.size + 1) o) := hI
    have hVz : W0.heap.size + 1 < (W.putObj (W0.heap.size + 1) o).heap.size := by simpa using hlt
    show Code.wpIn _ _ _ _ (rPost W0.heap.size (fun s W => ∃ v, ListI w g s v W) (s ++ [x]) (W.putObj (W0.heap.size + 1) o)) _ (W.putObj (W0.heap.size + 1) o)
    generalize W.putObj (W0.heap.size + 1) o = V at hI hVz ⊢
    have hbx := hI.box
    have hcx : V.cell? ⟨w.heap.size, 0, none⟩ = some v := row_at hbx 0
    have hfx := fz _ _ _ _ 0 hbx
    have hzx := row_ltT hbx
    have hsl : s.length < es.length := by
      have := hpre.length_le
      simp at this
      omega
    have hown := hI.own
    have hat := hI.at_
    have hkp := hI.keep
    obtain ⟨i0, hi, hz0', hz1, hz2⟩ := infoPE_parts
    have HI : Hid (ListI w g s v V) := hI
    have HB : Hid (∀ g', v.ownBlock = some g' → g' < V.heap.size ∧ g' ≠ w.heap.size) := fun g' hg' => by
      refine ⟨?_, by rcases hat g' hg' with q | q <;> omega⟩
      rcases hown.2 with ⟨q, _⟩ | ⟨g2, cap', cur, hv, _, hgg, _⟩
      · rw [q] at hg'; cases hg'
      · rw [hv] at hg'; cases hg'; exact row_ltT hgg
    clear hI hpre hat hkp hbx
    gi_wp2_with (gi_at_builtin; refine wpListIn_append_there _ rfl _ _ 83 rfl 0 57 i0 (.pointer none) 1 8 Tryd.underlying83 hi hz0' hz1 hz2 rfl (by decide) v s.length (ptrs s) rfl (hown.alloc _) ⟨V.heap.size, 0, none⟩ 1 1 [.pointer (some ⟨x, 0, none⟩)] rfl rfl ?_ (by simp [Value.oneCell']) (by unfold maxLen; omega) (by omega) (by simp) ?_; exact one_new _ _ _ _ rfl; intro v' w6 hown6 hgr6 hthere; obtain ⟨g6, c6, rfl⟩ := slice_of hown6 (Nat.succ_pos _); have hc6 := app_box hgr6 hcx hzx HB.out; have hf6 := app_frozen hgr6 hfx hzx HB.out; have hz6 := app_size hgr6 hzx)
    have hg1 := hgr6.size
    simp only [World.size_alloc] at hg1
    have hblk : ∀ k, k < V.heap.size → some k ≠ v.ownBlock → w6.heap[k]? = V.heap[k]? := fun k hk hn => (hgr6.block k (by simp; omega) hn).trans (Below.heap_alloc V _ k hk)
    have hvn : ∀ k, (k = W0.heap.size ∨ k = W0.heap.size + 1) → some k ≠ v.ownBlock := fun k hk q => by
      rcases HI.out.at_ k q.symm with q2 | q2 <;> omega
    have hg6 : g6 = g ∨ w.heap.size + 3 ≤ g6 := by
      rcases hthere with q | q
      · exact HI.out.at_ g6 q.symm
      · simp [Value.ownBlock] at q
        omega
    have hg6x : g6 ≠ w.heap.size := by omega
    refine ⟨(heap_setCell_other _ _ _ _ _ (by omega)).trans (hblk _ (by omega) (hvn _ (.inl rfl))), (heap_setCell_other _ _ _ _ _ (by omega)).trans (hblk _ (by omega) (hvn _ (.inr rfl))), .slice (some ⟨g6, 0, none⟩) (s.length + 1) c6, ?_⟩
    refine ⟨?_, ?_, fun g' hg' => by cases hg'; exact hg6, ?_⟩
    · exact row_set ((hblk w.heap.size hzx (fun q => (HB.out _ q.symm).2 rfl)).trans HI.out.box) 0 _
    · have h1 := own_other (w' := w6.setCell ⟨w.heap.size, 0, none⟩ (.slice (some ⟨g6, 0, none⟩) (s.length + 1) c6)) hown6 (fun g' hg' => by cases hg'; exact heap_setCell_other _ _ _ _ _ hg6x)
      have e1 : ptrs (s ++ [x]) = ptrs s ++ [.pointer (some ⟨x, 0, none⟩)] := by simp [ptrs]
      rw [e1, List.length_append]
      exact h1
    · refine KeepS.set ?_ _ (fun h => absurd h (by omega))
      have hk := HI.out.keep
      refine ⟨hgr6.os.trans hk.os, hgr6.tape.trans hk.tape, hgr6.output.trans hk.output, by have := hk.size; omega, fun b hb hn => (hblk b (by have := hk.size; omega) (fun q => ?_)).trans (hk.block b hb hn)⟩
      rcases HI.out.at_ b q.symm with q2 | q2
      · exact hn q2
      · omega
  case done =>
    intro W hI hK
    obtain ⟨v, hI⟩ := hI
    have hcx : W.cell? ⟨w.heap.size, 0, none⟩ = some v := row_at hI.box 0
    have hzx := row_ltT hI.box
    have hvs : ∃ a b c, v = .slice a b c := by
      rcases hI.own.2 with ⟨q, _⟩ | ⟨g2, cap', cur, hv, _⟩
      · exact ⟨_, _, _, q⟩
      · exact ⟨_, _, _, hv⟩
    obtain ⟨va, vl, vc, rfl⟩ := hvs
    have HI : Hid _ := hI
    clear hI
    gi_wp2
    refine ⟨by simp, .inl ⟨_, _, rfl, run_takeDeferred hK, ?_⟩⟩
    refine ⟨_, results_tmp rfl _ _ _, .slice va vl vc, rfl, ?_, ?_, fun g' hg' => (HI.out.at_ g' hg').imp id (fun q => by omega)⟩
    · have h1 := own_other (w' := W.putObj W0.heap.size (.deferred none)) HI.out.own (fun g' hg' => World.putObj_heap_other (by rcases HI.out.at_ g' hg' with q | q <;> omega))
      rw [List.length_map] at h1
      exact h1
    · have hk := HI.out.keep
      exact ⟨hk.os, hk.tape, hk.output, by simpa using hk.size, fun b hb hn => (World.putObj_heap_other (by omega)).trans (hk.block b hb hn)⟩

set_option maxRecDepth 100000 in
set_option maxHeartbeats 4000000 in
theorem listed_any (hK : KM n w m es G) (hlen : es.length ≤ 1099511627776) :
    Calls Tryd.prog 29 #[.pointer (some ⟨m, 0, none⟩)] w fun r w' => ∃ v, r = .returned v ∧ w'.ownsRow 0 57 1 v es.length (ptrs (es.map Ent.b)) ∧ Below w.heap.size w w' ∧ ∀ g, v.ownBlock = some g → w.heap.size ≤ g := by
  have hcm := hK.cell
  have zm := row_ltT hK.map
  have H : Hid (KM n w m es G) := hK
  clear hK
  go_enter Tryd.func29, Tryd.ntmps29
  go_wp2_with fail
  obtain ⟨i0, hi, hz0, hz1, hz2⟩ := infoPE_parts
  obtain ⟨w1, hrun, hown, hgr⟩ := run_make_own (P := Tryd.prog) w 0 83 57 i0 (.pointer none) 1 Tryd.underlying83 hi hz0 hz1 .i64 .i64 es.length (by rw [hz2]; omega) (by unfold maxLen; omega) (Nat.zero_le _)
  rw [hrun]
  have b1 : Below w.heap.size w w1 := ⟨hgr.os, hgr.tape, hgr.output, hgr.size, fun k hk => hgr.block k hk (fun q => by cases q)⟩
  have HA : Hid (Calls Tryd.prog 41 #[.slice (some ⟨w.heap.size, 0, none⟩) 0 es.length, .func (.func 40) #[.pointer (some ⟨m, 0, none⟩)] #[]] w1 fun r w' => ∃ v, r = .returned v ∧ w'.ownsRow 0 57 1 v es.length (ptrs (es.map Ent.b)) ∧ KeepS (fun b => b = w.heap.size) w1 w' ∧ ∀ g', v.ownBlock = some g' → g' = w.heap.size ∨ w1.heap.size ≤ g') := appendSeq_any (H.out.keep b1) hown hlen
  clear hrun hown hgr
  go_wp2_with fail
  refine HA.out.mono ?_
  rintro r w2 ⟨v, rfl, hown2, hk2, ha2⟩
  have HV : Hid (w2.ownsRow 0 57 1 v es.length (ptrs (es.map Ent.b)) ∧ KeepS (fun b => b = w.heap.size) w1 w2 ∧ ∀ g', v.ownBlock = some g' → g' = w.heap.size ∨ w1.heap.size ≤ g') := ⟨hown2, hk2, ha2⟩
  clear hown2 hk2 HA ha2
  go_wp2_with fail
  go_ret
  refine ⟨v, rfl, HV.out.1, b1.trans (HV.out.2.1.out b1.size (fun b hb => by omega)), fun g hg => ?_⟩
  rcases HV.out.2.2 g hg with q | q
  · omega
  · have := b1.size; omega
end Go.Proofs.YtflonmlnedkmjaaDoor
namespace Go.Proofs.YtflonmlnedkmjaaDoor
open Go.RowKit Go.Shelf
attribute [local go_sem] Oper.semAt_some
/-- Rows of pointers to entries, and of pairs, are as they were. -/
def KeepT (W W' : World) : Prop := ∀ (b : Nat) (c : Array Value) (t : TypeId), (t = 57 ∨ t = 60) → W.heap[b]? = some (.cells c t (0, 0)) → W'.heap[b]? = W.heap[b]?
/-- The entry at its turn is there; Okd: what is known of its data. -/
def LiveAt (n : Nat) (Okd : MD → MD → Prop) (b : Nat) (W : World) : Prop := ∃ kb vb k v h nx bf bh, EntAt W b (.pointer (some ⟨kb, 0, none⟩)) (.pointer (some ⟨vb, 0, none⟩)) h nx bf bh false ∧ Box W n kb k ∧ Box W n vb v ∧ MD.right n k = true ∧ MD.right n v = true ∧ Okd k v
/-- It was taken out, and nothing lies under its key. -/
def GoneAt (n m : Nat) (b : Nat) (W : World) : Prop := ∃ kb vp k nx bf bh es G, EntAt W b (.pointer (some ⟨kb, 0, none⟩)) vp (MD.hash n seed k) nx bf bh true ∧ Box W n kb k ∧ MD.right n k = true ∧ KM n W m es G ∧ NamesAt W ∧ ∀ e ∈ es, (MD.eqv n e.k k).1 = false
/-- What is asked of what holds between two turns. -/
structure TurnC (n m mb : Nat) (bs : List Nat) (Okd : Nat → MD → MD → Prop) (J : Nat → World → Prop) : Prop where
  stable : ∀ i A B, J i A → Below A.heap.size A B → J i B
  box : ∀ i W, J i W → W.cell? ⟨mb, 0, none⟩ = some (.pointer (some ⟨m, 0, none⟩)) ∧ mb < W.heap.size
  cases : ∀ (i : Nat) (hi : i < bs.length) W, J i W → LiveAt n (Okd i) bs[i] W ∨ GoneAt n m bs[i] W
  gone : ∀ (i : Nat) (hi : i < bs.length) W, J i W → GoneAt n m bs[i] W → J (i + 1) W
/-- What a turn is handed. -/
def Handed (n : Nat) (Okd : Nat → MD → MD → Prop) (i : Nat) (k' v' : MD) : Prop := ∃ k v, Okd i k v ∧ MD.same n k k' = true ∧ MD.same n v v' = true
def SeqJ (F : Fence) (N : Nat) (P : Program) (g : Nat) (lb : Array Value) (n m mb : Nat) (bs : List Nat) (Okd : Nat → MD → MD → Prop) (w : World) : Prop :=
  ∀ (l : Nat) (J : Nat → World → Prop) (W : World), Below w.heap.size w W → TurnC n m mb bs Okd J →
    (∀ i W2 k' v', i < bs.length → Handed n Okd i k' v' → J i W2 → MD.In W2.heap.size W2 n k' → MD.In W2.heap.size W2 n v' → YieldAt F (N - 1) P l #[k'.val, v'.val] W2 fun e W' => e = .returned (.bool true) ∧ J (i + 1) W' ∧ KeepT W2 W') →
    J 0 W →
    CallsIn F N P g (#[.func (.yield l) #[] #[]] ++ lb) W fun e W' => (∃ v, e = .returned v) ∧ J bs.length W'
/-- How the body of a turn is left. -/
def jPost (D : Nat) (I : Nat → World → Prop) (i : Nat) (W : World) : Exit → Act → World → Prop
  | .normal, _, W' => W'.heap[D]? = W.heap[D]? ∧ W'.heap[D + 1]? = W.heap[D + 1]? ∧ I i W' ∧ KeepT W W'
  | _, _, _ => False
theorem KeepT.putObj {W : World} {l : Nat} {lp : Loop} (o : Obj) (h : W.heap[l]? = some (.loop lp)) : KeepT W (W.putObj l o) := fun b c t _ hb => World.putObj_heap_other (fun q => by subst q; rw [h] at hb; cases hb)
theorem cell_loop {W : World} {l j b : Nat} {lp : Loop} {v : Value} (h : W.heap[l]? = some (.loop lp)) (hc : W.cell? ⟨b, j, none⟩ = some v) : b ≠ l := fun q => by
  subst q
  simp [World.cell?, h] at hc
theorem In_put {B l : Nat} {W : World} {lp : Loop} {o : Obj} (h : W.heap[l]? = some (.loop lp)) : ∀ (n : Nat) (d : MD), MD.In B W n d → MD.In B (W.putObj l o) n d
  | 0, _, hh => hh
  | n + 1, d, hh => by
    obtain ⟨h1, h2, h3, h4, h5⟩ := hh
    have hk : ∀ b j v, W.cell? ⟨b, j, none⟩ = some v → (W.putObj l o).cell? ⟨b, j, none⟩ = some v := fun b j v hc => (World.cell?_of_block (a := ⟨b, j, none⟩) (World.putObj_heap_other (cell_loop h hc))).trans hc
    refine ⟨h1, ⟨h2.1, ?_⟩, h3, h4, ?_⟩
    · rcases h2.2 with e | ⟨b, f, e1, e2, e3⟩
      · exact .inl e
      · exact .inr ⟨b, f, e1, e2, fun i hi => hk _ _ _ (e3 i hi)⟩
    · rcases h5 with e | ⟨b, f, e1, e2, e3⟩
      · exact .inl e
      · refine .inr ⟨b, f, e1, e2, fun i hi => ⟨fun j hj => ?_, In_put h n _ (e3 i hi).2⟩⟩
        have hb : b ≠ l := cell_loop h ((e3 i hi).1 0 (by omega))
        exact (World.cell?_of_block (a := ⟨b, _, none⟩) (World.putObj_heap_other hb)).trans ((e3 i hi).1 j hj)
theorem In_putObj {l n : Nat} {W : World} {lp : Loop} {o : Obj} {d : MD} (h : W.heap[l]? = some (.loop lp)) (hd : MD.In W.heap.size W n d) : MD.In (W.putObj l o).heap.size (W.putObj l o) n d := by
  have : (W.putObj l o).heap.size = W.heap.size := by simp
  rw [this]
  exact In_put h n d hd
theorem KeepT.trans {A B C : World} (h : KeepT A B) (k : KeepT B C) : KeepT A C := fun b c t ht hb => (k b c t ht ((h b c t ht hb).trans hb)).trans (h b c t ht hb)
theorem KeepT.below {A B : World} (h : Below A.heap.size A B) : KeepT A B := fun b _ _ _ hb => h.block b (row_ltT hb)

variable {F : Fence} {N : Nat} {P : Program}
theorem wpIn_rangeFunc_J {g : Operand} {ps : Array Tmp} {assign body : Code} {Q : Exit → Act → World → Prop} {a : Act} {w : World}
    (hro : F.round = none) (h1 : 1 ≤ N) {gf : Nat} {lb : Array Value} (hg : a.eval g = .func (.func gf) #[] lb) (hFg : F.fn gf) (eg : ∀ args w, (callFunc gf args).run P w = .ok (.enter gf args) w)
    {n m mb : Nat} {bs : List Nat} {Okd : Nat → MD → MD → Prop} (hseq : SeqJ F (N - 1) P gf lb n m mb bs Okd w) (hps : 2 = ps.size)
    (I : Nat → World → Prop) (hC : TurnC n m mb bs Okd I) (h0 : I 0 w) (hput : ∀ i W o, w.heap.size + 1 < W.heap.size → I i W → I i (W.putObj (w.heap.size + 1) o))
    (a₁ : MD → MD → World → Act) (g₁ : MD → MD → World → World) (hg₁ : ∀ k v (W : World), Below W.heap.size W (g₁ k v W))
    (hassign : ∀ (l : Nat) (k v : MD) (W : World) (K : Act → World → Prop), K (a₁ k v W) (g₁ k v W) →
      assign.wpIn (F.inRound l) (N - 1 - 1) P (Exit.then K (fun _ _ _ => False)) { tmps := (ps.zip #[k.val, v.val]).foldl (fun t (p, v) => t.setIfInBounds p v) a.tmps, defers := [] } W)
    (hbody : ∀ (l i : Nat) (k v : MD) (W : World) (o : Obj), i < bs.length → Handed n Okd i k v → w.heap.size + 1 < W.heap.size → MD.In ((g₁ k v W).putObj (w.heap.size + 1) o).heap.size ((g₁ k v W).putObj (w.heap.size + 1) o) n k → MD.In ((g₁ k v W).putObj (w.heap.size + 1) o).heap.size ((g₁ k v W).putObj (w.heap.size + 1) o) n v → I i ((g₁ k v W).putObj (w.heap.size + 1) o) → body.wpIn (F.inRound l) (N - 1 - 1) P (jPost w.heap.size I (i + 1) ((g₁ k v W).putObj (w.heap.size + 1) o)) (a₁ k v W) ((g₁ k v W).putObj (w.heap.size + 1) o))
    (hdone : ∀ (W : World), I bs.length W → W.heap[w.heap.size]? = some (.deferred (some [])) → Q .normal { a with defers := { target := .collected w.heap.size, args := #[] } :: a.defers } W) :
    (Code.rangeFunc g ps assign body).wpIn F N P Q a w := by
  refine wpIn_rangeFunc ?_
  intro fn hfn
  rw [hro]
  obtain ⟨rec, hrec⟩ : ∃ rec : LoopState → Option Code → Loop, rec = fun st pe => { state := st, pending := pe, fn, tmps := a.tmps, params := ps, assign, body, defers := w.heap.size } := ⟨_, rfl⟩
  obtain ⟨W1, hW1⟩ : ∃ W1, (w.alloc (.deferred (some []))).alloc (.loop (rec .ready none)) = W1 := ⟨_, rfl⟩
  have hz1 : W1.heap.size = w.heap.size + 2 := by rw [← hW1]; simp
  have hL1 : W1.heap[w.heap.size + 1]? = some (.loop (rec .ready none)) := by
    rw [← hW1]; have := heap_alloc_new (w.alloc (.deferred (some []))) (.loop (rec .ready none)); rwa [World.size_alloc] at this
  have hK1 : W1.heap[w.heap.size]? = some (.deferred (some [])) := by
    rw [← hW1]; exact (Below.heap_alloc _ _ _ (by simp)).trans (heap_alloc_new w _)
  have hb1 : Below w.heap.size w W1 := by rw [← hW1]; exact below2 _ _ _
  refine ⟨w.heap.size + 1, [{ target := .collected w.heap.size, args := #[] }], W1, { target := .fn (.func gf) lb, args := #[.func (.yield (w.heap.size + 1)) #[] #[]] }, W1, gf,
    #[.func (.yield (w.heap.size + 1)) #[] #[]] ++ lb, W1, ?_, ?_, ?_, ?_, fun _ => h1, ?_⟩
  · rw [← hW1, hrec]; exact run_enterLoop_outer _ _ _ _ _
  · simp only [resolve, hg]
    simp [go_sem]
  · intro f' hf'; simp [Target.leads] at hf'; subst hf'; exact hFg
  · simp [invoke, go_sem, eg]
  · refine (hseq (w.heap.size + 1)
      (fun i W => I i W ∧ W.heap[w.heap.size + 1]? = some (.loop (rec .ready none)) ∧ W.heap[w.heap.size]? = some (.deferred (some [])))
      W1 hb1 ⟨fun i A B ⟨q1, q2, q3⟩ hb => ⟨hC.stable i A B q1 hb, (hb.block _ (Array.getElem?_eq_some_iff.1 q2).1).trans q2, (hb.block _ (Array.getElem?_eq_some_iff.1 q3).1).trans q3⟩, fun i W h => hC.box i W h.1, fun i hi W h => hC.cases i hi W h.1, fun i hi W h hgn => ⟨hC.gone i hi W h.1 hgn, h.2⟩⟩ ?_ ⟨hC.stable 0 w W1 h0 hb1, hL1, hK1⟩).mono ?_
    · rintro i W k v hi hh ⟨hi1, hl, hk⟩ hkin hvin
      have hlt : w.heap.size + 1 < W.heap.size := (Array.getElem?_eq_some_iff.1 hl).1
      have hy := run_yield (P := P) (args := #[k.val, v.val]) hl (by rw [hrec]; exact hps)
      rw [hrec] at hy
      have hgb := hg₁ k v W
      have hig := hC.stable i W _ hi1 hgb
      have hlg' := (hgb.block _ hlt).trans hl
      have hltg : w.heap.size + 1 < (g₁ k v W).heap.size := (Array.getElem?_eq_some_iff.1 hlg').1
      refine ⟨fn, _, assign, body, hy, roundIn_of_wpIn hfn (hassign _ k v W _ ⟨_, run_beginRound hlg' (by rw [hrec]), ?_⟩)⟩
      have hl2 : ((g₁ k v W).putObj (w.heap.size + 1) (.loop { rec .ready none with state := .busy })).heap[w.heap.size + 1]? = some (.loop { rec .ready none with state := .busy }) := World.putObj_heap_same hltg
      have hk2 : ((g₁ k v W).putObj (w.heap.size + 1) (.loop { rec .ready none with state := .busy })).heap[w.heap.size]? = some (.deferred (some [])) := (World.putObj_heap_other (by omega)).trans ((hgb.block _ (by omega)).trans hk)
      refine wpIn_mono (hbody _ i k v W _ hi hh hlt (In_putObj hlg' (hkin.later (Nat.le_refl _) hgb)) (In_putObj hlg' (hvin.later (Nat.le_refl _) hgb)) (hput i _ _ hltg hig)) ?_
      rintro e a3 W3 hp
      cases e with
      | normal =>
        obtain ⟨hkD, hkL, hi3, hkt⟩ := hp
        have hl3 : W3.heap[w.heap.size + 1]? = some (.loop { rec .ready none with state := .busy }) := hkL.trans hl2
        have hk4 : W3.heap[w.heap.size]? = some (.deferred (some [])) := hkD.trans hk2
        have hr := run_endRound (P := P) none hl3
        rw [hrec] at hr
        have hlt3 := (Array.getElem?_eq_some_iff.1 hl3).1
        refine ⟨_, _, hr, rfl, ⟨hput _ W3 _ hlt3 hi3, ?_, (World.putObj_heap_other (by omega)).trans hk4⟩, ?_⟩
        · rw [hrec]; exact World.putObj_heap_same hlt3
        · exact (((KeepT.below hgb).trans (KeepT.putObj _ hlg')).trans hkt).trans (KeepT.putObj _ hl3)
      | ret => exact hp.elim
      | exit id => exact hp.elim
      | goto t => exact hp.elim
      | panic ch => exact hp.elim
      | outgrown => exact hp.elim
    · rintro e W2 ⟨⟨v, rfl⟩, hi, hl, hk⟩
      exact ⟨none, _, by have := run_endLoop (P := P) hl (by rw [hrec]; simp); rw [hrec] at this; exact this, hdone _ (hput _ W2 _ (Array.getElem?_eq_some_iff.1 hl).1 hi) ((World.putObj_heap_other (by omega)).trans hk)⟩
end Go.Proofs.YtflonmlnedkmjaaDoor
namespace Go.Proofs.YtflonmlnedkmjaaDoor
open Go.RowKit Go.Shelf
attribute [local go_sem] Oper.semAt_some
variable {n : Nat} {w w' : World} {m : Nat} {es : List Ent} {G : KG}
theorem row_any {base : Nat} {t : TypeId} {v : Value} {k : Nat} {xs : List Value} (h : w.ownsRow base t 1 v k xs) : ∃ p c, v = .slice p k c ∧ k ≤ c ∧ (k = 0 ∨ ∃ g cur, p = some ⟨g, 0, none⟩ ∧ w.heap[g]? = some (.cells cur t (0, 0)) ∧ ∀ j, j < k → cur[j]? = xs[j]?) := by
  rcases h.2 with ⟨q1, q2⟩ | ⟨g, cap, cur, hv, _, hg, hn, _, _, ht⟩
  · exact ⟨none, 0, by rw [q1, q2], by omega, .inl q2⟩
  · refine ⟨_, _, hv, hn, .inr ⟨g, cur, rfl, hg, fun j hj => ?_⟩⟩
    rw [← ht, List.getElem?_take_of_lt (by omega)]
    simp
set_option maxRecDepth 100000 in
set_option maxHeartbeats 4000000 in
theorem walk1_seq (N : Nat) (hN1 : 1 ≤ N) (hK : KM n w m es G) (hlen : es.length ≤ 1099511627776) {mb : Nat} {Okd : Nat → MD → MD → Prop} (hmb : w.cell? ⟨mb, 0, none⟩ = some (.pointer (some ⟨m, 0, none⟩))) (hmz : mb < w.heap.size) :
    SeqJ Fence.wide N Tryd.prog 28 #[.pointer (some ⟨mb, 0, none⟩)] n m mb (es.map Ent.b) Okd w := by
  intro l J W hW hC hY h0
  have hcb : W.cell? ⟨mb, 0, none⟩ = some (.pointer (some ⟨m, 0, none⟩)) := (hW.cell (p := ⟨mb, 0, none⟩) hmz).trans hmb
  have hzb : mb < W.heap.size := Nat.lt_of_lt_of_le hmz hW.size
  have HL : Hid (Calls Tryd.prog 29 #[.pointer (some ⟨m, 0, none⟩)] W fun r w' => ∃ v, r = .returned v ∧ w'.ownsRow 0 57 1 v es.length (ptrs (es.map Ent.b)) ∧ Below W.heap.size W w' ∧ ∀ g, v.ownBlock = some g → W.heap.size ≤ g) := listed_any (hK.keep hW) hlen
  clear hmb hmz
  refine callsIn_of_wp Tryd.func28 rfl trivial ?_ rfl
  simp only [Tryd.ntmps28, List.size_toArray, List.length_cons, List.length_nil, Nat.reduceAdd, Nat.reduceSub, Array.replicate_succ, Array.replicate_zero, List.push_toArray, List.append_toArray, List.nil_append, List.cons_append]
  gi_wp2_with fail
  refine ⟨trivial, (callsIn_wide.2 HL.out).mono ?_⟩
  rintro r W1 ⟨v, rfl, hown, hb1, hv1⟩
  obtain ⟨p, c, rfl, hcl, hrow⟩ := row_any hown
  have HROW : Hid (es.length = 0 ∨ ∃ g cur, p = some ⟨g, 0, none⟩ ∧ W1.heap[g]? = some (.cells cur 57 (0, 0)) ∧ ∀ j, j < es.length → cur[j]? = (ptrs (es.map Ent.b))[j]?) := hrow
  have HC : Hid (TurnC n m mb (es.map Ent.b) Okd J) := hC
  have HY : Hid (∀ i W2 k' v', i < (es.map Ent.b).length → Handed n Okd i k' v' → J i W2 → MD.In W2.heap.size W2 n k' → MD.In W2.heap.size W2 n v' → YieldAt Fence.wide (N - 1) Tryd.prog l #[k'.val, v'.val] W2 fun e W' => e = .returned (.bool true) ∧ J (i + 1) W' ∧ KeepT W2 W') := hY
  have HJ0 : Hid (J 0 W1) := hC.stable 0 W W1 h0 hb1
  clear hrow hown hv1 HL hC hY h0 hb1 hW hcb hzb
  gi_wp2_with fail
  gi_loopg [9] es.length (fun gk i wr => ∃ j : Nat, gk + j = es.length ∧ i = .int .i64 j ∧ Hid (J j wr ∧ (es.length = 0 ∨ ∃ g cur, p = some ⟨g, 0, none⟩ ∧ wr.heap[g]? = some (.cells cur 57 (0, 0)) ∧ ∀ j, j < es.length → cur[j]? = (ptrs (es.map Ent.b))[j]?)))
  case atStart => exact ⟨0, by omega, rfl, HJ0.out, HROW.out⟩
  case round =>
    obtain ⟨j, hj, rfl, HR⟩ := hrel
    by_cases hlt : j < es.length
    · have i1 : (j : Int) < es.length := by omega
      obtain ⟨g, cur, rfl, hgr, hcur⟩ : ∃ g cur, p = some ⟨g, 0, none⟩ ∧ wr.heap[g]? = some (.cells cur 57 (0, 0)) ∧ ∀ j, j < es.length → cur[j]? = (ptrs (es.map Ent.b))[j]? := by
        rcases HR.out.2 with q | q
        · omega
        · exact q
      have hjm : j < (es.map Ent.b).length := by simpa using hlt
      obtain ⟨b, hb⟩ : ∃ b, b = (es.map Ent.b)[j] := ⟨_, rfl⟩
      have hcg : wr.cell? ⟨g, j, none⟩ = some (.pointer (some ⟨b, 0, none⟩)) := by
        refine (row_at hgr j).trans ((hcur j hlt).trans ?_)
        rw [hb]
        unfold ptrs
        rw [List.getElem?_map, List.getElem?_eq_getElem hjm]
        rfl
      have hzg := row_ltT hgr
      obtain ⟨hcb, hzb⟩ := HC.out.box j wr HR.out.1
      have hcases := HC.out.cases j hjm wr HR.out.1
      have hgone := HC.out.gone j hjm wr HR.out.1
      rw [← hb] at hcases hgone
      have HRG : Hid (wr.heap[g]? = some (.cells cur 57 (0, 0)) ∧ ∀ j, j < es.length → cur[j]? = (ptrs (es.map Ent.b))[j]?) := ⟨hgr, hcur⟩
      have HJ : Hid (J j wr) := HR.out.1
      have HM : Hid (gk + j = es.length ∧ j < (es.map Ent.b).length) := ⟨hj, hjm⟩
      clear hgr hcur hj hjm hb HR
      rcases hcases with ⟨kb, vb, k, v, h, nx, bf, bh, he, hkb, hvb, hrk, hrv, hok⟩ | hgn
      · have HN : Hid (Calls Tryd.prog 30 #[.pointer (some ⟨m, 0, none⟩), .pointer (some ⟨b, 0, none⟩)] wr fun r w' => r = .returned (.pointer (some ⟨b, 0, none⟩)) ∧ w' = wr) := now_live he
        have HT : Hid (Calls Tryd.prog 27 #[.agg #[.pointer (some ⟨kb, 0, none⟩), .pointer (some ⟨vb, 0, none⟩)]] wr (ToldP n k v wr)) := told_any hkb hvb hrk hrv
        have hce := he.cell
        have hze := row_ltT he
        have HO : Hid (Okd j k v) := hok
        clear hgone he hkb hvb hrk hrv hok
        gi_wp2_with fail
        refine ⟨trivial, (callsIn_wide.2 HN.out).mono ?_⟩
        rintro r w1 ⟨rfl, rfl⟩
        gi_wp2_with fail
        refine ⟨trivial, (callsIn_wide.2 HT.out).mono ?_⟩
        rintro r w2 ⟨k', v', rfl, s1, s2, in1, in2, b2⟩
        obtain ⟨fn, tmps, assign, body, hy, hRy⟩ := HY.out j w2 k' v' HM.out.2 ⟨k, v, HO.out, s1, s2⟩ (HC.out.stable _ _ _ HJ.out b2) in1 in2
        have HB2 : Hid (Below w1.heap.size w1 w2) := b2
        clear s1 s2 in1 in2 b2 hce hcg hcb HT HN
        gi_wp2_with fail
        refine hRy.mono ?_
        rintro e W3 ⟨rfl, hJ3, hk3⟩
        have HR3 : Hid (J (j + 1) W3 ∧ W3.heap[g]? = some (.cells cur 57 (0, 0))) := by
          have h1 := (HB2.out.block g hzg).trans HRG.out.1
          exact ⟨hJ3, (hk3 g cur 57 (.inl rfl) h1).trans h1⟩
        clear hy hRy hJ3 hk3
        gi_wp2_with fail
        gi_roundg (es.length - (j + 1))
        case measure => have := HM.out.1; omega
        case rel => exact ⟨j + 1, by omega, by go_num, HR3.out.1, .inr ⟨g, cur, rfl, HR3.out.2, HRG.out.2⟩⟩
      · have HG : Hid (J (j + 1) wr) := hgone hgn
        obtain ⟨kb, vp, k, nx, bf, bh, es', G', he, hkb, hrk, hkm, hnm, hno⟩ := hgn
        have HN : Hid (Calls Tryd.prog 30 #[.pointer (some ⟨m, 0, none⟩), .pointer (some ⟨b, 0, none⟩)] wr fun r w' => r = .returned (.pointer none) ∧ Below wr.heap.size wr w') := (now_gone hkm hnm hkb hrk he).mono fun r w' hq => by
          rcases hq.1 with ⟨q, _⟩ | ⟨e, he', _, q⟩
          · exact ⟨q, hq.2⟩
          · rw [hno e he'] at q; cases q
        clear hgone he hkb hrk hkm hnm hno
        gi_wp2_with fail
        refine ⟨trivial, (callsIn_wide.2 HN.out).mono ?_⟩
        rintro r w1 ⟨rfl, b1⟩
        have HR3 : Hid (J (j + 1) w1 ∧ w1.heap[g]? = some (.cells cur 57 (0, 0))) := ⟨HC.out.stable _ _ _ HG.out b1, (b1.block g hzg).trans HRG.out.1⟩
        clear b1 hcg hcb
        gi_wp2_with fail
        refine ⟨trivial, ?_⟩
        gi_wp2_with fail
        refine ⟨(fun f hf => by cases hf), ?_⟩
        gi_wp2_with fail
        gi_roundg (es.length - (j + 1))
        case measure => have := HM.out.1; omega
        case rel => exact ⟨j + 1, by omega, by go_num, HR3.out.1, .inr ⟨g, cur, rfl, HR3.out.2, HRG.out.2⟩⟩
    · have i1 : ¬ (j : Int) < es.length := by omega
      gi_wp2_with fail
      go_end0
      have : j = es.length := by have := HR.out; omega
      rw [← this]
      exact ⟨⟨_, rfl⟩, HR.out.1⟩

set_option maxRecDepth 100000 in
theorem walk_any (w : World) (m : Nat) : Calls Tryd.prog 15 #[.pointer (some ⟨m, 0, none⟩)] w fun r w' => r = .returned (.func (.func 28) #[] #[.pointer (some ⟨w.heap.size, 0, none⟩)]) ∧ w' = w.alloc (.cells #[.pointer (some ⟨m, 0, none⟩)] 24) := by
  go_enter Tryd.func15, Tryd.ntmps15
  go_wp2_with fail
  go_ret
  exact ⟨rfl, rfl⟩
end Go.Proofs.YtflonmlnedkmjaaDoor
namespace Go.Proofs.YtflonmlnedkmjaaDoor
open Go.RowKit
def nanD : MD := ⟨⟨3, ⟨#[102, 108, 111, 97, 116]⟩, 0, 9221120237041090561, ⟨#[]⟩, 0, 0, 0, 0, none, [], 0⟩, none, 0, []⟩
def listD : MD := ⟨⟨5, ⟨#[108, 105, 115, 116]⟩, 0, 0, ⟨#[]⟩, 0, 0, 0, 0, none, [], 0⟩, none, 0, []⟩
def deepD (p : Option Addr) : MD := ⟨⟨8, ⟨#[83]⟩, 0, 0, ⟨#[]⟩, 0, 0, 0, 0, none, [], 0⟩, p, 3, [wholeD 1, nanD, listD]⟩
theorem whole_right (z : Int) : MD.right 4 (wholeD z) = true := by kernel_rfl
theorem nan_right : MD.right 4 nanD = true := by kernel_rfl
theorem list_right : MD.right 4 listD = true := by kernel_rfl
theorem deep_right (p : Option Addr) : MD.right 4 (deepD p) = true := by kernel_rfl
theorem whole_eqv (a b : Int) : MD.eqv 4 (wholeD a) (wholeD b) = (decide (a = b), ⟨#[]⟩) := by
  unfold MD.eqv
  simp [wholeD]
theorem nan_eqv : MD.eqv 4 nanD nanD = (false, ⟨#[]⟩) := by rfl
theorem nan_whole (z : Int) : (MD.eqv 4 nanD (wholeD z)).1 = false := by rfl
theorem deep_eqv (p q : Option Addr) : MD.eqv 4 (deepD p) (deepD q) = (false, ⟨#[]⟩) := by rfl
theorem deep_whole (p : Option Addr) (z : Int) : (MD.eqv 4 (deepD p) (wholeD z)).1 = false := by rfl
theorem list_eqv : (MD.eqv 4 listD listD).2 = ⟨#[108, 105, 115, 116]⟩ := by rfl

theorem flat_in (B : Nat) (w : World) (h : Hd) (hf : MD.Fine h) (hp : h.path = []) : MD.In B w 4 ⟨h, none, 0, []⟩ := ⟨hf, ⟨by rw [hp]; simp, .inl hp⟩, Nat.le_refl _, Nat.zero_le _, .inl rfl⟩
theorem whole_in (B : Nat) (w : World) (z : Int) (h0 : -9223372036854775808 ≤ z) (h1 : z ≤ 9223372036854775807) : MD.In B w 4 (wholeD z) := by
  refine flat_in B w _ ⟨?_, ?_, h0, h1, ?_, ?_, ?_, ?_, ?_, ?_, ?_, ?_, ?_, ?_, ?_, ?_, ?_, ?_⟩ rfl <;> first | decide | exact Nat.le_of_ble_eq_true rfl | (simp; done)
theorem text_in (B : Nat) (w : World) (s : ByteArray) (h : s.size ≤ maxLen) : MD.In B w 4 (textD s) := by
  refine flat_in B w _ ⟨?_, ?_, ?_, ?_, ?_, ?_, ?_, ?_, ?_, ?_, ?_, ?_, ?_, ?_, ?_, h, ?_, ?_⟩ rfl <;> first | decide | exact Nat.le_of_ble_eq_true rfl | (simp; done)
theorem nan_in (B : Nat) (w : World) : MD.In B w 4 nanD := by
  refine flat_in B w _ ⟨?_, ?_, ?_, ?_, ?_, ?_, ?_, ?_, ?_, ?_, ?_, ?_, ?_, ?_, ?_, ?_, ?_, ?_⟩ rfl <;> first | decide | exact Nat.le_of_ble_eq_true rfl | (simp; done)
theorem list_in (B : Nat) (w : World) : MD.In B w 4 listD := by
  refine flat_in B w _ ⟨?_, ?_, ?_, ?_, ?_, ?_, ?_, ?_, ?_, ?_, ?_, ?_, ?_, ?_, ?_, ?_, ?_, ?_⟩ rfl <;> first | decide | exact Nat.le_of_ble_eq_true rfl | (simp; done)
theorem text_right_a : MD.right 4 (textD ⟨#[97]⟩) = true := by kernel_rfl
theorem text_right_b : MD.right 4 (textD ⟨#[98]⟩) = true := by kernel_rfl
theorem text_right_c : MD.right 4 (textD ⟨#[99]⟩) = true := by kernel_rfl
variable {n : Nat} {w w' : World} {m : Nat} {es : List Ent} {G : KG}
set_option maxRecDepth 100000 in
theorem text_val (s : ByteArray) (w : World) : Calls Tryd.prog 17 #[.string s] w fun r w' => r = .returned (textD s).val ∧ Below w.heap.size w w' := by
  simp only [textD, MD.val, D]
  go_enter Tryd.func17, Tryd.ntmps17
  go_wp2_with fail
  refine bodyPost_ret (v := .agg #[.int .i64 4, .string ⟨#[116, 101, 120, 116]⟩, .int .i64 0, .int .u64 0, .string s, .int .i64 0, .int .i64 0, .int .i64 0, .int .i64 0, .slice none 0 0, .slice none 0 0]) (by simp [results, Tryd.results17, go_sem]) rfl ⟨rfl, below1 _ _⟩
set_option maxRecDepth 100000 in
set_option maxHeartbeats 4000000 in
theorem put_fault (hN : NamesAt w) {k v : MD} (hk : MD.In w.heap.size w n k) (hv : MD.In w.heap.size w n v) (hr : MD.right n k = true) (hc : (MD.eqv n k k).2.size ≠ 0) (hrv : MD.right n v = true) :
    Calls Tryd.prog 8 #[.pointer (some ⟨m, 0, none⟩), k.val, v.val] w fun r w' => (∃ b, r = .returned (.iface 53 (.pointer (some ⟨b, 0, none⟩))) ∧ w'.heap[b]? = some (.cells #[.string ⟨#[107, 101, 121]⟩, .string (MD.eqv n k k).2] 56 (0, 0))) ∧ Below w.heap.size w w' := by
  have HR : Hid (∀ W, Below w.heap.size w W → Calls Tryd.prog 18 #[v.val] W fun r w' => r = .returned (.bool true) ∧ Below W.heap.size W w') := fun W hW => by
    have := Right_any n v W (hN.kept hW) (hv.later (Nat.le_refl _) hW)
    rw [hrv] at this
    exact this
  have HH : Hid (∀ W, Below w.heap.size w W → Calls Tryd.prog 19 #[k.val] W fun r w' => (∃ b, r = .returned (.tuple #[.int .u64 0, .iface 53 (.pointer (some ⟨b, 0, none⟩))]) ∧ w'.heap[b]? = some (.cells #[.string ⟨#[107, 101, 121]⟩, .string (MD.eqv n k k).2] 56 (0, 0))) ∧ Below W.heap.size W w') := fun W hW => Hash_fault n k W (hN.kept hW) (hk.later (Nat.le_refl _) hW) hr hc
  clear hk hr hc hv hrv
  generalize (MD.eqv n k k).2 = s at HH ⊢
  obtain ⟨⟨k0, k1, k2, k3, k4, k5, k6, k7, k8, kp, kpath, kpc⟩, kip, kic, kit⟩ := k
  obtain ⟨⟨v0, v1, v2, v3, v4, v5, v6, v7, v8, vp, vpath, vpc⟩, vip, vic, vit⟩ := v
  simp only [MD.val, D] at HR HH ⊢
  go_enter Tryd.func8, Tryd.ntmps8
  go_wp2_with fail
  refine (HR.out _ (below2 _ _ _)).mono ?_
  rintro r w1 ⟨rfl, b1⟩
  obtain ⟨hk1, hv1⟩ := two_kept _ _ _ _ b1
  have q1 : Below w.heap.size w w1 := (below2 _ _ _).trans (b1.mono (by simp; omega))
  have hz1 : w.heap.size + 1 < w1.heap.size := by have := b1.size; simp at this; omega
  clear b1 HR
  go_wp2_with fail
  refine (HH.out _ q1).mono ?_
  rintro r w2 ⟨⟨b, rfl, hb⟩, b2⟩
  have q2 : Below w.heap.size w w2 := q1.trans (b2.mono q1.size)
  have HX : Hid ((∃ b', Ending.returned (.iface 53 (.pointer (some ⟨b, 0, none⟩))) = .returned (.iface 53 (.pointer (some ⟨b', 0, none⟩))) ∧ w2.heap[b']? = some (.cells #[.string ⟨#[107, 101, 121]⟩, .string s] 56 (0, 0))) ∧ Below w.heap.size w w2) := ⟨⟨b, rfl, hb⟩, q2⟩
  clear hk1 hv1 hz1 q1 b2 HH hb q2
  go_wp2_with fail
  first
    | exact HX.out
    | (go_ret; exact HX.out)
end Go.Proofs.YtflonmlnedkmjaaDoor
namespace Go.Proofs.YtflonmlnedkmjaaDoor
open Go.RowKit
/-! The keys of raw numbers: what they are, without where they lie. -/
def nilD : MD := ⟨⟨0, ⟨#[]⟩, 0, 0, ⟨#[]⟩, 0, 0, 0, 0, none, [], 0⟩, none, 0, []⟩
def kB (n : Nat) : ByteArray := ⟨#[UInt8.ofNat n, UInt8.ofNat (n / 256)]⟩
def fltD (t : ByteArray) (n : Nat) : MD := ⟨⟨3, t, 0, (n : Int) * 1099511627776, ⟨#[]⟩, 0, 0, 0, 0, none, [], 0⟩, none, 0, []⟩
def intD (n : Int) : MD := ⟨⟨2, ⟨#[84]⟩, n, 0, ⟨#[]⟩, 0, 0, 0, 0, none, [], 0⟩, none, 0, []⟩
def ptrD (p : Option Addr) (n : Nat) : MD := ⟨⟨9, ⟨#[84]⟩, 0, 0, ⟨#[]⟩, n, 0, 0, 0, p, [((n % 30 : Nat) : Int)], 1⟩, none, 0, []⟩
def twoD (p : Option Addr) (n : Nat) : MD := ⟨⟨8, ⟨#[83]⟩, 0, 0, ⟨#[]⟩, 0, 0, 0, 0, none, [], 0⟩, p, 2, [wholeD n, nilD]⟩
def oneD (p : Option Addr) (n : Nat) : MD := ⟨⟨8, ⟨#[83]⟩, 0, 0, ⟨#[]⟩, 0, 0, 0, 0, none, [], 0⟩, p, 1, [wholeD n]⟩
def txtD (s : ByteArray) : MD := ⟨⟨4, ⟨#[85]⟩, 0, 0, s, 0, 0, 0, 0, none, [], 0⟩, none, 0, []⟩
/-- The key of a number. -/
def keyR (n : Nat) : MD :=
  if n % 9 = 0 then wholeD n
  else if n % 9 = 1 then textD (kB n)
  else if n % 9 = 2 then fltD ⟨#[102, 108, 111, 97, 116]⟩ n
  else if n % 9 = 3 then (if n < 9 then nilD else intD ((n : Int) - 3))
  else if n % 9 = 4 then ptrD none n
  else if n % 9 = 5 then twoD none n
  else if n % 9 = 6 then oneD none n
  else if n % 9 = 7 then txtD (kB n)
  else fltD ⟨#[70]⟩ n
theorem kB_inj {n m : Nat} (hn : n < 900) (hm : m < 900) : kB n = kB m ↔ n = m := by
  refine ⟨fun h => ?_, fun h => by rw [h]⟩
  unfold kB at h
  injection h with h
  have h := congrArg Array.toList h
  simp only [List.cons.injEq, and_true] at h
  obtain ⟨h1, h2⟩ := h
  have h1 := congrArg UInt8.toNat h1
  have h2 := congrArg UInt8.toNat h2
  simp only [UInt8.toNat_ofNat'] at h1 h2
  omega
theorem flt_self : ∀ n : Fin 900, feq ((n.val : Int) * 1099511627776) ((n.val : Int) * 1099511627776) = true := by decide +kernel
theorem flt_eq {n m : Nat} (hn : n < 900) (hm : m < 900) : feq ((n : Int) * 1099511627776) ((m : Int) * 1099511627776) = decide (n = m) := by
  by_cases h : n = m
  · subst h
    rw [flt_self ⟨n, hn⟩]; simp
  · rw [decide_eq_false h]
    cases hq : feq ((n : Int) * 1099511627776) ((m : Int) * 1099511627776) with
    | false => rfl
    | true =>
      have := feq_nz (by omega) (by omega) (by omega) (by omega) hq
      unfold nz at this
      rw [if_neg (by omega), if_neg (by omega)] at this
      omega
set_option maxHeartbeats 4000000 in
theorem key_eqv {n m : Nat} (hn : n < 900) (hm : m < 900) : MD.eqv 4 (keyR n) (keyR m) = (decide (n = m), ⟨#[]⟩) := by
  have hr : n % 9 = 0 ∨ n % 9 = 1 ∨ n % 9 = 2 ∨ n % 9 = 3 ∨ n % 9 = 4 ∨ n % 9 = 5 ∨ n % 9 = 6 ∨ n % 9 = 7 ∨ n % 9 = 8 := by omega
  have hs : m % 9 = 0 ∨ m % 9 = 1 ∨ m % 9 = 2 ∨ m % 9 = 3 ∨ m % 9 = 4 ∨ m % 9 = 5 ∨ m % 9 = 6 ∨ m % 9 = 7 ∨ m % 9 = 8 := by omega
  by_cases hd : n % 9 = m % 9
  · rw [← hd] at hs
    clear hs
    rcases hr with h | h | h | h | h | h | h | h | h <;> rw [h] at hd <;> simp only [keyR, h, ← hd, if_true, Nat.reduceEqDiff, if_false]
    · simp [MD.eqv, wholeD]; omega
    · simp [MD.eqv, textD, kB_inj hn hm]
    · simp [MD.eqv, fltD, flt_eq hn hm]
    · by_cases h1 : n < 9 <;> by_cases h2 : m < 9 <;> simp [h1, h2, MD.eqv, nilD, intD] <;> omega
    · by_cases h1 : n = m
      · simp [MD.eqv, ptrD, h1]
      · have h2 : ¬ (n : Int) = m := by omega
        simp [MD.eqv, ptrD, h1, h2]
    · simp [MD.eqv, allEq, twoD, wholeD, nilD]
      by_cases h1 : n = m
      · simp [h1]
      · have h2 : ¬ (n : Int) = m := by omega
        simp [h1, h2]
    · simp [MD.eqv, allEq, oneD, wholeD]
      by_cases h1 : n = m
      · simp [h1]
      · have h2 : ¬ (n : Int) = m := by omega
        simp [h1, h2]
    · simp [MD.eqv, txtD, kB_inj hn hm]
    · simp [MD.eqv, fltD, flt_eq hn hm]
  · have hne : n ≠ m := fun e => hd (by rw [e])
    rw [decide_eq_false hne]
    rcases hr with h | h | h | h | h | h | h | h | h <;> rcases hs with g | g | g | g | g | g | g | g | g <;> (first | (exact absurd (h.trans g.symm) hd) | (simp only [keyR, h, g, if_true, Nat.reduceEqDiff, if_false]; first | rfl | (split <;> rfl)))
theorem key_right0 : ∀ n : Fin 900, MD.right 4 (keyR n.val) = true := by decide +kernel
theorem key_right {n : Nat} (hn : n < 900) : MD.right 4 (keyR n) = true := key_right0 ⟨n, hn⟩
/-- What a datum that is the key of a number has. -/
theorem like_right {n : Nat} (hn : n < 900) {d : MD} (h : MD.same 4 (keyR n) d = true) : MD.right 4 d = true := by rw [← same_right 4 _ _ h]; exact key_right hn
theorem like_self {n : Nat} (hn : n < 900) {d : MD} (h : MD.same 4 (keyR n) d = true) : (MD.eqv 4 d d).2 = ⟨#[]⟩ := by rw [← same_eqv 4 _ _ _ _ h h, key_eqv hn hn]
theorem like_eqv {n m : Nat} (hn : n < 900) (hm : m < 900) {d e : MD} (h : MD.same 4 (keyR n) d = true) (h' : MD.same 4 (keyR m) e = true) : (MD.eqv 4 d e).1 = decide (n = m) := by rw [← same_eqv 4 _ _ _ _ h h', key_eqv hn hm]

/-! The map and the list of numbers. -/
/-- The entry of a number. -/
def Kof (vals : Nat → Int) (n : Nat) (e : Ent) : Prop := n < 900 ∧ MD.same 4 (keyR n) e.k = true ∧ MD.same 4 (wholeD (vals n)) e.v = true
def KMod (vals : Nat → Int) : List Nat → List Ent → Prop
  | [], [] => True
  | n :: ns, e :: es => Kof vals n e ∧ KMod vals ns es
  | _, _ => False
variable {vals vals' : Nat → Int} {ns : List Nat} {es es' A B : List Ent} {e : Ent} {n : Nat} {k v : MD}
theorem KMod.len : ∀ {ns : List Nat} {es : List Ent}, KMod vals ns es → es.length = ns.length
  | [], [], _ => rfl
  | _ :: ns, _ :: es, h => by simp [KMod.len h.2]
  | [], _ :: _, h => h.elim
  | _ :: _, [], h => h.elim
theorem KMod.snoc : ∀ {ns : List Nat} {es : List Ent}, KMod vals ns es → Kof vals n e → KMod vals (ns ++ [n]) (es ++ [e])
  | [], [], _, h => ⟨h, trivial⟩
  | _ :: _, _ :: _, h, h' => ⟨h.1, KMod.snoc h.2 h'⟩
  | [], _ :: _, h, _ => h.elim
  | _ :: _, [], h, _ => h.elim
theorem KMod.join : ∀ {ns ms : List Nat} {es fs : List Ent}, KMod vals ns es → KMod vals ms fs → KMod vals (ns ++ ms) (es ++ fs)
  | [], _, [], _, _, h => h
  | _ :: _, _, _ :: _, _, h, h' => ⟨h.1, KMod.join h.2 h'⟩
  | [], _, _ :: _, _, h, _ => h.elim
  | _ :: _, _, [], _, h, _ => h.elim
theorem KMod.parts : ∀ {ns : List Nat} {A : List Ent}, KMod vals ns (A ++ e :: B) → ∃ al n bs, ns = al ++ n :: bs ∧ KMod vals al A ∧ Kof vals n e ∧ KMod vals bs B
  | n :: ns, [], h => ⟨[], n, ns, rfl, trivial, h.1, h.2⟩
  | n :: ns, a :: A, h => by
    obtain ⟨al, m, bs, rfl, h1, h2, h3⟩ := KMod.parts h.2
    exact ⟨n :: al, m, bs, rfl, ⟨h.1, h1⟩, h2, h3⟩
  | [], [], h => h.elim
  | [], _ :: _, h => h.elim
theorem KMod.other : ∀ {ns : List Nat} {es : List Ent}, (∀ n ∈ ns, vals' n = vals n) → KMod vals ns es → KMod vals' ns es
  | [], [], _, _ => trivial
  | n :: ns, _ :: _, hv, h => ⟨⟨h.1.1, h.1.2.1, by rw [hv n (by simp)]; exact h.1.2.2⟩, KMod.other (fun m hm => hv m (by simp [hm])) h.2⟩
  | [], _ :: _, _, h => h.elim
  | _ :: _, [], _, h => h.elim
theorem KMod.mem : ∀ {ns : List Nat} {es : List Ent}, KMod vals ns es → n ∈ ns → ∃ e ∈ es, Kof vals n e
  | m :: ns, e :: es, h, hm => by
    rcases List.mem_cons.1 hm with rfl | hm
    · exact ⟨e, by simp, h.1⟩
    · obtain ⟨e', he, hk⟩ := KMod.mem h.2 hm
      exact ⟨e', by simp [he], hk⟩
  | _ :: _, [], h, _ => h.elim
theorem KMod.at : ∀ {ns : List Nat} {es : List Ent}, KMod vals ns es → ∀ (i : Nat) (h1 : i < ns.length) (h2 : i < es.length), Kof vals ns[i] es[i]
  | _ :: _, _ :: _, h, 0, _, _ => h.1
  | _ :: _, _ :: _, h, i + 1, h1, h2 => KMod.at h.2 i (by simpa using h1) (by simpa using h2)
  | [], _, _, _, h1, _ => absurd h1 (by simp)
  | _ :: _, [], h, _, _, _ => h.elim
/-- None is equal: the number is not there. -/
theorem KMod.none (h : KMod vals ns es) (hn : n < 900) (hk : MD.same 4 (keyR n) k = true) (hf : ∀ e ∈ es, (MD.eqv 4 e.k k).1 = false) : n ∉ ns := fun hm => by
  obtain ⟨e, he, h1⟩ := h.mem hm
  have := hf e he
  rw [like_eqv h1.1 hn h1.2.1 hk] at this
  simp at this
/-- One is equal: it is the number's. -/
theorem KMod.some (h : KMod vals ns (A ++ e :: B)) (hn : n < 900) (hk : MD.same 4 (keyR n) k = true) (hf : (MD.eqv 4 e.k k).1 = true) : ∃ al bs, ns = al ++ n :: bs ∧ KMod vals al A ∧ Kof vals n e ∧ KMod vals bs B := by
  obtain ⟨al, m, bs, h1, h2, h3, h4⟩ := h.parts
  rw [like_eqv h3.1 hn h3.2.1 hk] at hf
  have : m = n := of_decide_eq_true hf
  subst this
  exact ⟨al, bs, h1, h2, h3, h4⟩
/-- A value is another one. -/
def upd (vals : Nat → Int) (n : Nat) (z : Int) : Nat → Int := fun m => if m = n then z else vals m
theorem upd_self (z : Int) : upd vals n z n = z := if_pos rfl
theorem upd_other {m : Nat} (z : Int) (h : m ≠ n) : upd vals n z m = vals m := if_neg h
/-- What Put does. -/
theorem KMod.put (h : KMod vals ns es) (hd : ns.Nodup) (hn : n < 900) {z : Int} (hk : MD.same 4 (keyR n) k = true)
    (hp : (∃ A e B vb v', es = A ++ e :: B ∧ (MD.eqv 4 e.k k).1 = true ∧ MD.same 4 (wholeD z) v' = true ∧ es' = A ++ { e with vb := vb, v := v' } :: B) ∨
      ((∀ e ∈ es, (MD.eqv 4 e.k k).1 = false) ∧ ∃ e, MD.same 4 k e.k = true ∧ MD.same 4 (wholeD z) e.v = true ∧ es' = es ++ [e])) :
    KMod (upd vals n z) (if n ∈ ns then ns else ns ++ [n]) es' ∧ (if n ∈ ns then ns else ns ++ [n]).Nodup := by
  rcases hp with ⟨A, e, B, vb, v', rfl, h2, h3, rfl⟩ | ⟨h1, e, h2, h3, rfl⟩
  · obtain ⟨al, bs, rfl, g1, g2, g3⟩ := h.some hn hk h2
    rw [if_pos (by simp)]
    refine ⟨?_, hd⟩
    have hd' := List.nodup_append.1 hd
    have hd2 := List.nodup_cons.1 hd'.2.1
    have ha : n ∉ al := fun q => hd'.2.2 n q n (by simp) rfl
    have k1 : KMod (upd vals n z) al A := KMod.other (fun m hm => upd_other z fun (e : m = n) => ha (e ▸ hm)) g1
    have k2 : KMod (upd vals n z) bs B := KMod.other (fun m hm => upd_other z fun (e : m = n) => hd2.1 (e ▸ hm)) g3
    have k3 : Kof (upd vals n z) n { e with vb := vb, v := v' } := ⟨g2.1, g2.2.1, by rw [upd_self]; exact h3⟩
    exact k1.join ⟨k3, k2⟩
  · have hm := h.none hn hk h1
    rw [if_neg hm]
    have k1 : KMod (upd vals n z) ns es := KMod.other (fun m hm' => upd_other z fun (e : m = n) => hm (e ▸ hm')) h
    have k3 : Kof (upd vals n z) n e := ⟨hn, same_trans 4 _ _ _ hk h2, by rw [upd_self]; exact h3⟩
    refine ⟨k1.snoc k3, ?_⟩
    rw [List.nodup_append]
    refine ⟨hd, by simp, fun a ha b hb => ?_⟩
    rw [List.mem_singleton.1 hb]
    exact fun q => hm (q ▸ ha)
/-- What Drop does. -/
theorem KMod.drop (h : KMod vals ns (A ++ e :: B)) (hd : ns.Nodup) (hn : n < 900) (hk : MD.same 4 (keyR n) k = true) (hf : (MD.eqv 4 e.k k).1 = true) :
    n ∈ ns ∧ KMod vals (ns.filter (fun m => decide (m ≠ n))) (A ++ B) := by
  obtain ⟨al, bs, rfl, g1, g2, g3⟩ := h.some hn hk hf
  refine ⟨by simp, ?_⟩
  have hd' := List.nodup_append.1 hd
  have hd2 := List.nodup_cons.1 hd'.2.1
  have ha : n ∉ al := fun q => hd'.2.2 n q n (by simp) rfl
  rw [List.filter_append, List.filter_cons_of_neg (by simp), List.filter_eq_self.2 (fun m hm => by simp; exact fun e => ha (e ▸ hm)), List.filter_eq_self.2 (fun m hm => by simp; exact fun e => hd2.1 (e ▸ hm))]
  exact g1.join g3
theorem filter_none (h : n ∉ ns) : ns.filter (fun m => decide (m ≠ n)) = ns := List.filter_eq_self.2 fun m hm => by simp; exact fun e => h (e ▸ hm)
/-- What Get finds. -/
theorem KMod.get (h : KMod vals ns es) (hn : n < 900) (hk : MD.same 4 (keyR n) k = true) (he : e ∈ es) (hf : (MD.eqv 4 e.k k).1 = true) (hv : MD.same 4 e.v v = true) : n ∈ ns ∧ v.h.n = vals n := by
  obtain ⟨A, B, rfl⟩ := List.append_of_mem he
  obtain ⟨al, bs, rfl, g1, g2, g3⟩ := h.some hn hk hf
  exact ⟨by simp, (same_parts (same_trans 4 _ _ _ g2.2.2 hv)).2.2.1⟩
end Go.Proofs.YtflonmlnedkmjaaDoor
namespace Go.Proofs.YtflonmlnedkmjaaDoor
open Go.RowKit
/-- The key of an int against an int. -/
theorem ek {a b : Int} {k : MD} (h : MD.same 4 (wholeD a) k = true) : (MD.eqv 4 k (wholeD b)).1 = decide (a = b) := by
  rw [← same_eqv 4 (wholeD a) k (wholeD b) (wholeD b) h (same_self 4 _), whole_eqv]
theorem whole_key (z : Int) : (MD.eqv 4 (wholeD z) (wholeD z)).2 = ⟨#[]⟩ := by rw [whole_eqv]
/-- A map that is no older than a world. -/
structure St (w : World) (m : Nat) (W : World) (es : List Ent) (G : KG) : Prop where
  old : Below w.heap.size w W
  map : KM 4 W m es G
  own : ∀ b, KM.own m es G b → w.heap.size ≤ b
variable {w W W' : World} {m : Nat} {es : List Ent} {G : KG}
theorem St.later (h : St w m W es G) (hb : Below W.heap.size W W') : St w m W' es G := ⟨h.old.trans (hb.mono h.old.size), h.map.keep hb, h.own⟩
theorem St.keep (h : St w m W es G) {S : Nat → Prop} (hk : KeepS S W W') (hs : ∀ b, S b → KM.own m es G b) : Below w.heap.size w W' :=
  h.old.trans (hk.out h.old.size fun b hb hS => Nat.lt_irrefl _ (Nat.lt_of_lt_of_le hb (h.own b (hs b hS))))
/-- Data are kept. -/
def DatK (W W' : World) : Prop := ∀ (g : Nat) (c : Array Value), W.heap[g]? = some (.cells c 39 (0, 0)) → W'.heap[g]? = some (.cells c 39 (0, 0))
theorem DatK.below (h : Below W.heap.size W W') : DatK W W' := fun g _ hg => (h.block g (row_ltT hg)).trans hg
theorem putS (hN : NamesAt w) (h : St w m W es G) {k v : MD} (hk : MD.In W.heap.size W 4 k) (hv : MD.In W.heap.size W 4 v) (hr : MD.right 4 k = true) (hc : (MD.eqv 4 k k).2 = ⟨#[]⟩) (hrv : MD.right 4 v = true) (hlen : es.length < 1099511627776) :
    Calls Tryd.prog 8 #[.pointer (some ⟨m, 0, none⟩), k.val, v.val] W fun r W' => r = .returned .nilIface ∧ ∃ es' G', St w m W' es' G' ∧
      ((∃ A e B vb v', es = A ++ e :: B ∧ (MD.eqv 4 e.k k).1 = true ∧ MD.same 4 v v' = true ∧ es' = A ++ { e with vb := vb, v := v' } :: B) ∨
       ((∀ e ∈ es, (MD.eqv 4 e.k k).1 = false) ∧ ∃ e, MD.same 4 k e.k = true ∧ MD.same 4 v e.v = true ∧ es' = es ++ [e])) :=
  (put_good h.map (hN.kept h.old) hk hv hr hc hrv hlen).mono fun _ _ ⟨e, es', G', h1, h2, h3, h4⟩ => ⟨e, es', G', ⟨h.keep h3 (fun _ h => h), h1, fun b hb => (h2 b hb).elim (h.own b) fun hh => Nat.le_trans h.old.size hh⟩, h4⟩
theorem dropS (hN : NamesAt w) (h : St w m W es G) {k : MD} (hk : MD.In W.heap.size W 4 k) (hr : MD.right 4 k = true) (hc : (MD.eqv 4 k k).2 = ⟨#[]⟩) :
    Calls Tryd.prog 11 #[.pointer (some ⟨m, 0, none⟩), k.val] W fun r W' =>
      (r = .returned (.tuple #[.bool false, .nilIface]) ∧ (∀ e ∈ es, (MD.eqv 4 e.k k).1 = false) ∧ Below W.heap.size W W' ∧ St w m W' es G) ∨
      ∃ A e B, es = A ++ e :: B ∧ (MD.eqv 4 e.k k).1 = true ∧ r = .returned (.tuple #[.bool true, .nilIface]) ∧ KeepS (KM.own m es G) W W' ∧ (∃ nx bf bh, EntAt W' e.b (.pointer (some ⟨e.kb, 0, none⟩)) (.pointer (some ⟨e.vb, 0, none⟩)) e.h nx bf bh true) ∧ ∃ G', St w m W' (A ++ B) G' ∧ (∀ b, KM.own m (A ++ B) G' b → KM.own m es G b) :=
  (drop_good h.map (hN.kept h.old) hk hr hc).mono fun r W' hp => by
    rcases hp with ⟨e1, e2, e3⟩ | ⟨A, e, B, e1, e2, e3, G', e4, e5, e6, e7⟩
    · exact .inl ⟨e1, e2, e3, h.later e3⟩
    · exact .inr ⟨A, e, B, e1, e2, e3, e6, e7, G', ⟨h.keep e6 (fun _ h => h), e4, fun b hb => h.own b (e5.1 b hb)⟩, e5.1⟩
theorem getS (hN : NamesAt w) (h : St w m W es G) {k : MD} (hk : MD.In W.heap.size W 4 k) (hr : MD.right 4 k = true) (hc : (MD.eqv 4 k k).2 = ⟨#[]⟩) :
    Calls Tryd.prog 12 #[.pointer (some ⟨m, 0, none⟩), k.val] W fun r W' => DatK W W' ∧ St w m W' es G ∧
      ((r = .returned (.tuple #[.agg #[.int .i64 0, .string ⟨#[]⟩, .int .i64 0, .int .u64 0, .string ⟨#[]⟩, .int .i64 0, .int .i64 0, .int .i64 0, .int .i64 0, .slice none 0 0, .slice none 0 0], .bool false, .nilIface]) ∧ (∀ e ∈ es, (MD.eqv 4 e.k k).1 = false)) ∨
       ∃ e ∈ es, (MD.eqv 4 e.k k).1 = true ∧ ∃ d, r = .returned (.tuple #[d.val, .bool true, .nilIface]) ∧ MD.same 4 e.v d = true) :=
  (get_good h.map (hN.kept h.old) hk hr hc).mono fun r W' hp => by
    rcases hp with ⟨e1, e2, e3⟩ | ⟨e, he, e1, d, e2, e3, e4, e5⟩
    · exact ⟨.below e3, h.later e3, .inl ⟨e1, e2⟩⟩
    · exact ⟨.below e5, h.later e5, .inr ⟨e, he, e1, d, e2, e3⟩⟩
theorem wIn (W : World) (z : Int) (h0 : -9223372036854775808 ≤ z := by omega) (h1 : z ≤ 9223372036854775807 := by omega) : MD.In W.heap.size W 4 (wholeD z) := whole_in _ _ z h0 h1

/-! The steps of the first examples. -/
theorem kn_put0 (hN : NamesAt w) (h : St w m W [] G) : Calls Tryd.prog 8 #[.pointer (some ⟨m, 0, none⟩), (wholeD 1).val, (textD ⟨#[97]⟩).val] W fun r W' => r = .returned .nilIface ∧ ∃ e1 G', St w m W' [e1] G' ∧ MD.same 4 (wholeD 1) e1.k = true :=
  (putS hN h (wIn W 1) (text_in _ _ _ (by decide)) (whole_right 1) (whole_key 1) text_right_a (by decide)).mono fun r W' ⟨e, es', G', h1, h2⟩ => ⟨e, by
    rcases h2 with ⟨A, _, _, _, _, h3, _⟩ | ⟨_, e1, h3, h4, rfl⟩
    · cases A <;> simp at h3
    · exact ⟨e1, G', h1, h3⟩⟩
theorem kn_put1 (hN : NamesAt w) {e1 : Ent} (h : St w m W [e1] G) (hs : MD.same 4 (wholeD 1) e1.k = true) : Calls Tryd.prog 8 #[.pointer (some ⟨m, 0, none⟩), (wholeD 2).val, (textD ⟨#[98]⟩).val] W fun r W' => r = .returned .nilIface ∧ ∃ e2 G', St w m W' [e1, e2] G' ∧ MD.same 4 (wholeD 2) e2.k = true :=
  (putS hN h (wIn W 2) (text_in _ _ _ (by decide)) (whole_right 2) (whole_key 2) text_right_b (by simp)).mono fun r W' ⟨e, es', G', h1, h2⟩ => ⟨e, by
    rcases h2 with ⟨A, e', B, _, _, h3, h4, _⟩ | ⟨_, e2, h3, h4, rfl⟩
    · have : e' ∈ [e1] := by rw [h3]; simp
      obtain rfl := List.mem_singleton.1 this
      rw [ek hs] at h4
      exact absurd h4 (by decide)
    · exact ⟨e2, G', h1, h3⟩⟩
theorem kn_put2 (hN : NamesAt w) {e1 e2 : Ent} (h : St w m W [e1, e2] G) (hs : MD.same 4 (wholeD 1) e1.k = true) (hs2 : MD.same 4 (wholeD 2) e2.k = true) : Calls Tryd.prog 8 #[.pointer (some ⟨m, 0, none⟩), (wholeD 1).val, (textD ⟨#[99]⟩).val] W fun r W' => r = .returned .nilIface ∧ ∃ e1' G', St w m W' [e1', e2] G' ∧ MD.same 4 (wholeD 1) e1'.k = true ∧ MD.same 4 (textD ⟨#[99]⟩) e1'.v = true :=
  (putS hN h (wIn W 1) (text_in _ _ _ (by decide)) (whole_right 1) (whole_key 1) text_right_c (by simp)).mono fun r W' ⟨e, es', G', h1, h2⟩ => ⟨e, by
    rcases h2 with ⟨A, e', B, vb, v', h3, h4, h5, rfl⟩ | ⟨h3, _⟩
    · match A, h3 with
      | [], h3 =>
        simp only [List.nil_append, List.cons.injEq] at h3
        obtain ⟨rfl, rfl⟩ := h3
        exact ⟨_, G', h1, hs, h5⟩
      | [_], h3 =>
        simp only [List.cons_append, List.nil_append, List.cons.injEq] at h3
        obtain ⟨rfl, rfl, rfl⟩ := h3
        rw [ek hs2] at h4
        exact absurd h4 (by decide)
      | _ :: _ :: A, h3 => simp at h3
    · have := h3 e1 (by simp)
      rw [ek hs] at this
      exact absurd this (by decide)⟩
theorem kn_get1 (hN : NamesAt w) {e1 e2 : Ent} (h : St w m W [e1, e2] G) (hs : MD.same 4 (wholeD 1) e1.k = true) (hs2 : MD.same 4 (wholeD 2) e2.k = true) (hv : MD.same 4 (textD ⟨#[99]⟩) e1.v = true) : Calls Tryd.prog 12 #[.pointer (some ⟨m, 0, none⟩), (wholeD 1).val] W fun r W' => (∃ d : MD, r = .returned (.tuple #[d.val, .bool true, .nilIface]) ∧ d.h.s = ⟨#[99]⟩) ∧ St w m W' [e1, e2] G :=
  (getS hN h (wIn W 1) (whole_right 1) (whole_key 1)).mono fun r W' ⟨_, h1, h2⟩ => ⟨by
    rcases h2 with ⟨_, h3⟩ | ⟨e, he, h3, d, h4, h5⟩
    · have := h3 e1 (by simp)
      rw [ek hs] at this
      exact absurd this (by decide)
    · simp only [List.mem_cons, List.not_mem_nil, or_false] at he
      rcases he with rfl | rfl
      · exact ⟨d, h4, (same_parts (same_trans 4 _ _ _ hv h5)).2.2.2.2.1⟩
      · rw [ek hs2] at h3
        exact absurd h3 (by decide), h1⟩
theorem kn_drop (hN : NamesAt w) {e1 e2 : Ent} (h : St w m W [e1, e2] G) (hs : MD.same 4 (wholeD 1) e1.k = true) (hs2 : MD.same 4 (wholeD 2) e2.k = true) : Calls Tryd.prog 11 #[.pointer (some ⟨m, 0, none⟩), (wholeD 2).val] W fun r W' => r = .returned (.tuple #[.bool true, .nilIface]) ∧ DatK W W' ∧ ∃ G', St w m W' [e1] G' :=
  (dropS hN h (wIn W 2) (whole_right 2) (whole_key 2)).mono fun r W' hp => by
    rcases hp with ⟨_, h3, _⟩ | ⟨A, e, B, h3, h4, h5, h7, _, G', h6, _⟩
    · have := h3 e2 (by simp)
      rw [ek hs2] at this
      exact absurd this (by decide)
    · refine ⟨h5, fun g c hg => h7.cells hg (h.map.data g c 39 (.inr rfl) hg), G', ?_⟩
      match A, h3 with
      | [], h3 =>
        simp only [List.nil_append, List.cons.injEq] at h3
        obtain ⟨rfl, rfl⟩ := h3
        rw [ek hs] at h4
        exact absurd h4 (by decide)
      | [_], h3 =>
        simp only [List.cons_append, List.nil_append, List.cons.injEq] at h3
        obtain ⟨rfl, rfl, rfl⟩ := h3
        exact h6
      | _ :: _ :: A, h3 => simp at h3
theorem kn_get2 (hN : NamesAt w) {e1 : Ent} (h : St w m W [e1] G) (hs : MD.same 4 (wholeD 1) e1.k = true) : Calls Tryd.prog 12 #[.pointer (some ⟨m, 0, none⟩), (wholeD 2).val] W fun r W' => r = .returned (.tuple #[.agg #[.int .i64 0, .string ⟨#[]⟩, .int .i64 0, .int .u64 0, .string ⟨#[]⟩, .int .i64 0, .int .i64 0, .int .i64 0, .int .i64 0, .slice none 0 0, .slice none 0 0], .bool false, .nilIface]) ∧ DatK W W' ∧ St w m W' [e1] G :=
  (getS hN h (wIn W 2) (whole_right 2) (whole_key 2)).mono fun r W' ⟨h0, h1, h2⟩ => ⟨by
    rcases h2 with ⟨h3, _⟩ | ⟨e, he, h3, d, h4, h5⟩
    · exact h3
    · obtain rfl := List.mem_singleton.1 he
      rw [ek hs] at h3
      exact absurd h3 (by decide), h0, h1⟩
theorem kn_fault (hN : NamesAt w) (h : St w m W es G) : Calls Tryd.prog 8 #[.pointer (some ⟨m, 0, none⟩), listD.val, (wholeD 1).val] W fun r W' => (∃ b, r = .returned (.iface 53 (.pointer (some ⟨b, 0, none⟩))) ∧ W'.heap[b]? = some (.cells #[.string ⟨#[107, 101, 121]⟩, .string ⟨#[108, 105, 115, 116]⟩] 56 (0, 0))) ∧ DatK W W' ∧ St w m W' es G :=
  (put_fault (n := 4) (hN.kept h.old) (list_in _ _) (wIn W 1) list_right (by rw [list_eqv]; decide) (whole_right 1)).mono fun r W' ⟨⟨b, h1, h2⟩, h3⟩ => ⟨⟨b, h1, by rw [list_eqv] at h2; exact h2⟩, .below h3, h.later h3⟩
theorem kn_len (h : St w m W es G) : Calls Tryd.prog 13 #[.pointer (some ⟨m, 0, none⟩)] W fun r W' => r = .returned (.int .i64 es.length) ∧ W' = W := len_any h.map
theorem kn_new (w W : World) (hW : Below w.heap.size w W) : Calls Tryd.prog 6 #[] W fun r W' => ∃ m G, r = .returned (.pointer (some ⟨m, 0, none⟩)) ∧ St w m W' [] G :=
  (new_any 4 W).mono fun _ _ ⟨m, G, h1, h2, h3, h4⟩ => ⟨m, G, h1, hW.trans (h3.mono hW.size), h2, fun b hb => Nat.le_trans hW.size (h4 b hb)⟩
end Go.Proofs.YtflonmlnedkmjaaDoor
namespace Go.Proofs.YtflonmlnedkmjaaDoor
open Go.RowKit
theorem taF (v : Value) (w : World) : (Instr.typeAssert (.iface 53 v) 32 53 true).run Tryd.prog w = .ok (.tuple #[v, .bool true]) w := by kernel_rfl
set_option maxRecDepth 100000 in
set_option maxHeartbeats 4000000 in
theorem known_any (w : World) (hN : NamesAt w) : Calls Tryd.prog 5 #[] w fun r w' => r = .returned (.bool true) ∧ Below w.heap.size w w' := by
  have HN : Hid (NamesAt w) := hN
  have HNew : Hid (∀ W, Below w.heap.size w W → Calls Tryd.prog 6 #[] W fun r W' => ∃ m G, r = .returned (.pointer (some ⟨m, 0, none⟩)) ∧ St w m W' [] G) := fun W hW => kn_new w W hW
  clear hN
  go_enter Tryd.func5, Tryd.ntmps5
  go_wp2_with fail
  refine (HNew.out _ (Below.refl _ _)).mono ?_
  rintro r w1 ⟨m, G0, rfl, s0⟩
  have S0 : Hid (St w m w1 [] G0) := s0
  clear s0
  go_wp2_with fail
  refine (whole_val 1 _).mono ?_
  rintro r U1 ⟨rfl, u1⟩
  go_wp2_with fail
  refine (text_val ⟨#[97]⟩ _).mono ?_
  rintro r V1 ⟨rfl, v1⟩
  have S1' : Hid (St w m V1 _ _) := ((S0.out.later u1).later v1)
  clear u1 v1 S0
  go_wp2_with fail
  refine (kn_put0 HN.out S1'.out).mono ?_
  rintro r w2 ⟨rfl, e1, G1, s1, k1⟩
  have S1 : Hid (St w m w2 [e1] G1) := s1
  have K1 : Hid (MD.same 4 (wholeD 1) e1.k = true) := k1
  clear s1 k1 S1'
  go_wp2_with fail
  refine (whole_val 2 _).mono ?_
  rintro r U2 ⟨rfl, u2⟩
  go_wp2_with fail
  refine (text_val ⟨#[98]⟩ _).mono ?_
  rintro r V2 ⟨rfl, v2⟩
  have S2' : Hid (St w m V2 _ _) := ((S1.out.later u2).later v2)
  clear u2 v2 S1
  go_wp2_with fail
  refine (kn_put1 HN.out S2'.out K1.out).mono ?_
  rintro r w3 ⟨rfl, e2, G2, s1, k2⟩
  have S2 : Hid (St w m w3 [e1, e2] G2) := s1
  have K2 : Hid (MD.same 4 (wholeD 2) e2.k = true) := k2
  clear s1 k2 S2'
  go_wp2_with fail
  refine (whole_val 1 _).mono ?_
  rintro r U3 ⟨rfl, u3⟩
  go_wp2_with fail
  refine (text_val ⟨#[99]⟩ _).mono ?_
  rintro r V3 ⟨rfl, v3⟩
  have S3' : Hid (St w m V3 _ _) := ((S2.out.later u3).later v3)
  clear u3 v3 S2
  go_wp2_with fail
  refine (kn_put2 HN.out S3'.out K1.out K2.out).mono ?_
  rintro r w4 ⟨rfl, e3, G3, s1, k3, k4⟩
  have S3 : Hid (St w m w4 [e3, e2] G3) := s1
  have K3 : Hid (MD.same 4 (wholeD 1) e3.k = true) := k3
  have K4 : Hid (MD.same 4 (textD ⟨#[99]⟩) e3.v = true) := k4
  clear s1 k3 k4 S3' K1
  go_wp2_with fail
  refine (whole_val 1 _).mono ?_
  rintro r U4 ⟨rfl, u4⟩
  have S4' : Hid (St w m U4 _ _) := (S3.out.later u4)
  clear u4 S3
  go_wp2_with fail
  refine (kn_get1 HN.out S4'.out K3.out K2.out K4.out).mono ?_
  rintro r w5 ⟨⟨⟨⟨d0, d1, d2, d3, d4, d5, d6, d7, d8, dp, dpath, dpc⟩, dip, dic, dit⟩, rfl, hd⟩, s1⟩
  simp only at hd
  subst hd
  simp only [MD.val, D]
  have S4 : Hid (St w m w5 [e3, e2] G3) := s1
  clear s1 S4'
  go_wp2_with fail
  refine (whole_val 2 _).mono ?_
  rintro r U5 ⟨rfl, u5⟩
  have S5' : Hid (St w m U5 [e3, e2] G3) := (S4.out.later (below1 _ _)).later u5
  have B5 : Hid (∃ c, U5.heap[w5.heap.size]? = some (.cells c 39 (0, 0)) ∧ c[4]? = some (.string ⟨#[99]⟩)) := ⟨_, (u5.block w5.heap.size (by simp)).trans (heap_alloc_new _ _), rfl⟩
  clear u5 S4
  go_wp2_with fail
  refine (kn_drop HN.out S5'.out K3.out K2.out).mono ?_
  rintro r w6 ⟨rfl, dk, G4, s1⟩
  have S5 : Hid (St w m w6 [e3] G4) := s1
  have B6 : Hid (∃ c, w6.heap[w5.heap.size]? = some (.cells c 39 (0, 0)) ∧ c[4]? = some (.string ⟨#[99]⟩)) := B5.out.elim fun c h => ⟨c, dk _ _ h.1, h.2⟩
  clear s1 dk S5' B5
  go_wp2_with fail
  refine (whole_val 2 _).mono ?_
  rintro r U6 ⟨rfl, u6⟩
  have S6' : Hid (St w m U6 [e3] G4) := S5.out.later u6
  have B7 : Hid (∃ c, U6.heap[w5.heap.size]? = some (.cells c 39 (0, 0)) ∧ c[4]? = some (.string ⟨#[99]⟩)) := B6.out.elim fun c h => ⟨c, DatK.below u6 _ _ h.1, h.2⟩
  clear u6 S5 B6
  go_wp2_with fail
  refine (kn_get2 HN.out S6'.out K3.out).mono ?_
  rintro r w7 ⟨rfl, dk, s1⟩
  have S6 : Hid (St w m w7 [e3] G4) := s1
  have B8 : Hid (∃ c, w7.heap[w5.heap.size]? = some (.cells c 39 (0, 0)) ∧ c[4]? = some (.string ⟨#[99]⟩)) := B7.out.elim fun c h => ⟨c, dk _ _ h.1, h.2⟩
  clear s1 dk S6' B7
  go_wp2_with fail
  refine (whole_val 1 _).mono ?_
  rintro r U7 ⟨rfl, u7⟩
  have S7' : Hid (St w m U7 [e3] G4) := (S6.out.later (below1 _ _)).later u7
  have B9 : Hid (∃ c, U7.heap[w5.heap.size]? = some (.cells c 39 (0, 0)) ∧ c[4]? = some (.string ⟨#[99]⟩)) := B8.out.elim fun c h => ⟨c, DatK.below u7 _ _ (DatK.below (below1 _ _) _ _ h.1), h.2⟩
  clear u7 S6 B8
  go_wp2_with fail
  refine (kn_fault HN.out S7'.out).mono ?_
  rintro r w8 ⟨⟨b, rfl, hb⟩, dk, s1⟩
  have hzb := row_ltT hb
  have hcb := row_at hb
  obtain ⟨c, hc, hc4⟩ := B9.out
  have hc' := dk _ _ hc
  have hz5 := row_ltT hc'
  have hcv : w8.cell? ⟨w5.heap.size, 4, none⟩ = some (.string ⟨#[99]⟩) := (row_at hc' 4).trans hc4
  have S8 : Hid (St w m w8 [e3] G4) := s1
  clear s1 dk S7' B9 hb hc hc4 hc' c HNew K2 K3 K4
  go_wp2_with fail
  rw [taF]
  go_wp2_with fail
  refine (kn_len S8.out).mono ?_
  rintro r w9 ⟨rfl, rfl⟩
  have S9 : Hid (Below w.heap.size w w9) := S8.out.old
  clear S8
  go_wp2_with fail
  go_ret
  exact ⟨rfl, S9.out⟩
end Go.Proofs.YtflonmlnedkmjaaDoor
namespace Go.Proofs.YtflonmlnedkmjaaDoor
open Go.RowKit
/-- A datum that is not equal to itself, and to no int. -/
structure NaN (N : MD) : Prop where
  right : MD.right 4 N = true
  self : MD.eqv 4 N N = (false, ⟨#[]⟩)
  int : ∀ z, (MD.eqv 4 N (wholeD z)).1 = false
  int' : ∀ z, (MD.eqv 4 (wholeD z) N).1 = false
  kind : N.h.k ≠ 2
theorem nan_NaN : NaN nanD := ⟨nan_right, nan_eqv, nan_whole, fun _ => rfl, by decide⟩
theorem deep_NaN (p : Option Addr) : NaN (deepD p) := ⟨deep_right p, deep_eqv p p, deep_whole p, fun _ => rfl, by simp [deepD]⟩
/-- What the map holds behind the first loop: l: the numbers so far, c: how many of them were laid down under N. -/
structure KN (N : MD) (l : List Int) (es : List Ent) (c : Nat) : Prop where
  each : ∀ e ∈ es, MD.same 4 N e.k = true ∨ ∃ z ∈ l, z % 3 ≠ 0 ∧ MD.same 4 (wholeD z) e.k = true ∧ MD.same 4 (wholeD z) e.v = true
  has : ∀ z ∈ l, z % 3 ≠ 0 → ∃ e ∈ es, MD.same 4 (wholeD z) e.k = true
  count : (es.filter fun e => MD.same 4 N e.k).length = c
  len : es.length ≤ l.length
variable {N : MD} {l : List Int} {es es' : List Ent} {c : Nat}
theorem not_both (hN : NaN N) {z : Int} {k : MD} (h : MD.same 4 (wholeD z) k = true) : MD.same 4 N k = false := by
  cases h' : MD.same 4 N k with
  | false => rfl
  | true =>
    have h1 := (same_parts h).1
    have h2 := (same_parts h').1
    exact absurd (h2.symm.trans h1) hN.kind
theorem en (hN : NaN N) {k : MD} (h : MD.same 4 N k = true) : (MD.eqv 4 k N).1 = false := by
  rw [← same_eqv 4 N k N N h (same_self 4 _), hN.self]
theorem ez (hN : NaN N) {k : MD} (z : Int) (h : MD.same 4 N k = true) : (MD.eqv 4 k (wholeD z)).1 = false := by
  rw [← same_eqv 4 N k (wholeD z) (wholeD z) h (same_self 4 _), hN.int]
theorem zn (hN : NaN N) {k : MD} (z : Int) (h : MD.same 4 (wholeD z) k = true) : (MD.eqv 4 k N).1 = false := by
  rw [← same_eqv 4 (wholeD z) k N N h (same_self 4 _), hN.int']
theorem KN.nil : KN N [] [] 0 := ⟨by simp, by simp, rfl, Nat.le_refl _⟩
/-- N is not found. -/
theorem KN.never (hN : NaN N) (h : KN N l es c) : ∀ e ∈ es, (MD.eqv 4 e.k N).1 = false := fun e he => by
  rcases h.each e he with q | ⟨z, _, _, q, _⟩
  · exact en hN q
  · exact zn hN z q
/-- What is equal to an int. -/
theorem KN.at (hN : NaN N) (h : KN N l es c) {e : Ent} (he : e ∈ es) {z : Int} (hz : (MD.eqv 4 e.k (wholeD z)).1 = true) : MD.same 4 (wholeD z) e.k = true ∧ MD.same 4 (wholeD z) e.v = true := by
  rcases h.each e he with q | ⟨y, _, _, q, q2⟩
  · rw [ez hN z q] at hz; cases hz
  · rw [ek q] at hz
    have : y = z := of_decide_eq_true hz
    subst this
    exact ⟨q, q2⟩
theorem KN.putN (hN : NaN N) (h : KN N l es c) {z : Int} (hz : z % 3 = 0) {v : MD}
    (hp : (∃ A e B vb v', es = A ++ e :: B ∧ (MD.eqv 4 e.k N).1 = true ∧ MD.same 4 v v' = true ∧ es' = A ++ { e with vb := vb, v := v' } :: B) ∨
       ((∀ e ∈ es, (MD.eqv 4 e.k N).1 = false) ∧ ∃ e, MD.same 4 N e.k = true ∧ MD.same 4 v e.v = true ∧ es' = es ++ [e])) : KN N (l ++ [z]) es' (c + 1) := by
  rcases hp with ⟨A, e, B, _, _, rfl, h1, _⟩ | ⟨_, e, h1, h2, rfl⟩
  · have h2 := h.never hN e (by simp)
    rw [h1] at h2; cases h2
  · refine ⟨fun e' he' => ?_, fun y hy hy3 => ?_, ?_, ?_⟩
    · rcases List.mem_append.1 he' with q | q
      · rcases h.each e' q with q | ⟨y, hy, q⟩
        · exact .inl q
        · exact .inr ⟨y, List.mem_append_left _ hy, q⟩
      · rw [List.mem_singleton.1 q]; exact .inl h1
    · rcases List.mem_append.1 hy with q | q
      · obtain ⟨e', he', q2⟩ := h.has y q hy3
        exact ⟨e', List.mem_append_left _ he', q2⟩
      · rw [List.mem_singleton.1 q] at hy3; exact absurd hz hy3
    · rw [List.filter_append, List.length_append, h.count]
      simp [h1]
    · simp only [List.length_append, List.length_cons, List.length_nil]
      exact Nat.succ_le_succ h.len
theorem KN.putZ (hN : NaN N) (h : KN N l es c) {z : Int} (hz : z % 3 ≠ 0)
    (hp : (∃ A e B vb v', es = A ++ e :: B ∧ (MD.eqv 4 e.k (wholeD z)).1 = true ∧ MD.same 4 (wholeD z) v' = true ∧ es' = A ++ { e with vb := vb, v := v' } :: B) ∨
       ((∀ e ∈ es, (MD.eqv 4 e.k (wholeD z)).1 = false) ∧ ∃ e, MD.same 4 (wholeD z) e.k = true ∧ MD.same 4 (wholeD z) e.v = true ∧ es' = es ++ [e])) : KN N (l ++ [z]) es' c := by
  rcases hp with ⟨A, e, B, vb, v', rfl, h1, h2, rfl⟩ | ⟨_, e, h1, h2, rfl⟩
  · obtain ⟨k1, k2⟩ := h.at hN (by simp) h1
    refine ⟨fun e' he' => ?_, fun y hy hy3 => ?_, ?_, ?_⟩
    · have hc : e' = { e with vb := vb, v := v' } ∨ e' ∈ A ++ e :: B := by
        simp only [List.mem_append, List.mem_cons] at he' ⊢
        rcases he' with q | q | q
        · exact .inr (.inl q)
        · exact .inl q
        · exact .inr (.inr (.inr q))
      rcases hc with rfl | q
      · exact .inr ⟨z, by simp, hz, k1, h2⟩
      · rcases h.each e' q with q | ⟨y, hy, q⟩
        · exact .inl q
        · exact .inr ⟨y, List.mem_append_left _ hy, q⟩
    · have hc : ∃ e' ∈ A ++ e :: B, MD.same 4 (wholeD y) e'.k = true := by
        rcases List.mem_append.1 hy with q | q
        · exact h.has y q hy3
        · rw [List.mem_singleton.1 q]; exact ⟨e, by simp, k1⟩
      obtain ⟨e', he', q⟩ := hc
      simp only [List.mem_append, List.mem_cons] at he'
      rcases he' with q1 | rfl | q1
      · exact ⟨e', by simp [q1], q⟩
      · exact ⟨{ e' with vb := vb, v := v' }, by simp, q⟩
      · exact ⟨e', by simp [q1], q⟩
    · rw [← h.count]
      simp [List.filter_append, not_both hN k1]
    · have := h.len
      simp only [List.length_append, List.length_cons, List.length_nil] at this ⊢
      omega
  · refine ⟨fun e' he' => ?_, fun y hy hy3 => ?_, ?_, ?_⟩
    · rcases List.mem_append.1 he' with q | q
      · rcases h.each e' q with q | ⟨y, hy, q⟩
        · exact .inl q
        · exact .inr ⟨y, List.mem_append_left _ hy, q⟩
      · rw [List.mem_singleton.1 q]; exact .inr ⟨z, by simp, hz, h1, h2⟩
    · rcases List.mem_append.1 hy with q | q
      · obtain ⟨e', he', q2⟩ := h.has y q hy3
        exact ⟨e', List.mem_append_left _ he', q2⟩
      · rw [List.mem_singleton.1 q]; exact ⟨e, by simp, h1⟩
    · rw [List.filter_append, List.length_append, h.count]
      simp [not_both hN h1]
    · simp only [List.length_append, List.length_cons, List.length_nil]
      exact Nat.succ_le_succ h.len
set_option maxRecDepth 100000 in
theorem same16_any (x y : MD) (w : World) (hx : MD.In w.heap.size w 4 x) (hy : MD.In w.heap.size w 4 y) : Calls Tryd.prog 16 #[x.val, y.val] w fun r w' => r = .returned (.bool (MD.same 4 x y)) ∧ Below w.heap.size w w' := by
  have HS : Hid (∀ W, Below w.heap.size w W → Calls Tryd.prog 31 #[x.val, y.val] W fun r w' => r = .returned (.bool (MD.same 4 x y)) ∧ Below W.heap.size W w') := fun W hW => refSame_any 4 x y W (hx.later (Nat.le_refl _) hW) (hy.later (Nat.le_refl _) hW)
  obtain ⟨⟨k0, k1, k2, k3, k4, k5, k6, k7, k8, kp, kpath, kpc⟩, kip, kic, kit⟩ := x
  obtain ⟨⟨v0, v1, v2, v3, v4, v5, v6, v7, v8, vp, vpath, vpc⟩, vip, vic, vit⟩ := y
  generalize MD.same 4 _ _ = s at HS ⊢
  clear hx hy
  simp only [MD.val, D] at HS ⊢
  go_enter Tryd.func16, Tryd.ntmps16
  go_wp2_with fail
  refine (HS.out _ (below2 _ _ _)).mono ?_
  rintro r w1 ⟨rfl, b1⟩
  have q1 : Hid (Below w.heap.size w w1) := (below2 _ _ _).trans (b1.mono (by simp; omega))
  clear b1
  go_wp2_with fail
  go_ret
  exact ⟨rfl, q1.out⟩
end Go.Proofs.YtflonmlnedkmjaaDoor
namespace Go.Proofs.YtflonmlnedkmjaaDoor
open Go.RowKit
variable {w W W' : World} {m : Nat} {es es0 : List Ent} {G G0 : KG} {N : MD} {l : List Int} {c : Nat}
theorem pair_or {α : Type} {R : α → α → Prop} {a b : α} : ∀ {l : List α}, l.Pairwise R → a ∈ l → b ∈ l → a = b ∨ R a b ∨ R b a
  | [], _, h, _ => by cases h
  | x :: l, hp, ha, hb => by
    rw [List.pairwise_cons] at hp
    rcases List.mem_cons.1 ha with ea | ea <;> rcases List.mem_cons.1 hb with eb | eb
    · exact .inl (ea.trans eb.symm)
    · exact .inr (.inl (by rw [ea]; exact hp.1 _ eb))
    · exact .inr (.inr (by rw [eb]; exact hp.1 _ ea))
    · exact pair_or hp.2 ea eb
/-- A map, all of which lies below B, where all below B is as it was. -/
theorem KM.move {n B : Nat} (h : KM n W m es G) (ho : ∀ b, KM.own m es G b → b < B) (k : Below B W W') (hbox : ∀ e ∈ es, Box W' n e.kb e.k ∧ Box W' n e.vb e.v) : KM n W' m es G := by
  obtain ⟨cur, h1, h2, h3⟩ := h.heads
  exact ⟨(k.block m (ho _ (.inl rfl))).trans h.map, h.L1, h.Lc, h.Lm, h.capm, ⟨cur, (k.block _ (ho _ (.inr (.inl rfl)))).trans h1, h2, h3⟩, (k.block _ (ho _ (.inr (.inr (.inl rfl))))).trans h.ring, fun e he => (k.block _ (ho _ (.inr (.inr (.inr (List.mem_map.2 ⟨e, he, rfl⟩)))))).trans (h.ent e he), hbox, h.adj, h.nod, h.chain, h.fit, h.key, h.apart⟩
/-- What is no block of the map's own. -/
theorem KM.free {n : Nat} (h : KM n W m es G) {b : Nat} {cs : Array Value} {t : TypeId} (hb : W.heap[b]? = some (.cells cs t (0, 0))) (ht : t ≠ 65 ∧ t ≠ 112 ∧ t ≠ 62) : ¬ KM.own m es G b := fun ho => by
  obtain ⟨c, t', h1, h2⟩ := h.tag ho
  rw [hb] at h1
  cases h1
  rcases h2 with q | q | q
  · exact ht.1 q
  · exact ht.2.1 q
  · exact ht.2.2 q
theorem KM.ownLt {n : Nat} (h : KM n W m es G) {b : Nat} (ho : KM.own m es G b) : b < W.heap.size := by
  obtain ⟨c, t', h1, _⟩ := h.tag ho
  exact row_ltT h1
/-- It was taken out. -/
def Dead (W : World) (e : Ent) : Prop := ∃ nx bf bh, EntAt W e.b (.pointer (some ⟨e.kb, 0, none⟩)) (.pointer (some ⟨e.vb, 0, none⟩)) e.h nx bf bh true
/-- A map in the midst of a walk that began at w, where its entries were es0; all entries but those under N may have gone since. -/
structure Wk (w : World) (m : Nat) (N : MD) (es0 : List Ent) (G0 : KG) (W : World) (es : List Ent) (G : KG) : Prop where
  keep : KeepS (KM.own m es0 G0) w W
  map : KM 4 W m es G
  own : ∀ b, KM.own m es G b → KM.own m es0 G0 b
  nan : (es.filter fun e => MD.same 4 N e.k) = es0.filter fun e => MD.same 4 N e.k
  sub : ∀ e ∈ es, e ∈ es0
  rest : ∀ e ∈ es0, e ∈ es ∨ Dead W e
  tag : ∀ b, KM.own m es0 G0 b → ∃ c t, W.heap[b]? = some (.cells c t (0, 0)) ∧ (t = 65 ∨ t = 112 ∨ t = 62)
theorem Wk.box (h0 : KM 4 w m es0 G0) (h : KeepS (KM.own m es0 G0) w W) {e : Ent} (he : e ∈ es0) : Box W 4 e.kb e.k ∧ Box W 4 e.vb e.v :=
  ⟨(h0.box e he).1.keep h h0.data, (h0.box e he).2.keep h h0.data⟩
theorem Wk.below (h0 : KM 4 w m es0 G0) (h : Wk w m N es0 G0 W es G) (k : Below w.heap.size W W') : Wk w m N es0 G0 W' es G := by
  have hk : KeepS (KM.own m es0 G0) w W' := ⟨k.os.trans h.keep.os, k.tape.trans h.keep.tape, k.output.trans h.keep.output, Nat.le_trans h.keep.size k.size, fun b hb hn => (k.block b hb).trans (h.keep.block b hb hn)⟩
  refine ⟨hk, h.map.move (fun b hb => h0.ownLt (h.own b hb)) k (fun e he => Wk.box h0 hk (h.sub e he)), h.own, h.nan, h.sub, fun e he => (h.rest e he).imp id fun ⟨nx, bf, bh, q⟩ => ⟨nx, bf, bh, (k.block e.b (h0.ownLt (.inr (.inr (.inr (List.mem_map.2 ⟨e, he, rfl⟩)))))).trans q⟩, fun b hb => (h.tag b hb).elim fun c ⟨t, q1, q2⟩ => ⟨c, t, (k.block b (h0.ownLt hb)).trans q1, q2⟩⟩
theorem Wk.start (h0 : KM 4 w m es0 G0) : Wk w m N es0 G0 w es0 G0 := ⟨KeepS.refl _ _, h0, fun _ h => h, rfl, fun _ h => h, fun _ h => .inl h, fun _ h => h0.tag h⟩
/-- What is dead stays so. -/
theorem Dead.kept {e : Ent} (h : KM 4 W m es G) (hd : Dead W e) (k : KeepS (KM.own m es G) W W') : Dead W' e := by
  obtain ⟨nx, bf, bh, q⟩ := hd
  refine ⟨nx, bf, bh, k.cells q fun ho => ?_⟩
  rcases ho with ho | ho | ho | ho
  · rw [ho] at q; have := q.symm.trans h.map; cases this
  · obtain ⟨cur, h1, _⟩ := h.heads
    rw [ho] at q; have := q.symm.trans h1; cases this
  · rw [ho] at q; have := q.symm.trans h.ring; cases this
  · obtain ⟨e', he', ho⟩ := List.mem_map.1 ho
    have := h.ent e' he'
    rw [ho] at this
    have := (q.cell 6).symm.trans (this.cell 6)
    simp at this
/-- Drop in the midst of the walk. -/
theorem Wk.drop (hw : NamesAt w) (hm0 : KM.own m es0 G0 0 → False) (hNaN : NaN N) (hKN : KN N l es0 c) (h : Wk w m N es0 G0 W es G) (z : Int) (z0 : -9223372036854775808 ≤ z) (z1 : z ≤ 9223372036854775807) :
    Calls Tryd.prog 11 #[.pointer (some ⟨m, 0, none⟩), (wholeD z).val] W fun r W' => (∃ b, r = .returned (.tuple #[.bool b, .nilIface])) ∧ ∃ es' G', Wk w m N es0 G0 W' es' G' ∧ (∀ e ∈ es', e ∈ es) ∧ (∀ e ∈ es', (MD.eqv 4 e.k (wholeD z)).1 = false) ∧ KeepS (KM.own m es0 G0) W W' := by
  have hNW : NamesAt W := ⟨fun j => (World.cell?_of_block (a := ⟨0, j, none⟩) (h.keep.block 0 hw.lt hm0)).trans (hw.cells j), Nat.lt_of_lt_of_le hw.lt h.keep.size⟩
  refine (drop_good h.map hNW (whole_in _ _ z z0 z1) (whole_right z) (whole_key z)).mono fun r W' hp => ?_
  rcases hp with ⟨e1, e2, e3⟩ | ⟨A, e, B, e1, e2, e3, G', e4, e5, e6, e7⟩
  · have hk : KeepS (KM.own m es0 G0) W W' := Below.keepS _ e3
    exact ⟨⟨_, e1⟩, es, G, ⟨h.keep.trans hk, h.map.keep e3, h.own, h.nan, h.sub, fun e he => (h.rest e he).imp id fun q => q.kept h.map (Below.keepS _ e3), fun b hb => (h.tag b hb).elim fun c ⟨t, q1, q2⟩ => ⟨c, t, (e3.block b (row_ltT q1)).trans q1, q2⟩⟩, fun _ h => h, e2, hk⟩
  · have hk : KeepS (KM.own m es0 G0) W W' := e6.mono fun b _ hb => h.own b hb
    have he0 : e ∈ es0 := h.sub e (by rw [e1]; simp)
    have hez := (hKN.at hNaN he0 e2).1
    have hsub : ∀ e' ∈ A ++ B, e' ∈ es := fun e' he' => by
      rw [e1]
      simp only [List.mem_append, List.mem_cons] at he' ⊢
      exact he'.imp id .inr
    refine ⟨⟨_, e3⟩, A ++ B, G', ⟨h.keep.trans hk, e4, fun b hb => h.own b (e5.1 b hb), ?_, fun e' he' => h.sub e' (hsub e' he'), fun e' he' => ?_, fun b hb => ?tag⟩, hsub, fun e' he' => ?_, hk⟩
    case tag =>
      by_cases ho : KM.own m es G b
      · rcases e5.2 b ho with q | q
        · exact e4.tag q
        · obtain ⟨nx, bf, bh, q2⟩ := e7
          rw [q]
          exact ⟨_, _, q2, .inr (.inr rfl)⟩
      · obtain ⟨c, t, q1, q2⟩ := h.tag b hb
        exact ⟨c, t, e6.cells q1 ho, q2⟩
    · rw [← h.nan, e1, List.filter_append, List.filter_append, List.filter_cons, not_both hNaN hez]
      rfl
    · rcases h.rest e' he' with q | q
      · rw [e1] at q
        simp only [List.mem_append, List.mem_cons] at q ⊢
        rcases q with q | rfl | q
        · exact .inl (.inl q)
        · exact .inr e7
        · exact .inl (.inr q)
      · exact .inr (q.kept h.map e6)
    · cases hq : (MD.eqv 4 e'.k (wholeD z)).1 with
      | false => rfl
      | true =>
        have hez' := (hKN.at hNaN (h.sub e' (hsub e' he')) hq).1
        have hap := h.map.apart
        rw [e1, List.pairwise_append, List.pairwise_cons] at hap
        simp only [List.mem_append] at he'
        have k1 : ∀ {a b : MD}, MD.same 4 (wholeD z) a = true → MD.same 4 (wholeD z) b = true → (MD.eqv 4 a b).1 = true := fun ha hb => by
          rw [← same_eqv 4 (wholeD z) _ (wholeD z) _ ha hb, whole_eqv]
          exact decide_eq_true rfl
        rcases he' with q | q
        · have := hap.2.2 e' q e (by simp)
          rw [k1 hez' hez] at this; cases this
        · have := hap.2.1.1 e' q
          rw [k1 hez hez'] at this; cases this
end Go.Proofs.YtflonmlnedkmjaaDoor
namespace Go.Proofs.YtflonmlnedkmjaaDoor
open Go.RowKit
/-- No row of a datum lies in block g. -/
def MD.Off (g : Nat) : Nat → MD → Prop
  | 0, _ => True
  | n + 1, d => (d.h.path = [] ∨ ∀ b o, d.h.pp = some ⟨b, o, none⟩ → b ≠ g) ∧ (d.items = [] ∨ ∀ b o, d.ip = some ⟨b, o, none⟩ → b ≠ g) ∧ ∀ x ∈ d.items, MD.Off g n x
theorem MD.Off.above {g lo : Nat} (hg : g < lo) : ∀ (n : Nat) (d : MD), MD.Above lo n d → MD.Off g n d
  | 0, _, _ => trivial
  | n + 1, _, ⟨a, b, c⟩ => ⟨.inr fun x o e q => by have := a x o e; omega, .inr fun x o e q => by have := b x o e; omega, fun x hx => MD.Off.above hg n x (c x hx)⟩
theorem MD.Off.inn {g B : Nat} {w : World} (hg : B ≤ g) : ∀ (n : Nat) (d : MD), MD.In B w n d → MD.Off g n d
  | 0, _, _ => trivial
  | n + 1, d, ⟨_, h2, _, _, h5⟩ => by
    refine ⟨?_, ?_, fun x hx => ?_⟩
    · rcases h2.2 with e | ⟨b, o, e1, e2, _⟩
      · exact .inl e
      · exact .inr fun b' o' e q => by
          rw [e1] at e
          have e := Option.some.inj e
          injection e with q1 q2
          omega
    · rcases h5 with e | ⟨b, o, e1, e2, _⟩
      · exact .inl e
      · exact .inr fun b' o' e q => by
          rw [e1] at e
          have e := Option.some.inj e
          injection e with q1 q2
          omega
    · rcases h5 with e | ⟨b, o, e1, e2, e3⟩
      · rw [e] at hx; cases hx
      · obtain ⟨i, hi, rfl⟩ := List.getElem_of_mem hx
        exact MD.Off.inn hg n _ (e3 i hi).2
theorem MD.In.off {g : Nat} {w w' : World} (hs : w.heap.size ≤ w'.heap.size) (h : ∀ b, b < w.heap.size → b ≠ g → w'.heap[b]? = w.heap[b]?) : ∀ (n : Nat) (d : MD), MD.Off g n d → MD.In w.heap.size w n d → MD.In w'.heap.size w' n d
  | 0, _, _, hh => hh
  | n + 1, d, ⟨p, q, r⟩, ⟨i1, i2, i3, i4, i5⟩ => by
    have hk : ∀ b o v, b < w.heap.size → b ≠ g → w.cell? ⟨b, o, none⟩ = v → w'.cell? ⟨b, o, none⟩ = v := fun b o v hz hb hv => (World.cell?_of_block (a := ⟨b, o, none⟩) (h b hz hb)).trans hv
    refine ⟨i1, ⟨i2.1, ?_⟩, i3, i4, ?_⟩
    · rcases i2.2 with e | ⟨b, o, e1, e2, e3⟩
      · exact .inl e
      · rcases p with e | p
        · exact .inl e
        · exact .inr ⟨b, o, e1, Nat.lt_of_lt_of_le e2 hs, fun i hi => hk b _ _ e2 (p b o e1) (e3 i hi)⟩
    · rcases i5 with e | ⟨b, o, e1, e2, e3⟩
      · exact .inl e
      · rcases q with e | q
        · exact .inl e
        · exact .inr ⟨b, o, e1, Nat.lt_of_lt_of_le e2 hs, fun i hi => ⟨fun j hj => hk b _ _ e2 (q b o e1) ((e3 i hi).1 j hj), MD.In.off hs h n _ (r _ (List.getElem_mem hi)) (e3 i hi).2⟩⟩
theorem Tg.off {g : Nat} {w w' : World} (h : ∀ b, b < w.heap.size → b ≠ g → w'.heap[b]? = w.heap[b]?) : ∀ (n : Nat) (d : MD), MD.Off g n d → Tg w n d → Tg w' n d
  | 0, _, _, hh => hh
  | n + 1, d, ⟨p, q, r⟩, ⟨i1, i2⟩ => by
    refine ⟨?_, ?_⟩
    · rcases i1 with e | ⟨b, o, cur, e1, e2⟩
      · exact .inl e
      · rcases p with e | p
        · exact .inl e
        · exact .inr ⟨b, o, cur, e1, (h b (row_ltT e2) (p b o e1)).trans e2⟩
    · rcases i2 with e | ⟨b, o, cur, e1, e2, e3⟩
      · exact .inl e
      · rcases q with e | q
        · exact .inl e
        · exact .inr ⟨b, o, cur, e1, (h b (row_ltT e2) (q b o e1)).trans e2, fun i hi => Tg.off h n _ (r _ (List.getElem_mem hi)) (e3 i hi)⟩
theorem Box.off {g n b : Nat} {d : MD} {w w' : World} (hs : w.heap.size ≤ w'.heap.size) (h : ∀ b, b < w.heap.size → b ≠ g → w'.heap[b]? = w.heap[b]?) (hb : b ≠ g) (ho : MD.Off g n d) (hx : Box w n b d) : Box w' n b d :=
  ⟨(h b (row_ltT hx.cells) hb).trans hx.cells, MD.In.off hs h n d ho hx.inn, Tg.off h n d ho hx.tg⟩
/-- No datum of the entries lies in block g. -/
def OffE (g : Nat) (es : List Ent) : Prop := ∀ e ∈ es, MD.Off g 4 e.k ∧ MD.Off g 4 e.v
variable {w w' o W W' : World} {m g : Nat} {es es' : List Ent} {G : KG}
theorem OffE.nil : OffE g [] := fun _ h => by cases h
/-- Another block than the map's is written. -/
theorem KM.off (h : KM 4 w m es G) (hs : w.heap.size ≤ w'.heap.size) (hh : ∀ b, b < w.heap.size → b ≠ g → w'.heap[b]? = w.heap[b]?) {cur : Array Value} {t : TypeId} (hg : w.heap[g]? = some (.cells cur t (0, 0))) (ht : t ≠ 65 ∧ t ≠ 112 ∧ t ≠ 62 ∧ t ≠ 39) (ho : OffE g es) : KM 4 w' m es G := by
  have hno : ¬ KM.own m es G g := h.free hg ⟨ht.1, ht.2.1, ht.2.2.1⟩
  have hbx : ∀ {b : Nat} {d : MD}, Box w 4 b d → b ≠ g := fun hb q => by
    have := hb.cells
    rw [q, hg] at this
    cases this
    exact ht.2.2.2 rfl
  have ne : ∀ {b : Nat}, KM.own m es G b → b ≠ g := fun hb q => hno (q ▸ hb)
  obtain ⟨cu, c1, c2, c3⟩ := h.heads
  exact ⟨(hh _ (row_ltT h.map) (ne (.inl rfl))).trans h.map, h.L1, h.Lc, h.Lm, h.capm, ⟨cu, (hh _ (row_ltT c1) (ne (.inr (.inl rfl)))).trans c1, c2, c3⟩, (hh _ (row_ltT h.ring) (ne (.inr (.inr (.inl rfl))))).trans h.ring,
    fun e he => (hh _ (row_ltT (h.ent e he)) (ne (.inr (.inr (.inr (List.mem_map_of_mem he)))))).trans (h.ent e he),
    fun e he => ⟨(h.box e he).1.off hs hh (hbx (h.box e he).1) (ho e he).1, (h.box e he).2.off hs hh (hbx (h.box e he).2) (ho e he).2⟩,
    h.adj, h.nod, h.chain, h.fit, h.key, h.apart⟩
theorem St.off (h : St o m W es G) (hs : W.heap.size ≤ W'.heap.size) (hh : ∀ b, b < W.heap.size → b ≠ g → W'.heap[b]? = W.heap[b]?) (hg : ∃ cur t, W.heap[g]? = some (.cells cur t (0, 0)) ∧ t ≠ 65 ∧ t ≠ 112 ∧ t ≠ 62 ∧ t ≠ 39) (ho : OffE g es) (hb : Below o.heap.size o W') : St o m W' es G := by
  obtain ⟨cur, t, h1, h2⟩ := hg
  exact ⟨hb, h.map.off hs hh h1 h2 ho, h.own⟩
/-- Whatever is new lies elsewhere. -/
theorem OffE.new (h : KM 4 w m es G) (hg : w.heap.size ≤ g) : OffE g es := fun e he => ⟨MD.Off.inn hg 4 _ (h.box e he).1.inn, MD.Off.inn hg 4 _ (h.box e he).2.inn⟩
theorem putS2 (hN : NamesAt o) (h : St o m W es G) {k v : MD} (hk : MD.In W.heap.size W 4 k) (hv : MD.In W.heap.size W 4 v) (hr : MD.right 4 k = true) (hc : (MD.eqv 4 k k).2 = ⟨#[]⟩) (hrv : MD.right 4 v = true) (hlen : es.length < 1099511627776) :
    Calls Tryd.prog 8 #[.pointer (some ⟨m, 0, none⟩), k.val, v.val] W fun r W' => r = .returned .nilIface ∧ ∃ es' G', St o m W' es' G' ∧ KeepS (KM.own m es G) W W' ∧ (∀ g, g < W.heap.size → OffE g es → OffE g es') ∧
      ((∃ A e B vb v', es = A ++ e :: B ∧ (MD.eqv 4 e.k k).1 = true ∧ MD.same 4 v v' = true ∧ es' = A ++ { e with vb := vb, v := v' } :: B) ∨
       ((∀ e ∈ es, (MD.eqv 4 e.k k).1 = false) ∧ ∃ e, MD.same 4 k e.k = true ∧ MD.same 4 v e.v = true ∧ es' = es ++ [e])) :=
  (put_good2 h.map (hN.kept h.old) hk hv hr hc hrv hlen).mono fun _ _ ⟨e, es', G', h1, h2, h3, h4⟩ => ⟨e, es', G', ⟨h.keep h3 (fun _ h => h), h1, fun b hb => (h2 b hb).elim (h.own b) fun hh => Nat.le_trans h.old.size hh⟩, h3, by
    rcases h4 with ⟨A, e, B, vb, v', q1, q2, q3, q4, q5⟩ | ⟨q1, e, q2, q3, q4, q5, q6⟩
    · refine ⟨fun g hg ho x hx => ?_, .inl ⟨A, e, B, vb, v', q1, q2, q3, q5⟩⟩
      rw [q5] at hx
      rcases List.mem_append.1 hx with hx | hx
      · exact ho x (by rw [q1]; simp [hx])
      · rcases List.mem_cons.1 hx with rfl | hx
        · exact ⟨(ho e (by rw [q1]; simp)).1, MD.Off.above hg 4 _ q4⟩
        · exact ho x (by rw [q1]; simp [hx])
    · refine ⟨fun g hg ho x hx => ?_, .inr ⟨q1, e, q2, q3, q6⟩⟩
      rw [q6] at hx
      rcases List.mem_append.1 hx with hx | hx
      · exact ho x hx
      · rw [List.mem_singleton.1 hx]
        exact ⟨MD.Off.above hg 4 _ q4, MD.Off.above hg 4 _ q5⟩⟩
end Go.Proofs.YtflonmlnedkmjaaDoor
namespace Go.Proofs.YtflonmlnedkmjaaDoor
open Go.RowKit
variable {o W W' : World} {m S n : Nat} {es es' : List Ent} {G : KG} {vals rv : Nat → Int} {ns : List Nat} {tn : Nat → Bool} {ov v : Value} {k : MD} {xs : List Nat}
/-- A list of numbers as cells. -/
def natV (ns : List Nat) : List Value := ns.map fun n => .int .i64 (n : Nat)
/-- The map of KeyedModel, and the rows beside it: tn: there, rv: values, ov: order. -/
structure MC (o : World) (m S : Nat) (es : List Ent) (G : KG) (vals : Nat → Int) (ns : List Nat) (tn : Nat → Bool) (rv : Nat → Int) (ov : Value) (W : World) : Prop where
  st : St o m W es G
  mod : KMod vals ns es
  nod : ns.Nodup
  off : OffE (S + 1) es
  res : W.heap[o.heap.size]? = some (.cells #[.bool false] 4 (0, 0))
  there : ∃ cur, W.heap[S]? = some (.cells cur 4 (0, 0)) ∧ ∀ i, i < 900 → cur[i]? = some (.bool (tn i))
  values : ∃ cur, W.heap[S + 1]? = some (.cells cur 3 (0, 0)) ∧ ∀ i, i < 900 → cur[i]? = some (.int .i64 (rv i))
  vbox : W.heap[S + 2]? = some (.cells #[.slice (some ⟨S + 1, 0, none⟩) 900 900] 27 (0, 0))
  obox : W.heap[S + 3]? = some (.cells #[ov] 27 (0, 0))
  base : o.heap.size < S
/-- A row of numbers of the law's own, off the map's data. -/
def RowI (S : Nat) (es : List Ent) (v : Value) (xs : List Nat) (W : World) : Prop := W.ownsRow (S + 4) 3 1 v xs.length (natV xs) ∧ ∀ g, v.ownBlock = some g → OffE g es
theorem RowI.at (h : RowI S es v xs W) {g : Nat} (hg : v.ownBlock = some g) : S + 4 ≤ g ∧ g < W.heap.size ∧ ∃ cur, W.heap[g]? = some (.cells cur 3 (0, 0)) := by
  rcases h.1.2 with ⟨q, _⟩ | ⟨g2, cap', cur, hv, hb, hgg, _⟩
  · rw [q] at hg; cases hg
  · rw [hv] at hg; cases hg; exact ⟨hb, row_ltT hgg, cur, hgg⟩
theorem RowI.keep (h : RowI S es v xs W) (hb : ∀ g, v.ownBlock = some g → W'.heap[g]? = W.heap[g]?) : RowI S es v xs W' := ⟨own_other h.1 hb, h.2⟩
theorem RowI.below (h : RowI S es v xs W) (hb : Below W.heap.size W W') : RowI S es v xs W' := h.keep fun g hg => hb.block g (h.at hg).2.1
theorem RowI.nil : RowI S es (.slice none 0 0) [] W := ⟨World.ownsRow_nil _ _ _ _, fun g hg => by cases hg⟩
theorem RowI.ents (h : RowI S es v xs W) (he : ∀ g, v.ownBlock = some g → g < W.heap.size → OffE g es → OffE g es') : RowI S es' v xs W := ⟨h.1, fun g hg => he g hg (h.at hg).2.1 (h.2 g hg)⟩
/-- What is kept, if the four blocks, the result and the map are. -/
theorem MC.of (h : MC o m S es G vals ns tn rv ov W) (hs : St o m W' es G) (hb : ∀ b, (b = o.heap.size ∨ b = S ∨ b = S + 1 ∨ b = S + 2 ∨ b = S + 3) → W'.heap[b]? = W.heap[b]?) : MC o m S es G vals ns tn rv ov W' := by
  obtain ⟨c1, t1, t2⟩ := h.there
  obtain ⟨c2, v1, v2⟩ := h.values
  exact ⟨hs, h.mod, h.nod, h.off, (hb _ (by simp)).trans h.res, ⟨c1, (hb _ (by simp)).trans t1, t2⟩, ⟨c2, (hb _ (by simp)).trans v1, v2⟩, (hb _ (by simp)).trans h.vbox, (hb _ (by simp)).trans h.obox, h.base⟩
theorem MC.lt (h : MC o m S es G vals ns tn rv ov W) : S + 3 < W.heap.size := row_ltT h.obox
theorem MC.below (h : MC o m S es G vals ns tn rv ov W) (hb : Below W.heap.size W W') : MC o m S es G vals ns tn rv ov W' :=
  h.of (h.st.later hb) fun b hh => hb.block b (by have := h.lt; have := h.base; omega)
/-- One of the law's own blocks is written. -/
theorem MC.set {g : Nat} {t : TypeId} {cur : Array Value} (h : MC o m S es G vals ns tn rv ov W) (hg : W.heap[g]? = some (.cells cur t (0, 0))) (ht : t = 3 ∧ OffE g es ∨ t = 4 ∨ t = 27) (hgo : o.heap.size ≤ g) (i : Nat) (x : Value) : St o m (W.setCell ⟨g, i, none⟩ x) es G := by
  have hb : Below o.heap.size o (W.setCell ⟨g, i, none⟩ x) := h.st.old.setCell (p := ⟨g, i, none⟩) hgo x
  rcases ht with ⟨rfl, ho⟩ | ht
  · exact h.st.off (by simp) (fun b _ hb => heap_setCell_other _ _ _ _ _ hb) ⟨cur, 3, hg, by decide, by decide, by decide, by decide⟩ ho hb
  · refine ⟨hb, h.st.map.keepS (S := fun b => b = g) ((KeepS.refl _ W).set x (fun _ => rfl)) (fun b c t' hb' ht' q => ?_), h.st.own⟩
    subst q
    rw [hg] at hb'
    cases hb'
    rcases ht with rfl | rfl <;> (rcases ht' with q | q | q | q | q <;> exact absurd q (by decide))
def updB (tn : Nat → Bool) (n : Nat) (b : Bool) : Nat → Bool := fun m => if m = n then b else tn m
theorem set_cells {cur : Array Value} {f : Nat → Value} (hc : ∀ i, i < 900 → cur[i]? = some (f i)) (hn : n < 900) (x : Value) : ∀ i, i < 900 → (cur.setIfInBounds n x)[i]? = some (if i = n then x else f i) := fun i hi => by
  have hs : n < cur.size := (Array.getElem?_eq_some_iff.1 (hc n hn)).1
  rw [Array.getElem?_setIfInBounds]
  by_cases q : n = i
  · subst q; simp [hs]
  · rw [if_neg q, if_neg (fun e => q e.symm)]
    exact hc i hi
theorem MC.setThere (h : MC o m S es G vals ns tn rv ov W) (hn : n < 900) (b : Bool) : MC o m S es G vals ns (updB tn n b) rv ov (W.setCell ⟨S, n, none⟩ (.bool b)) := by
  obtain ⟨c1, t1, t2⟩ := h.there
  obtain ⟨c2, v1, v2⟩ := h.values
  have hb := h.base
  have oth : ∀ b', b' ≠ S → (W.setCell ⟨S, n, none⟩ (.bool b)).heap[b']? = W.heap[b']? := fun b' hb' => heap_setCell_other _ _ _ _ _ hb'
  refine ⟨h.set t1 (.inr (.inl rfl)) (by omega) n _, h.mod, h.nod, h.off, (oth _ (by omega)).trans h.res, ⟨_, row_set t1 n _, fun i hi => ?_⟩, ⟨c2, (oth _ (by omega)).trans v1, v2⟩, (oth _ (by omega)).trans h.vbox, (oth _ (by omega)).trans h.obox, hb⟩
  rw [set_cells t2 hn _ i hi]
  unfold updB
  split <;> rfl
theorem MC.setVal (h : MC o m S es G vals ns tn rv ov W) (hn : n < 900) (z : Int) : MC o m S es G vals ns tn (upd rv n z) ov (W.setCell ⟨S + 1, n, none⟩ (.int .i64 z)) := by
  obtain ⟨c1, t1, t2⟩ := h.there
  obtain ⟨c2, v1, v2⟩ := h.values
  have hb := h.base
  have oth : ∀ b', b' ≠ S + 1 → (W.setCell ⟨S + 1, n, none⟩ (.int .i64 z)).heap[b']? = W.heap[b']? := fun b' hb' => heap_setCell_other _ _ _ _ _ hb'
  refine ⟨h.set v1 (.inl ⟨rfl, h.off⟩) (by omega) n _, h.mod, h.nod, h.off, (oth _ (by omega)).trans h.res, ⟨c1, (oth _ (by omega)).trans t1, t2⟩, ⟨_, row_set v1 n _, fun i hi => ?_⟩, (oth _ (by omega)).trans h.vbox, (oth _ (by omega)).trans h.obox, hb⟩
  rw [set_cells v2 hn _ i hi]
  unfold upd
  split <;> rfl
theorem MC.setOrder (h : MC o m S es G vals ns tn rv ov W) (u : Value) : MC o m S es G vals ns tn rv u (W.setCell ⟨S + 3, 0, none⟩ u) := by
  obtain ⟨c1, t1, t2⟩ := h.there
  obtain ⟨c2, v1, v2⟩ := h.values
  have hb := h.base
  have oth : ∀ b', b' ≠ S + 3 → (W.setCell ⟨S + 3, 0, none⟩ u).heap[b']? = W.heap[b']? := fun b' hb' => heap_setCell_other _ _ _ _ _ hb'
  exact ⟨h.set h.obox (.inr (.inr rfl)) (by omega) 0 _, h.mod, h.nod, h.off, (oth _ (by omega)).trans h.res, ⟨c1, (oth _ (by omega)).trans t1, t2⟩, ⟨c2, (oth _ (by omega)).trans v1, v2⟩, (oth _ (by omega)).trans h.vbox, row_set h.obox 0 _, hb⟩
/-- A row is written whose block is another one. -/
theorem RowI.set (h : RowI S es v xs W) {g i : Nat} {x : Value} (hg : g < S + 4) : RowI S es v xs (W.setCell ⟨g, i, none⟩ x) := h.keep fun b hb => heap_setCell_other _ _ _ _ _ (by have := (h.at hb).1; omega)
/-- A row has grown. -/
theorem MC.grown {u : Value} {W6 : World} (h : MC o m S es G vals ns tn rv ov W) (hr : RowI S es u xs W) (hg : W.grownBy W6 u.ownBlock) : MC o m S es G vals ns tn rv ov W6 := by
  have hb := h.base
  have hl := h.lt
  have hold : Below o.heap.size o W6 := by
    refine ⟨hg.os.trans h.st.old.os, hg.tape.trans h.st.old.tape, hg.output.trans h.st.old.output, Nat.le_trans h.st.old.size hg.size, fun b hb' => (hg.block b (by have := h.st.old.size; omega) (fun q => ?_)).trans (h.st.old.block b hb')⟩
    have := (hr.at q.symm).1
    omega
  have hst : St o m W6 es G := by
    cases hu : u.ownBlock with
    | none => exact h.st.later ⟨hg.os, hg.tape, hg.output, hg.size, fun b hb' => hg.block b hb' (by rw [hu]; simp)⟩
    | some g =>
      obtain ⟨q1, q2, cur, q3⟩ := hr.at hu
      exact h.st.off hg.size (fun b hz hne => hg.block b hz (by rw [hu]; exact fun q => hne (Option.some.inj q))) ⟨cur, 3, q3, by decide, by decide, by decide, by decide⟩ (hr.2 g hu) hold
  refine h.of hst fun b hh => hg.block b (by omega) (fun q => ?_)
  have := (hr.at q.symm).1
  omega
theorem RowI.grown {u v' : Value} {W6 : World} (hm : KM 4 W m es G) (hr : RowI S es u xs W) (hown : W6.ownsRow (S + 4) 3 1 v' (xs.length + 1) (natV xs ++ [.int .i64 (n : Nat)])) (hat : ∀ g, v'.ownBlock = some g → u.ownBlock = some g ∨ W.heap.size ≤ g) : RowI S es v' (xs ++ [n]) W6 := by
  refine ⟨?_, fun g hg => ?_⟩
  · have : natV (xs ++ [n]) = natV xs ++ [.int .i64 (n : Nat)] := by simp [natV]
    rw [this, List.length_append]
    exact hown
  · rcases hat g hg with q | q
    · exact hr.2 g q
    · exact OffE.new hm q
theorem RowI.grownO {u : Value} {ys : List Nat} {W6 : World} (hr : RowI S es v xs W) (_hu : RowI S es u ys W) (hne : ∀ g, u.ownBlock = some g → v.ownBlock ≠ some g) (hg : W.grownBy W6 u.ownBlock) : RowI S es v xs W6 :=
  hr.keep fun g hv => hg.block g (hr.at hv).2.1 (fun q => hne g q.symm hv)
/-! The calls. -/
theorem MC.put (h : MC o m S es G vals ns tn rv ov W) (ho : NamesAt o) (hr : RowI S es ov xs W) (hn : n < 900) {z : Int} (hk : MD.same 4 (keyR n) k = true) (hi : MD.In W.heap.size W 4 k) (hz : -9223372036854775808 ≤ z ∧ z ≤ 9223372036854775807) (hl : ns.length < 1099511627776) :
    Calls Tryd.prog 8 #[.pointer (some ⟨m, 0, none⟩), k.val, (wholeD z).val] W fun r W' => r = .returned .nilIface ∧ ∃ es' G', MC o m S es' G' (upd vals n z) (if n ∈ ns then ns else ns ++ [n]) tn rv ov W' ∧ RowI S es' ov xs W' :=
  (putS2 ho h.st hi (wIn W z hz.1 hz.2) (like_right hn hk) (like_self hn hk) (whole_right z) (by rw [h.mod.len]; exact hl)).mono fun r W' ⟨e, es', G', h1, h2, h3, h4⟩ => by
    have hlt := h.lt
    have hb := h.base
    have hp := h.mod.put h.nod hn hk h4
    obtain ⟨c1, t1, t2⟩ := h.there
    obtain ⟨c2, v1, v2⟩ := h.values
    have fr : ∀ {b : Nat} {cs : Array Value} {t : TypeId}, W.heap[b]? = some (.cells cs t (0, 0)) → t ≠ 65 ∧ t ≠ 112 ∧ t ≠ 62 → W'.heap[b]? = some (.cells cs t (0, 0)) := fun hb ht => h2.cells hb (h.st.map.free hb ht)
    refine ⟨e, es', G', ⟨h1, hp.1, hp.2, h3 _ (by omega) h.off, fr h.res (by decide), ⟨c1, fr t1 (by decide), t2⟩, ⟨c2, fr v1 (by decide), v2⟩, fr h.vbox (by decide), fr h.obox (by decide), hb⟩, ?_⟩
    refine (hr.ents fun g hg hz ho => h3 g hz ho).keep fun g hg => ?_
    obtain ⟨_, _, cur, q⟩ := hr.at hg
    rw [fr q (by decide), q]
theorem MC.drop (h : MC o m S es G vals ns tn rv ov W) (ho : NamesAt o) (hr : RowI S es ov xs W) (hn : n < 900) (hk : MD.same 4 (keyR n) k = true) (hi : MD.In W.heap.size W 4 k) :
    Calls Tryd.prog 11 #[.pointer (some ⟨m, 0, none⟩), k.val] W fun r W' => r = .returned (.tuple #[.bool (decide (n ∈ ns)), .nilIface]) ∧ ∃ es' G', MC o m S es' G' vals (ns.filter fun x => decide (x ≠ n)) tn rv ov W' ∧ RowI S es' ov xs W' :=
  (dropS ho h.st hi (like_right hn hk) (like_self hn hk)).mono fun r W' hp => by
    rcases hp with ⟨e1, e2, e3, e4⟩ | ⟨A, e, B, e1, e2, e3, e4, _, G', e6, _⟩
    · have hnm := h.mod.none hn hk e2
      rw [decide_eq_false hnm, filter_none hnm]
      exact ⟨e1, es, G, h.below e3, hr.below e3⟩
    · subst e1
      obtain ⟨q1, q2⟩ := h.mod.drop h.nod hn hk e2
      have hsub : ∀ {g : Nat}, OffE g (A ++ e :: B) → OffE g (A ++ B) := fun ho x hx => ho x (by
        rcases List.mem_append.1 hx with hx | hx <;> simp [hx])
      have hlt := h.lt
      have hb := h.base
      obtain ⟨c1, t1, t2⟩ := h.there
      obtain ⟨c2, v1, v2⟩ := h.values
      have fr : ∀ {b : Nat} {cs : Array Value} {t : TypeId}, W.heap[b]? = some (.cells cs t (0, 0)) → t ≠ 65 ∧ t ≠ 112 ∧ t ≠ 62 → W'.heap[b]? = some (.cells cs t (0, 0)) := fun hb ht => e4.cells hb (h.st.map.free hb ht)
      rw [decide_eq_true q1]
      refine ⟨e3, _, G', ⟨e6, q2, h.nod.filter _, hsub h.off, fr h.res (by decide), ⟨c1, fr t1 (by decide), t2⟩, ⟨c2, fr v1 (by decide), v2⟩, fr h.vbox (by decide), fr h.obox (by decide), hb⟩, ?_⟩
      refine (hr.ents fun g _ _ ho => hsub ho).keep fun g hg => ?_
      obtain ⟨_, _, cur, q⟩ := hr.at hg
      rw [fr q (by decide), q]
theorem MC.get (h : MC o m S es G vals ns tn rv ov W) (ho : NamesAt o) (hn : n < 900) (hk : MD.same 4 (keyR n) k = true) (hi : MD.In W.heap.size W 4 k) :
    Calls Tryd.prog 12 #[.pointer (some ⟨m, 0, none⟩), k.val] W fun r W' => (∃ d : MD, r = .returned (.tuple #[d.val, .bool (decide (n ∈ ns)), .nilIface]) ∧ (n ∈ ns → d.h.n = vals n) ∧ (n ∉ ns → d.h.k = 0)) ∧ Below W.heap.size W W' :=
  (get_good h.st.map (ho.kept h.st.old) hi (like_right hn hk) (like_self hn hk)).mono fun r W' hp => by
    rcases hp with ⟨e1, e2, e3⟩ | ⟨e, he, e1, d, e2, e3, e4, e5⟩
    · have hnm := h.mod.none hn hk e2
      rw [decide_eq_false hnm]
      exact ⟨⟨nilD, e1, fun q => absurd q hnm, fun _ => rfl⟩, e3⟩
    · obtain ⟨q1, q2⟩ := h.mod.get hn hk he e1 e3
      rw [decide_eq_true q1]
      exact ⟨⟨d, e2, fun _ => q2, fun q => absurd q1 q⟩, e5⟩
theorem MC.len (h : MC o m S es G vals ns tn rv ov W) : Calls Tryd.prog 13 #[.pointer (some ⟨m, 0, none⟩)] W fun r W' => r = .returned (.int .i64 ns.length) ∧ W' = W := by
  have := len_any h.st.map
  rw [h.mod.len] at this
  exact this
end Go.Proofs.YtflonmlnedkmjaaDoor
namespace Go.Proofs.YtflonmlnedkmjaaDoor
open Go.RowKit
section
variable {P : Program} {ops : Array Oper} {Q : Exit → Act → World → Prop} {md : Region.Mode}
theorem wpOp_round (l N : Nat) (hd : ∀ (i : Nat) (o : Oper), ops[i]? = some o → ∀ c, o.op ≠ .defer c) (hL : ¬ LetsOut Q) {i : Nat} {K : Act → World → Prop} {a : Act} {w : World} (h : wpOp P ops Q i K a w) :
    wpOpIn (Fence.wide.inRound l) N P ops Q i K a w := by
  unfold wpOp at h
  unfold wpOpIn
  cases ho : ops[i]? with
  | none => simp only [ho] at h ⊢; exact h
  | some o =>
    simp only [ho] at h ⊢
    split
    · rename_i hw
      simp only [hw, if_true] at h
      have h := h.resolve_right fun q => hL q.2
      refine ⟨fun _ _ => trivial, ?_⟩
      rw [Oper.semAt_eq _ _ _ (hd i o ho)]
      unfold Oper.wp at h
      generalize (execOp a.eval o).run P w = r at h ⊢
      cases r with
      | ok x w' =>
        cases x with
        | value v => exact h
        | skip => exact h
        | defer d => exact h
        | enter f args => exact ⟨fun q => (by cases q), (CallsIn.inRound l (callsIn_wide.2 h)).mono fun e w'' he => by cases e <;> exact he⟩
        | row row args => exact ⟨fun q => (by cases q), fun c cs _ => let ⟨v, w'', r, s⟩ := h c cs; ⟨v, w'', r, stepsIn_wide.2 s⟩⟩
        | _ => exact h.elim
      | halt x w' => cases x <;> exact h
    · rename_i hw
      simp only [hw] at h
      exact ⟨fun _ _ => trivial, h⟩
theorem wpAny_round (l N : Nat) (hd : ∀ (i : Nat) (o : Oper), ops[i]? = some o → ∀ c, o.op ≠ .defer c) (hL : ¬ LetsOut Q) : ∀ (fuel : Nat) (listed : Array Bool) (a : Act) (w : World), wpAny P md ops Q fuel listed a w → wpAnyIn (Fence.wide.inRound l) N P md ops Q fuel listed a w
  | 0, _, _, _, h => h
  | fuel + 1, _, _, _, h => ⟨h.1, fun i hi => wpOp_round l N hd hL (wpOp_mono (fun a' w' h' => wpAny_round l N hd hL fuel _ a' w' h') (h.2 i hi))⟩
/-- Nothing is deferred. -/
def noDef (ops : Array Oper) : Bool := ops.all fun o => match o.op with
  | .defer _ => false
  | _ => true
theorem noDef_spec (h : noDef ops = true) : ∀ (i : Nat) (o : Oper), ops[i]? = some o → ∀ c, o.op ≠ .defer c := fun i o ho c hc => by
  have h1 := Array.all_eq_true_iff_forall_mem.1 h o (Array.mem_of_getElem? ho)
  rw [hc] at h1
  cases h1
/-- A region of a turn that draws its order: walked as one of a function; it does not panic. -/
theorem wpIn_region_round {l N id : Nat} {S : World → Prop} {a : Act} {w : World} (hm : P.follows .mixedOrders = true) (hd : noDef ops = true) (hL : ¬ LetsOut Q)
    (h : wpAnyH P .any ops (NoPanic Q) S ops.size (Array.replicate ops.size false) a { w with drawn := w.drawn + 1 }) : (Code.region id ops true).wpIn (Fence.wide.inRound l) N P Q a w :=
  wpIn_mono (wpIn_region_any (Q := NoPanic Q) hm (wpAny_round (Q := NoPanic Q) l N (noDef_spec hd) (fun q => hL q) _ _ _ _ (wpAny_of_held _ _ _ _ h))) NoPanic.imp
end
end Go.Proofs.YtflonmlnedkmjaaDoor
