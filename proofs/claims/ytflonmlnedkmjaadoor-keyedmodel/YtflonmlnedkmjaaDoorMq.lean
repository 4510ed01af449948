/-
  take: an entry is taken out (what is left then).
-/
import Derived.Test.YtflonmlnedkmjaaDoorMp
namespace Go.Proofs.YtflonmlnedkmjaaDoor
open Go.RowKit
variable {n : Nat} {w w' : World} {m : Nat} {A B : List Ent} {e : Ent} {G : KG}
/-- Where the chain leads to an entry from: its head, or the one ahead. -/
def atOf (G : KG) (i : Nat) : Option Nat → Addr
  | none => ⟨G.hb, i, none⟩
  | some x => ⟨x, 3, none⟩
/-- What is left when one is taken out. -/
def KG.taken (G : KG) (b i : Nat) (xo : Option Nat) : KG :=
  { G with nx := (match xo with | none => G.nx | some x => up G.nx x (G.nx b)), hd := (match xo with | none => up G.hd i (G.nx b) | some _ => G.hd), ch := up G.ch i ((G.ch i).erase b), bf := up G.bf (G.bh b) (G.bf b), bh := up G.bh (G.bf b) (G.bh b) }
/-- How an entry hangs in its chain. -/
structure Hangs (G : KG) (b i : Nat) (xo : Option Nat) (l1 l2 : List Nat) : Prop where
  eq : G.ch i = l1 ++ b :: l2
  at_ : (xo = none ∧ l1 = []) ∨ ∃ l0 x, xo = some x ∧ l1 = l0 ++ [x]
def takenW (w : World) (m : Nat) (es : List Ent) (G : KG) (b i : Nat) (xo : Option Nat) : World :=
  ((((w.setCell (atOf G i xo) (pv (G.nx b))).setCell ⟨G.bf b, 5, none⟩ (.pointer (some ⟨G.bh b, 0, none⟩))).setCell ⟨G.bh b, 4, none⟩ (.pointer (some ⟨G.bf b, 0, none⟩))).setCell ⟨b, 6, none⟩ (.bool true)).setCell ⟨m, 2, none⟩ (.int .i64 ((es.length : Int) - 1))
theorem ring_at {bf bh : Nat → Nat} {rb b : Nat} {l1 l2 : List Nat} (h : Adj bf bh (rb :: (l1 ++ b :: l2) ++ [rb])) : ∃ p q, rb :: (l1 ++ b :: l2) ++ [rb] = p ++ bf b :: b :: bh b :: q ∧ rb :: (l1 ++ l2) ++ [rb] = p ++ bf b :: bh b :: q := by
  obtain ⟨p, x, hp⟩ : ∃ p x, rb :: l1 = p ++ [x] := by
    rcases List.eq_nil_or_concat (rb :: l1) with e | ⟨p, x, e⟩
    · cases e
    · exact ⟨p, x, by rw [e, List.concat_eq_append]⟩
  obtain ⟨y, q, hq⟩ : ∃ y q, l2 ++ [rb] = y :: q := by
    cases l2 with
    | nil => exact ⟨rb, [], rfl⟩
    | cons y r => exact ⟨y, r ++ [rb], rfl⟩
  have e1 : rb :: (l1 ++ b :: l2) ++ [rb] = p ++ x :: b :: y :: q := by
    have : rb :: (l1 ++ b :: l2) ++ [rb] = (rb :: l1) ++ b :: (l2 ++ [rb]) := by simp
    rw [this, hp, hq]; simp
  have e2 : rb :: (l1 ++ l2) ++ [rb] = p ++ x :: y :: q := by
    have : rb :: (l1 ++ l2) ++ [rb] = (rb :: l1) ++ (l2 ++ [rb]) := by simp
    rw [this, hp, hq]; simp
  rw [e1] at h
  have h2 := ((Adj.app p).1 h).2
  have hx : bf b = x := h2.2.1
  have hy : bh b = y := h2.2.2.1
  exact ⟨p, q, by rw [e1, hx, hy], by rw [e2, hx, hy]⟩
/-- What take writes. -/
def takeS (m : Nat) (es : List Ent) (G : KG) (b : Nat) : Prop := KM.own m es G b
theorem KM.nearb (h : KM n w m (A ++ e :: B) G) : G.bf e.b ∈ G.rb :: (A ++ e :: B).map Ent.b ∧ G.bh e.b ∈ G.rb :: (A ++ e :: B).map Ent.b ∧ G.bf e.b ≠ e.b ∧ G.bh e.b ≠ e.b := by
  have ha := h.adj
  have hn := ring_ends h.nod
  rw [List.map_append, List.map_cons] at ha hn ⊢
  obtain ⟨p, q, h1, h2⟩ := ring_at ha
  have hmem : ∀ z, z ∈ p ++ G.bf e.b :: e.b :: G.bh e.b :: q → z ∈ G.rb :: (A.map Ent.b ++ e.b :: B.map Ent.b) := fun z hz => by
    rw [← h1] at hz
    rcases List.mem_append.1 hz with hz | hz
    · exact hz
    · simp at hz; simp [hz]
  rw [h1] at hn
  refine ⟨hmem _ (by simp), hmem _ (by simp), fun q' => ?_, fun q' => ?_⟩
  · have h3 := hn.1
    rw [List.dropLast_append_of_ne_nil (by simp), List.nodup_append] at h3
    rw [q'] at h3
    simp at h3
  · have h3 := hn.2
    have e2 : (p ++ G.bf e.b :: e.b :: G.bh e.b :: q).tail = (p ++ [G.bf e.b]).tail ++ e.b :: G.bh e.b :: q := by cases p <;> simp
    rw [e2, List.nodup_append] at h3
    rw [q'] at h3
    simp at h3
theorem KM.tagE {es : List Ent} (h : KM n w m es G) {b : Nat} (hb : b ∈ G.rb :: es.map Ent.b) : ∃ kp vp hh nx bf bh, EntAt w b kp vp hh nx bf bh false := by
  rcases List.mem_cons.1 hb with q | q
  · rw [q]; exact ⟨_, _, _, _, _, _, h.ring⟩
  · obtain ⟨y, hy, hyb⟩ := List.mem_map.1 q
    rw [← hyb]; exact ⟨_, _, _, _, _, _, h.ent y hy⟩
theorem KM.take (h : KM n w m (A ++ e :: B) G) {i : Nat} {xo : Option Nat} {l1 l2 : List Nat} (hi : i < 8 * G.L) (hei : e.h % (8 * G.L : Nat) = (i : Int)) (hg : Hangs G e.b i xo l1 l2) :
    KM n (takenW w m (A ++ e :: B) G e.b i xo) m (A ++ B) (G.taken e.b i xo) ∧ KeepS (KM.own m (A ++ e :: B) G) w (takenW w m (A ++ e :: B) G e.b i xo) ∧
      EntAt (takenW w m (A ++ e :: B) G e.b i xo) e.b (.pointer (some ⟨e.kb, 0, none⟩)) (.pointer (some ⟨e.vb, 0, none⟩)) e.h (G.nx e.b) (G.bf e.b) (G.bh e.b) true := by
  obtain ⟨cur, c1, c2, c3⟩ := h.heads
  obtain ⟨n1, n2, n3, n4⟩ := h.nearb
  obtain ⟨_, _, _, _, _, _, t1⟩ := h.tagE n1
  obtain ⟨_, _, _, _, _, _, t2⟩ := h.tagE n2
  have he : e ∈ A ++ e :: B := by simp
  have hee := h.ent e he
  obtain ⟨a1, a2, a3⟩ := h.chain i hi
  have hnd := a2
  rw [hg.eq] at hnd
  have hl1 : ∀ z ∈ l1, z ≠ e.b := fun z hz q => by
    rw [List.nodup_append] at hnd
    exact hnd.2.2 z hz e.b (by simp) q
  have hxo : ∀ x, xo = some x → x ∈ l1 ∧ x ∈ G.ch i ∧ x ≠ e.b ∧ ∃ y ∈ A ++ e :: B, y.b = x := fun x hx => by
    rcases hg.at_ with ⟨q, _⟩ | ⟨l0, x', q1, q2⟩
    · rw [q] at hx; cases hx
    · rw [q1] at hx
      cases hx
      have m1 : x ∈ l1 := by rw [q2]; simp
      have m2 : x ∈ G.ch i := by rw [hg.eq]; simp [m1]
      obtain ⟨y, y1, y2, _⟩ := (a3 x).1 m2
      exact ⟨m1, m2, hl1 x m1, y, y1, y2⟩
  have hatE : ∀ x, xo = some x → ∃ kp vp hh nx bf bh, EntAt w x kp vp hh nx bf bh false := fun x hx => by
    obtain ⟨_, _, _, y, y1, y2⟩ := hxo x hx
    rw [← y2]
    exact ⟨_, _, _, _, _, _, h.ent y y1⟩
  have hmat : m ≠ (atOf G i xo).block := by
    cases xo with
    | none => exact tag_ne h.map c1 (by decide)
    | some x =>
      obtain ⟨_, _, _, _, _, _, q⟩ := hatE x rfl
      exact tag_ne h.map q (by decide)
  have heat : e.b ≠ (atOf G i xo).block := by
    cases xo with
    | none => exact hee.ne c1 (by decide)
    | some x => exact (hxo x rfl).2.2.1.symm
  have hown : KM.own m (A ++ e :: B) G (atOf G i xo).block := by
    cases xo with
    | none => exact .inr (.inl rfl)
    | some x =>
      obtain ⟨_, _, _, y, y1, y2⟩ := hxo x rfl
      exact .inr (.inr (.inr (by show x ∈ _; rw [← y2]; exact List.mem_map_of_mem y1)))
  have hringo : ∀ {b}, b ∈ G.rb :: (A ++ e :: B).map Ent.b → KM.own m (A ++ e :: B) G b := fun hb => by
    rcases List.mem_cons.1 hb with q | q
    · exact .inr (.inr (.inl q))
    · exact .inr (.inr (.inr q))
  have hat : ∃ o, atOf G i xo = ⟨(atOf G i xo).block, o, none⟩ := by cases xo <;> exact ⟨_, rfl⟩
  obtain ⟨ao, hao⟩ := hat
  have hk : KeepS (KM.own m (A ++ e :: B) G) w (takenW w m (A ++ e :: B) G e.b i xo) := by
    unfold takenW
    rw [hao]
    exact (((((KeepS.refl _ w).set _ (fun _ => hown)).set _ (fun _ => hringo n1)).set _ (fun _ => hringo n2)).set _ (fun _ => .inr (.inr (.inr (List.mem_map_of_mem he))))).set _ (fun _ => .inl rfl)
  have hm1 := tag_ne h.map t1 (by decide)
  have hm2 := tag_ne h.map t2 (by decide)
  have hm3 := tag_ne h.map hee (by decide)
  have hh1 := tag_ne c1 t1 (by decide)
  have hh2 := tag_ne c1 t2 (by decide)
  have hh3 := tag_ne c1 hee (by decide)
  have hh4 := tag_ne c1 h.map (by decide)
  have hfirst : ∀ {b kp vp hh g}, EntAt w b kp vp hh (G.nx b) (G.bf b) (G.bh b) g → EntAt (w.setCell (atOf G i xo) (pv (G.nx e.b))) b kp vp hh ((G.taken e.b i xo).nx b) (G.bf b) (G.bh b) g := fun {b kp vp hh g} hb => by
    cases xo with
    | none => exact hb.other _ (hb.ne c1 (by decide))
    | some x => exact hb.up3 x (G.nx e.b)
  have hold : ∀ {b kp vp hh g}, b ≠ e.b → EntAt w b kp vp hh (G.nx b) (G.bf b) (G.bh b) g → EntAt (takenW w m (A ++ e :: B) G e.b i xo) b kp vp hh ((G.taken e.b i xo).nx b) ((G.taken e.b i xo).bf b) ((G.taken e.b i xo).bh b) g := fun {b kp vp hh g} hne hb =>
    ((((hfirst hb).up5 (G.bf e.b) (G.bh e.b)).up4 (G.bh e.b) (G.bf e.b)).other _ hne).other _ (hb.ne h.map (by decide))
  have hgone : EntAt (takenW w m (A ++ e :: B) G e.b i xo) e.b (.pointer (some ⟨e.kb, 0, none⟩)) (.pointer (some ⟨e.vb, 0, none⟩)) e.h (G.nx e.b) (G.bf e.b) (G.bh e.b) true := by
    have h1 : EntAt (w.setCell (atOf G i xo) (pv (G.nx e.b))) e.b (.pointer (some ⟨e.kb, 0, none⟩)) (.pointer (some ⟨e.vb, 0, none⟩)) e.h (G.nx e.b) (G.bf e.b) (G.bh e.b) false := by
      rw [hao]; exact hee.other _ heat
    have h2 := (h1.other (o := 5) (.pointer (some ⟨G.bh e.b, 0, none⟩)) n3.symm).other (o := 4) (.pointer (some ⟨G.bf e.b, 0, none⟩)) n4.symm
    have h3 : EntAt _ e.b (.pointer (some ⟨e.kb, 0, none⟩)) (.pointer (some ⟨e.vb, 0, none⟩)) e.h (G.nx e.b) (G.bf e.b) (G.bh e.b) true := row_set h2 6 (.bool true)
    exact h3.other _ hm3.symm
  have hmap : ∀ z, z ∈ (A ++ B).map Ent.b ↔ z ∈ (A ++ e :: B).map Ent.b ∧ z ≠ e.b := fun z => by
    have hnn := (List.nodup_cons.1 h.nod).2
    rw [List.map_append, List.map_cons, List.nodup_append] at hnn
    rw [List.map_append, List.map_append, List.map_cons]
    simp only [List.mem_append, List.mem_cons]
    constructor
    · rintro (q | q)
      · exact ⟨.inl q, fun q' => hnn.2.2 z q e.b (by simp) q'⟩
      · exact ⟨.inr (.inr q), fun q' => (List.nodup_cons.1 hnn.2.1).1 (q' ▸ q)⟩
    · rintro ⟨q | q | q, q'⟩
      · exact .inl q
      · exact absurd q q'
      · exact .inr q
  have hsub : ∀ x, x ∈ A ++ B → x ∈ A ++ e :: B ∧ x.b ≠ e.b := fun x hx => by
    have := (hmap x.b).1 (List.mem_map_of_mem hx)
    refine ⟨?_, this.2⟩
    rcases List.mem_append.1 hx with q | q
    · exact List.mem_append.2 (.inl q)
    · exact List.mem_append.2 (.inr (List.mem_cons_of_mem _ q))
  have hback : ∀ x, x ∈ A ++ e :: B → x.b ≠ e.b → x ∈ A ++ B := fun x hx hn => by
    rcases List.mem_append.1 hx with q | q
    · exact List.mem_append.2 (.inl q)
    · rcases List.mem_cons.1 q with q | q
      · exact absurd (by rw [q]) hn
      · exact List.mem_append.2 (.inr q)
  have hrbe : G.rb ≠ e.b := fun q => (List.nodup_cons.1 h.nod).1 (q ▸ List.mem_map_of_mem he)
  have hringNew : EntAt (takenW w m (A ++ e :: B) G e.b i xo) G.rb (.pointer none) (.pointer none) 0 none ((G.taken e.b i xo).bf G.rb) ((G.taken e.b i xo).bh G.rb) false := by
    have hr := h.ring
    have hat : G.rb ≠ (atOf G i xo).block := by
      cases xo with
      | none => exact hr.ne c1 (by decide)
      | some x =>
        obtain ⟨_, _, _, y, y1, y2⟩ := hxo x rfl
        exact fun q => (List.nodup_cons.1 h.nod).1 (by rw [show G.rb = x from q, ← y2]; exact List.mem_map_of_mem y1)
    have h1 : EntAt (w.setCell (atOf G i xo) (pv (G.nx e.b))) G.rb (.pointer none) (.pointer none) 0 none (G.bf G.rb) (G.bh G.rb) false := by
      rw [hao]; exact hr.other _ hat
    exact (((h1.up5 (G.bf e.b) (G.bh e.b)).up4 (G.bh e.b) (G.bf e.b)).other _ hrbe).other _ (hr.ne h.map (by decide))
  refine ⟨⟨?_, h.L1, h.Lc, h.Lm, h.capm, ?_, hringNew, fun x hx => hold (hsub x hx).2 (h.ent x (hsub x hx).1), fun x hx => ⟨(h.box x (hsub x hx).1).1.keep hk h.data, (h.box x (hsub x hx).1).2.keep hk h.data⟩, ?_, ?_, ?_, ?_, fun x hx => h.key x (hsub x hx).1, ?_⟩, hk, hgone⟩
  · have h0 : (((w.setCell (atOf G i xo) (pv (G.nx e.b))).setCell ⟨G.bf e.b, 5, none⟩ (.pointer (some ⟨G.bh e.b, 0, none⟩))).setCell ⟨G.bh e.b, 4, none⟩ (.pointer (some ⟨G.bf e.b, 0, none⟩))).setCell ⟨e.b, 6, none⟩ (.bool true) |>.heap[m]? = _ := (heap_setCell_other _ _ _ _ _ hm3).trans ((heap_setCell_other _ _ _ _ _ hm2).trans ((heap_setCell_other _ _ _ _ _ hm1).trans ((by rw [hao]; exact heap_setCell_other _ _ _ _ _ hmat : (w.setCell (atOf G i xo) (pv (G.nx e.b))).heap[m]? = w.heap[m]?).trans h.map)))
    have h1 := row_set h0 2 (.int .i64 (((A ++ e :: B).length : Int) - 1))
    have e1 : (((A ++ e :: B).length : Int) - 1) = ((A ++ B).length : Int) := by simp; omega
    rw [e1] at h1
    unfold takenW
    rw [e1]
    exact h1
  · have hrest : ∀ (V : World), ((((V.setCell ⟨G.bf e.b, 5, none⟩ (.pointer (some ⟨G.bh e.b, 0, none⟩))).setCell ⟨G.bh e.b, 4, none⟩ (.pointer (some ⟨G.bf e.b, 0, none⟩))).setCell ⟨e.b, 6, none⟩ (.bool true)).setCell ⟨m, 2, none⟩ (.int .i64 (((A ++ e :: B).length : Int) - 1))).heap[G.hb]? = V.heap[G.hb]? := fun V =>
      (heap_setCell_other _ _ _ _ _ hh4).trans ((heap_setCell_other _ _ _ _ _ hh3).trans ((heap_setCell_other _ _ _ _ _ hh2).trans (heap_setCell_other _ _ _ _ _ hh1)))
    cases xo with
    | none =>
      refine ⟨cur.setIfInBounds i (pv (G.nx e.b)), (hrest _).trans (row_set c1 i _), by rw [Array.size_setIfInBounds]; exact c2, fun j hj => ?_⟩
      rw [set_get]
      show _ = some (pv (up G.hd i (G.nx e.b) j))
      by_cases hji : j = i
      · subst hji
        rw [if_pos ⟨rfl, by have := h.Lc; have : j < 8 * G.L := hj; omega⟩, up_at]
      · rw [if_neg (fun q => hji q.1), up_ne _ _ hji]
        exact c3 j hj
    | some x =>
      obtain ⟨_, _, _, _, _, _, q⟩ := hatE x rfl
      refine ⟨cur, (hrest _).trans ((heap_setCell_other _ _ _ _ _ ?_).trans c1), c2, c3⟩
      exact tag_ne c1 q (by decide)
  · have ha := h.adj
    have hn := ring_ends h.nod
    rw [List.map_append, List.map_cons] at ha hn
    obtain ⟨p, q, h1, h2⟩ := ring_at ha
    rw [h1] at ha hn
    have := Adj.cut ha hn.1 hn.2
    show Adj (up G.bf (G.bh e.b) (G.bf e.b)) (up G.bh (G.bf e.b) (G.bh e.b)) (G.rb :: (A ++ B).map Ent.b ++ [G.rb])
    rw [List.map_append, h2]
    exact this
  · have hn := h.nod
    rw [List.nodup_cons] at hn
    show (G.rb :: (A ++ B).map Ent.b).Nodup
    rw [List.nodup_cons]
    refine ⟨fun q => hn.1 ((hmap _).1 q).1, ?_⟩
    have := hn.2
    rw [List.map_append, List.map_cons] at this
    rw [List.map_append]
    exact this.sublist (List.Sublist.append (List.Sublist.refl _) (List.sublist_cons_self _ _))
  · intro j hj
    obtain ⟨b1, b2, b3⟩ := h.chain j hj
    by_cases hji : j = i
    · subst hji
      have er : (G.ch j).erase e.b = l1 ++ l2 := by
        rw [hg.eq, List.erase_append_right _ (fun q => hl1 _ q rfl), List.erase_cons_head]
      have hch : (G.taken e.b j xo).ch j = l1 ++ l2 := by show up G.ch j ((G.ch j).erase e.b) j = _; rw [up_at, er]
      rw [hch]
      refine ⟨?_, ?_, fun b => ?_⟩
      · rcases hg.at_ with ⟨rfl, rfl⟩ | ⟨l0, x, rfl, rfl⟩
        · show Lk G.nx (up G.hd j (G.nx e.b) j) ([] ++ l2)
          rw [up_at]
          have := b1
          rw [hg.eq] at this
          exact this.2
        · show Lk (up G.nx x (G.nx e.b)) (G.hd j) ((l0 ++ [x]) ++ l2)
          have := b1
          rw [hg.eq] at this
          have e3 : (l0 ++ [x]) ++ e.b :: l2 = l0 ++ x :: e.b :: l2 := by simp
          rw [e3] at this hnd
          have e4 : (l0 ++ [x]) ++ l2 = l0 ++ x :: l2 := by simp
          rw [e4]
          exact Lk.cut l0 this hnd
      · exact hnd.sublist (List.Sublist.append (List.Sublist.refl _) (List.sublist_cons_self _ _))
      · have hb := b3 b
        rw [hg.eq] at hb
        constructor
        · intro q
          have q1 : b ∈ l1 ++ e.b :: l2 := by
            rcases List.mem_append.1 q with q | q
            · simp [q]
            · simp [q]
          have q2 : b ≠ e.b := by
            rintro rfl
            rcases List.mem_append.1 q with q | q
            · exact hl1 _ q rfl
            · rw [List.nodup_append] at hnd
              exact (List.nodup_cons.1 hnd.2.1).1 q
          obtain ⟨x, x1, x2, x3⟩ := hb.1 q1
          exact ⟨x, hback x x1 (x2 ▸ q2), x2, x3⟩
        · rintro ⟨x, x1, x2, x3⟩
          have q1 := hb.2 ⟨x, (hsub x x1).1, x2, x3⟩
          have q2 : b ≠ e.b := x2 ▸ (hsub x x1).2
          rcases List.mem_append.1 q1 with q | q
          · exact List.mem_append.2 (.inl q)
          · rcases List.mem_cons.1 q with q | q
            · exact absurd q q2
            · exact List.mem_append.2 (.inr q)
    · have hch : (G.taken e.b i xo).ch j = G.ch j := by show up G.ch i _ j = _; rw [up_ne _ _ hji]
      rw [hch]
      refine ⟨?_, b2, fun b => ?_⟩
      · cases xo with
        | none =>
          show Lk G.nx (up G.hd i (G.nx e.b) j) _
          rw [up_ne _ _ hji]
          exact b1
        | some x =>
          show Lk (up G.nx x (G.nx e.b)) (G.hd j) _
          refine Lk.congr _ _ (fun b hb => up_ne _ _ (fun q => ?_)) b1
          subst q
          obtain ⟨y, y1, y2, y3⟩ := (b3 b).1 hb
          obtain ⟨z, z1, z2, z3⟩ := (a3 b).1 (hxo b rfl).2.1
          have := map_inj (List.nodup_cons.1 h.nod).2 y y1 z z1 (y2.trans z2.symm)
          subst this
          rw [y3] at z3
          exact hji (by exact_mod_cast z3)
      · refine (b3 b).trans ⟨?_, ?_⟩
        · rintro ⟨x, x1, x2, x3⟩
          refine ⟨x, hback x x1 (fun q => ?_), x2, x3⟩
          have := map_inj (List.nodup_cons.1 h.nod).2 x x1 e he q
          subst this
          rw [hei] at x3
          exact hji (by exact_mod_cast x3.symm)
        · rintro ⟨x, x1, x2, x3⟩
          exact ⟨x, (hsub x x1).1, x2, x3⟩
  · have := h.fit
    simp at this ⊢
    show _ ≤ 8 * G.L
    omega
  · have := h.apart
    exact this.sublist (List.Sublist.append (List.Sublist.refl _) (List.sublist_cons_self _ _))
end Go.Proofs.YtflonmlnedkmjaaDoor
