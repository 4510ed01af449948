/-
  lay: an entry comes behind all others: the ring.
-/
import Derived.Test.YtflonmlnedkmjaaDoorMn
namespace Go.Proofs.YtflonmlnedkmjaaDoor
open Go.RowKit
variable {n : Nat} {w w' : World} {m : Nat} {es : List Ent} {G : KG} {S : Nat → Prop}
/-- An entry that stands nowhere yet. -/
structure Fresh (n : Nat) (w : World) (es : List Ent) (G : KG) (e : Ent) : Prop where
  cells : w.heap[e.b]? = some (.cells #[.pointer (some ⟨e.kb, 0, none⟩), .pointer (some ⟨e.vb, 0, none⟩), .int .u64 e.h, .pointer none, .pointer none, .pointer none, .bool false] 62 (0, 0))
  box : Box w n e.kb e.k ∧ Box w n e.vb e.v
  key : KeyOK n e
  apart : ∀ x ∈ es, (MD.eqv n x.k e.k).1 = false
  ring : e.b ≠ G.rb
  out : e.b ∉ es.map Ent.b
/-- It comes into the ring. -/
def KG.linked (G : KG) (b : Nat) : KG := { G with bf := up (up G.bf b (G.bf G.rb)) G.rb b, bh := up (up G.bh b G.rb) (G.bf G.rb) b, nx := up G.nx b none }
theorem KM.last (h : KM n w m es G) : G.bf G.rb ∈ G.rb :: es.map Ent.b := by
  obtain ⟨l1, hl⟩ := ring_split h.adj
  rcases List.eq_nil_or_concat (es.map Ent.b) with e | ⟨l0, x, e⟩
  · rw [e] at hl ⊢
    have : G.rb :: [] ++ [G.rb] = [G.rb, G.rb] := rfl
    rw [this] at hl
    cases l1 with
    | nil =>
      have h0 := List.cons.inj hl
      exact List.mem_cons.2 (.inl h0.1.symm)
    | cons y l1 => have := congrArg List.length hl; simp at this
  · rw [List.concat_eq_append] at e
    have e2 : G.rb :: es.map Ent.b ++ [G.rb] = (G.rb :: l0) ++ [x, G.rb] := by rw [e]; simp
    rw [e2] at hl
    have := List.append_inj_right' hl rfl
    simp at this
    rw [← this, e]
    simp
theorem KM.link (h : KM n w m es G) {e : Ent} (f : Fresh n w es G e) :
    KMp n ((((w.setCell ⟨e.b, 4, none⟩ (.pointer (some ⟨G.bf G.rb, 0, none⟩))).setCell ⟨e.b, 5, none⟩ (.pointer (some ⟨G.rb, 0, none⟩))).setCell ⟨G.bf G.rb, 5, none⟩ (.pointer (some ⟨e.b, 0, none⟩))).setCell ⟨G.rb, 4, none⟩ (.pointer (some ⟨e.b, 0, none⟩))) m (es ++ [e]) (G.linked e.b) (fun b => b ∈ es.map Ent.b) ∧ KeepS (fun b => KM.own m es G b ∨ b = e.b) w ((((w.setCell ⟨e.b, 4, none⟩ (.pointer (some ⟨G.bf G.rb, 0, none⟩))).setCell ⟨e.b, 5, none⟩ (.pointer (some ⟨G.rb, 0, none⟩))).setCell ⟨G.bf G.rb, 5, none⟩ (.pointer (some ⟨e.b, 0, none⟩))).setCell ⟨G.rb, 4, none⟩ (.pointer (some ⟨e.b, 0, none⟩))) ∧ ((((w.setCell ⟨e.b, 4, none⟩ (.pointer (some ⟨G.bf G.rb, 0, none⟩))).setCell ⟨e.b, 5, none⟩ (.pointer (some ⟨G.rb, 0, none⟩))).setCell ⟨G.bf G.rb, 5, none⟩ (.pointer (some ⟨e.b, 0, none⟩))).setCell ⟨G.rb, 4, none⟩ (.pointer (some ⟨e.b, 0, none⟩))).heap[m]? = w.heap[m]? := by
  obtain ⟨cur, c1, c2, c3⟩ := h.heads
  have hx : G.bf G.rb ∈ G.rb :: es.map Ent.b := h.last
  have hxe : G.bf G.rb ≠ e.b := fun q => by
    rw [q] at hx
    rcases List.mem_cons.1 hx with hx | hx
    · exact f.ring hx
    · exact f.out hx
  have hxt : ∃ c, w.heap[G.bf G.rb]? = some (.cells c 62 (0, 0)) := by
    rcases List.mem_cons.1 hx with q | q
    · rw [q]; exact ⟨_, h.ring⟩
    · obtain ⟨y, hy, hyb⟩ := List.mem_map.1 q
      rw [← hyb]; exact ⟨_, h.ent y hy⟩
  obtain ⟨cx, hxc⟩ := hxt
  have hmx := tag_ne h.map hxc (by decide)
  have hmr := tag_ne h.map h.ring (by decide)
  have hme := tag_ne h.map f.cells (by decide)
  have hhx := tag_ne c1 hxc (by decide)
  have hhr := tag_ne c1 h.ring (by decide)
  have hhe := tag_ne c1 f.cells (by decide)
  have hk : KeepS (fun b => KM.own m es G b ∨ b = e.b) w ((((w.setCell ⟨e.b, 4, none⟩ (.pointer (some ⟨G.bf G.rb, 0, none⟩))).setCell ⟨e.b, 5, none⟩ (.pointer (some ⟨G.rb, 0, none⟩))).setCell ⟨G.bf G.rb, 5, none⟩ (.pointer (some ⟨e.b, 0, none⟩))).setCell ⟨G.rb, 4, none⟩ (.pointer (some ⟨e.b, 0, none⟩))) :=
    ((((KeepS.refl _ w).set _ (fun _ => .inr rfl)).set _ (fun _ => .inr rfl)).set _ (fun _ => .inl (by
      rcases List.mem_cons.1 hx with q | q
      · exact .inr (.inr (.inl q))
      · exact .inr (.inr (.inr q))))).set _ (fun _ => .inl (.inr (.inr (.inl rfl))))
  have hd : ∀ g c t, (t = 3 ∨ t = 39) → w.heap[g]? = some (.cells c t (0, 0)) → ¬ (KM.own m es G g ∨ g = e.b) := fun g c t ht hg ho => by
    rcases ho with ho | ho
    · exact h.data g c t ht hg ho
    · subst ho
      exact tag_ne hg f.cells (by rcases ht with rfl | rfl <;> decide) rfl
  have hmm : ((((w.setCell ⟨e.b, 4, none⟩ (.pointer (some ⟨G.bf G.rb, 0, none⟩))).setCell ⟨e.b, 5, none⟩ (.pointer (some ⟨G.rb, 0, none⟩))).setCell ⟨G.bf G.rb, 5, none⟩ (.pointer (some ⟨e.b, 0, none⟩))).setCell ⟨G.rb, 4, none⟩ (.pointer (some ⟨e.b, 0, none⟩))).heap[m]? = w.heap[m]? := (heap_setCell_other _ _ _ _ _ hmr).trans ((heap_setCell_other _ _ _ _ _ hmx).trans ((heap_setCell_other _ _ _ _ _ hme).trans (heap_setCell_other _ _ _ _ _ hme)))
  have hold : ∀ {b kp vp hh g}, b ≠ e.b → EntAt w b kp vp hh (G.nx b) (G.bf b) (G.bh b) g → EntAt ((((w.setCell ⟨e.b, 4, none⟩ (.pointer (some ⟨G.bf G.rb, 0, none⟩))).setCell ⟨e.b, 5, none⟩ (.pointer (some ⟨G.rb, 0, none⟩))).setCell ⟨G.bf G.rb, 5, none⟩ (.pointer (some ⟨e.b, 0, none⟩))).setCell ⟨G.rb, 4, none⟩ (.pointer (some ⟨e.b, 0, none⟩))) b kp vp hh ((G.linked e.b).nx b) ((G.linked e.b).bf b) ((G.linked e.b).bh b) g := fun {b kp vp hh g} hb he => by
    have h1 : EntAt w b kp vp hh (up G.nx e.b none b) (G.bf b) (G.bh b) g := by rw [up_ne _ _ hb]; exact he
    exact (((h1.up4 e.b (G.bf G.rb)).up5 e.b G.rb).up5 (G.bf G.rb) e.b).up4 G.rb e.b
  have hnew : EntAt ((((w.setCell ⟨e.b, 4, none⟩ (.pointer (some ⟨G.bf G.rb, 0, none⟩))).setCell ⟨e.b, 5, none⟩ (.pointer (some ⟨G.rb, 0, none⟩))).setCell ⟨G.bf G.rb, 5, none⟩ (.pointer (some ⟨e.b, 0, none⟩))).setCell ⟨G.rb, 4, none⟩ (.pointer (some ⟨e.b, 0, none⟩))) e.b (.pointer (some ⟨e.kb, 0, none⟩)) (.pointer (some ⟨e.vb, 0, none⟩)) e.h ((G.linked e.b).nx e.b) ((G.linked e.b).bf e.b) ((G.linked e.b).bh e.b) false := by
    have h2 : EntAt ((w.setCell ⟨e.b, 4, none⟩ (.pointer (some ⟨G.bf G.rb, 0, none⟩))).setCell ⟨e.b, 5, none⟩ (.pointer (some ⟨G.rb, 0, none⟩))) e.b (.pointer (some ⟨e.kb, 0, none⟩)) (.pointer (some ⟨e.vb, 0, none⟩)) e.h none (up G.bf e.b (G.bf G.rb) e.b) (up G.bh e.b G.rb e.b) false := by
      rw [up_at, up_at]
      exact row_set (row_set f.cells 4 _) 5 _
    have h3 : EntAt ((w.setCell ⟨e.b, 4, none⟩ (.pointer (some ⟨G.bf G.rb, 0, none⟩))).setCell ⟨e.b, 5, none⟩ (.pointer (some ⟨G.rb, 0, none⟩))) e.b (.pointer (some ⟨e.kb, 0, none⟩)) (.pointer (some ⟨e.vb, 0, none⟩)) e.h (up G.nx e.b none e.b) (up G.bf e.b (G.bf G.rb) e.b) (up G.bh e.b G.rb e.b) false := by
      rw [up_at]; exact h2
    exact (h3.up5 (G.bf G.rb) e.b).up4 G.rb e.b
  have hbne : ∀ x ∈ es, x.b ≠ e.b := fun x hx q => f.out (q ▸ List.mem_map_of_mem hx)
  refine ⟨⟨⟨_, hmm.trans h.map⟩, h.L1, h.Lc, h.Lm, h.capm, ⟨cur, ?_, c2, c3⟩, ?_, fun x hx => ?_, fun x hx => ?_, ?_, ?_, fun i hi => ?_, fun x hx => ?_, ?_⟩, hk, hmm⟩
  · exact (heap_setCell_other _ _ _ _ _ hhr).trans ((heap_setCell_other _ _ _ _ _ hhx).trans ((heap_setCell_other _ _ _ _ _ hhe).trans ((heap_setCell_other _ _ _ _ _ hhe).trans c1)))
  · have hr := h.ring
    have h1 := ((hr.up4 e.b (G.bf G.rb)).up5 e.b G.rb).up5 (G.bf G.rb) e.b
    exact h1.up4 G.rb e.b
  · rcases List.mem_append.1 hx with hx | hx
    · exact hold (hbne x hx) (h.ent x hx)
    · simp at hx
      subst hx
      exact hnew
  · rcases List.mem_append.1 hx with hx | hx
    · exact ⟨(h.box x hx).1.keep hk hd, (h.box x hx).2.keep hk hd⟩
    · simp at hx
      subst hx
      exact ⟨f.box.1.keep hk hd, f.box.2.keep hk hd⟩
  · obtain ⟨l1, hl⟩ := ring_split h.adj
    have hends := ring_ends h.nod
    have ha := h.adj
    rw [hl] at ha hends
    have hne : e.b ∉ l1 ++ G.bf G.rb :: G.rb :: [] := by
      have e1 : l1 ++ G.bf G.rb :: G.rb :: [] = G.rb :: es.map Ent.b ++ [G.rb] := hl.symm
      rw [e1]
      simp only [List.cons_append, List.mem_cons, List.mem_append, List.not_mem_nil, or_false, not_or]
      exact ⟨f.ring, f.out, f.ring⟩
    have hp := Adj.put (e := e.b) ha hne hends.1 hends.2
    have e2 : G.rb :: (es ++ [e]).map Ent.b ++ [G.rb] = l1 ++ G.bf G.rb :: e.b :: G.rb :: [] := by
      have hl2 : G.rb :: es.map Ent.b = l1 ++ [G.bf G.rb] := by
        have e3 : G.rb :: es.map Ent.b ++ [G.rb] = (l1 ++ [G.bf G.rb]) ++ [G.rb] := by rw [hl]; simp
        exact List.append_cancel_right e3
      calc G.rb :: (es ++ [e]).map Ent.b ++ [G.rb] = (G.rb :: es.map Ent.b) ++ [e.b, G.rb] := by simp
        _ = _ := by rw [hl2]; simp
    show Adj (up (up G.bf e.b (G.bf G.rb)) G.rb e.b) (up (up G.bh e.b G.rb) (G.bf G.rb) e.b) (G.rb :: (es ++ [e]).map Ent.b ++ [G.rb])
    rw [e2]
    exact hp
  · have hn := h.nod
    rw [List.map_append]
    show (G.rb :: es.map Ent.b ++ [e.b]).Nodup
    rw [List.nodup_append]
    refine ⟨hn, by simp, ?_⟩
    intro a ha b hb
    simp at hb
    subst hb
    intro q
    subst q
    rcases List.mem_cons.1 ha with q | q
    · exact f.ring q
    · exact f.out q
  · obtain ⟨a1, a2, a3⟩ := h.chain i hi
    refine ⟨Lk.congr _ _ (fun b hb => ?_) a1, a2, fun b => ?_⟩
    · obtain ⟨x, hx, hxb, _⟩ := (a3 b).1 hb
      exact up_ne _ _ (by rw [← hxb]; exact hbne x hx)
    · refine (a3 b).trans ?_
      constructor
      · rintro ⟨x, x1, x2, x3⟩
        exact ⟨x, by simp [x1], x2, by rw [← x2]; exact List.mem_map_of_mem x1, x3⟩
      · rintro ⟨x, x1, x2, x3, x4⟩
        rcases List.mem_append.1 x1 with x1 | x1
        · exact ⟨x, x1, x2, x4⟩
        · simp at x1
          subst x1
          rw [← x2] at x3
          exact absurd x3 f.out
  · rcases List.mem_append.1 hx with hx | hx
    · exact h.key x hx
    · simp at hx
      subst hx
      exact f.key
  · rw [List.pairwise_append]
    refine ⟨h.apart, by simp, ?_⟩
    intro a ha b hb
    simp at hb
    subst hb
    exact f.apart a ha
end Go.Proofs.YtflonmlnedkmjaaDoor
