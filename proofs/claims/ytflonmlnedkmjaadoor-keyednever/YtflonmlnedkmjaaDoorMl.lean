/-
  Maps of which some entries hang in their chains; hang.
-/
import Derived.Test.YtflonmlnedkmjaaDoorMhJ
import Derived.Test.YtflonmlnedkmjaaDoorMg
import Derived.Test.YtflonmlnedkmjaaDoorMe
namespace Go.Proofs.YtflonmlnedkmjaaDoor
open Go.RowKit
/-- A map of whose entries those of S hang in their chains. -/
structure KMp (n : Nat) (w : World) (m : Nat) (es : List Ent) (G : KG) (S : Nat → Prop) : Prop where
  map : ∃ ct : Int, w.heap[m]? = some (.cells #[.slice (some ⟨G.hb, 0, none⟩) G.L G.cap, .pointer (some ⟨G.rb, 0, none⟩), .int .i64 ct] 65 (0, 0))
  L1 : 1 ≤ G.L
  Lc : G.L ≤ G.cap
  Lm : G.L ≤ 1099511627776
  capm : G.cap ≤ maxLen
  heads : ∃ cur, w.heap[G.hb]? = some (.cells cur 112 (0, 0)) ∧ cur.size = 8 * G.cap ∧ ∀ i, i < 8 * G.L → cur[i]? = some (pv (G.hd i))
  ring : EntAt w G.rb (.pointer none) (.pointer none) 0 none (G.bf G.rb) (G.bh G.rb) false
  ent : ∀ e ∈ es, EntAt w e.b (.pointer (some ⟨e.kb, 0, none⟩)) (.pointer (some ⟨e.vb, 0, none⟩)) e.h (G.nx e.b) (G.bf e.b) (G.bh e.b) false
  box : ∀ e ∈ es, Box w n e.kb e.k ∧ Box w n e.vb e.v
  adj : Adj G.bf G.bh (G.rb :: es.map Ent.b ++ [G.rb])
  nod : (G.rb :: es.map Ent.b).Nodup
  chain : ∀ i, i < 8 * G.L → Lk G.nx (G.hd i) (G.ch i) ∧ (G.ch i).Nodup ∧ ∀ b, b ∈ G.ch i ↔ ∃ e ∈ es, e.b = b ∧ S b ∧ e.h % (8 * G.L : Nat) = (i : Int)
  key : ∀ e ∈ es, KeyOK n e
  apart : es.Pairwise fun a b => (MD.eqv n a.k b.k).1 = false
variable {n : Nat} {w w' : World} {m : Nat} {es : List Ent} {G : KG} {S : Nat → Prop}
theorem KM.part (h : KM n w m es G) : KMp n w m es G (fun _ => True) :=
  ⟨⟨_, h.map⟩, h.L1, h.Lc, h.Lm, h.capm, h.heads, h.ring, h.ent, h.box, h.adj, h.nod, fun i hi => ⟨(h.chain i hi).1, (h.chain i hi).2.1, fun b => by rw [(h.chain i hi).2.2 b]; simp⟩, h.key, h.apart⟩
theorem KMp.whole (h : KMp n w m es G S) (hS : ∀ e ∈ es, S e.b) (hm : w.heap[m]? = some (.cells #[.slice (some ⟨G.hb, 0, none⟩) G.L G.cap, .pointer (some ⟨G.rb, 0, none⟩), .int .i64 es.length] 65 (0, 0))) (hf : es.length ≤ 8 * G.L) : KM n w m es G :=
  ⟨hm, h.L1, h.Lc, h.Lm, h.capm, h.heads, h.ring, h.ent, h.box, h.adj, h.nod, fun i hi => ⟨(h.chain i hi).1, (h.chain i hi).2.1, fun b => by
    rw [(h.chain i hi).2.2 b]
    exact ⟨fun ⟨e, h1, h2, _, h4⟩ => ⟨e, h1, h2, h4⟩, fun ⟨e, h1, h2, h4⟩ => ⟨e, h1, h2, h2 ▸ hS e h1, h4⟩⟩⟩, hf, h.key, h.apart⟩
theorem KMp.tag (h : KMp n w m es G S) {b : Nat} (hb : KM.own m es G b) : ∃ c t, w.heap[b]? = some (.cells c t (0, 0)) ∧ (t = 65 ∨ t = 112 ∨ t = 62) := by
  rcases hb with rfl | rfl | rfl | hb
  · obtain ⟨ct, h1⟩ := h.map
    exact ⟨_, _, h1, .inl rfl⟩
  · obtain ⟨cur, h1, _⟩ := h.heads
    exact ⟨_, _, h1, .inr (.inl rfl)⟩
  · exact ⟨_, _, h.ring, .inr (.inr rfl)⟩
  · obtain ⟨e, he, rfl⟩ := List.mem_map.1 hb
    exact ⟨_, _, h.ent e he, .inr (.inr rfl)⟩
theorem KMp.data (h : KMp n w m es G S) : ∀ g c t, (t = 3 ∨ t = 39) → w.heap[g]? = some (.cells c t (0, 0)) → ¬ KM.own m es G g := fun g c t ht hg ho => by
  obtain ⟨c', t', h1, h2⟩ := h.tag ho
  rw [hg] at h1
  injection h1 with h1
  injection h1 with _ h1
  subst h1
  rcases ht with rfl | rfl <;> rcases h2 with h2 | h2 | h2 <;> exact absurd h2 (by decide)
/-- What hang makes of a map. -/
def KG.hung (G : KG) (b i : Nat) : KG := { G with nx := up G.nx b (G.hd i), hd := up G.hd i (some b), ch := up G.ch i (b :: G.ch i) }
theorem set_get (cur : Array Value) (i j : Nat) (v : Value) : (cur.setIfInBounds i v)[j]? = if j = i ∧ i < cur.size then some v else cur[j]? := by
  rw [Array.getElem?_setIfInBounds]
  by_cases h : i = j
  · subst h
    by_cases h2 : i < cur.size <;> simp [h2]
  · have h' : ¬ j = i := fun e => h e.symm
    simp [h, h']
theorem KMp.hang (h : KMp n w m es G S) {e : Ent} (he : e ∈ es) (hS : ¬ S e.b) {i : Nat} (hi : i < 8 * G.L) (hei : e.h % (8 * G.L : Nat) = (i : Int)) :
    KMp n ((w.setCell ⟨e.b, 3, none⟩ (pv (G.hd i))).setCell ⟨G.hb, i, none⟩ (.pointer (some ⟨e.b, 0, none⟩))) m es (G.hung e.b i) (fun b => S b ∨ b = e.b) := by
  obtain ⟨cur, c1, c2, c3⟩ := h.heads
  obtain ⟨ct, hm⟩ := h.map
  have hk : KeepS (KM.own m es G) w ((w.setCell ⟨e.b, 3, none⟩ (pv (G.hd i))).setCell ⟨G.hb, i, none⟩ (.pointer (some ⟨e.b, 0, none⟩))) :=
    ((KeepS.refl _ w).set _ (fun _ => .inr (.inr (.inr (List.mem_map_of_mem he))))).set _ (fun _ => .inr (.inl rfl))
  have hne : e.b ≠ G.hb := (h.ent e he).ne c1 (by decide)
  have hent : ∀ {b kp vp hh bf bh g}, EntAt w b kp vp hh (G.nx b) bf bh g → EntAt ((w.setCell ⟨e.b, 3, none⟩ (pv (G.hd i))).setCell ⟨G.hb, i, none⟩ (.pointer (some ⟨e.b, 0, none⟩))) b kp vp hh ((G.hung e.b i).nx b) bf bh g := fun hb => (hb.up3 e.b (G.hd i)).other _ (hb.ne c1 (by decide))
  have hmS : ∀ b, b ∈ G.ch i → b ≠ e.b := fun b hb q => by
    obtain ⟨x, _, _, hx, _⟩ := ((h.chain i hi).2.2 b).1 hb
    exact hS (q ▸ hx)
  refine ⟨⟨ct, ?_⟩, h.L1, h.Lc, h.Lm, h.capm, ?_, ?_, fun x hx => hent (h.ent x hx), fun x hx => ⟨(h.box x hx).1.keep hk h.data, (h.box x hx).2.keep hk h.data⟩, h.adj, h.nod, fun j hj => ?_, h.key, h.apart⟩
  · refine (heap_setCell_other _ _ _ _ _ (tag_ne hm c1 (by decide))).trans ((heap_setCell_other _ _ _ _ _ ?_).trans hm)
    exact ((h.ent e he).ne hm (by decide)).symm
  · refine ⟨cur.setIfInBounds i (.pointer (some ⟨e.b, 0, none⟩)), row_set ((heap_setCell_other _ _ _ _ _ hne.symm).trans c1) i _, by rw [Array.size_setIfInBounds]; exact c2, fun j hj => ?_⟩
    rw [set_get]
    by_cases hji : j = i
    · subst hji
      rw [if_pos ⟨rfl, by have := h.Lc; have : j < 8 * G.L := hj; omega⟩]
      show _ = some (pv (up G.hd j (some e.b) j))
      rw [up_at]; rfl
    · rw [if_neg (fun q => hji q.1)]
      show _ = some (pv (up G.hd i (some e.b) j))
      rw [up_ne _ _ hji]
      exact c3 j hj
  · have hr := h.ring
    have hrb : G.rb ≠ e.b := fun q => by
      have := (List.nodup_cons.1 h.nod).1
      rw [q] at this
      exact this (List.mem_map_of_mem he)
    exact (hr.other _ hrb).other _ (hr.ne c1 (by decide))
  · obtain ⟨a1, a2, a3⟩ := h.chain j hj
    by_cases hji : j = i
    · subst hji
      show Lk (up G.nx e.b (G.hd j)) (up G.hd j (some e.b) j) (up G.ch j (e.b :: G.ch j) j) ∧ _
      rw [up_at]
      show _ ∧ (up G.ch j (e.b :: G.ch j) j).Nodup ∧ ∀ b, b ∈ up G.ch j (e.b :: G.ch j) j ↔ _
      rw [up_at]
      refine ⟨a1.hang e.b (fun q => hmS _ q rfl), List.nodup_cons.2 ⟨fun q => hmS _ q rfl, a2⟩, fun b => ?_⟩
      rw [List.mem_cons, a3 b]
      constructor
      · rintro (rfl | ⟨x, x1, x2, x3, x4⟩)
        · exact ⟨e, he, rfl, .inr rfl, hei⟩
        · exact ⟨x, x1, x2, .inl x3, x4⟩
      · rintro ⟨x, x1, x2, x3 | x3, x4⟩
        · exact .inr ⟨x, x1, x2, x3, x4⟩
        · exact .inl x3
    · show Lk (up G.nx e.b (G.hd i)) (up G.hd i (some e.b) j) (up G.ch i (e.b :: G.ch i) j) ∧ (up G.ch i (e.b :: G.ch i) j).Nodup ∧ ∀ b, b ∈ up G.ch i (e.b :: G.ch i) j ↔ _
      rw [up_ne _ _ hji, up_ne _ _ hji]
      have hnj : e.b ∉ G.ch j := fun q => by
        obtain ⟨x, _, x2, x3, _⟩ := (a3 e.b).1 q
        exact hS x3
      refine ⟨Lk.congr _ _ (fun b hb => up_ne _ _ (fun q => hnj (q ▸ hb))) a1, a2, fun b => ?_⟩
      rw [a3 b]
      constructor
      · rintro ⟨x, x1, x2, x3, x4⟩
        exact ⟨x, x1, x2, .inl x3, x4⟩
      · rintro ⟨x, x1, x2, x3 | x3, x4⟩
        · exact ⟨x, x1, x2, x3, x4⟩
        · have := map_inj (List.nodup_cons.1 h.nod).2 x x1 e he (x2.trans x3)
          subst this
          have x4 : x.h % ((8 * G.L : Nat) : Int) = (j : Int) := x4
          rw [hei] at x4
          exact absurd (by exact_mod_cast x4) (Ne.symm hji)
theorem hang_any (h : KMp n w m es G S) {e : Ent} (he : e ∈ es) (hS : ¬ S e.b) :
    Calls Tryd.prog 37 #[.pointer (some ⟨m, 0, none⟩), .pointer (some ⟨e.b, 0, none⟩)] w fun r w' => r = .returned (.tuple #[]) ∧ ∃ i, w' = (w.setCell ⟨e.b, 3, none⟩ (pv (G.hd i))).setCell ⟨G.hb, i, none⟩ (.pointer (some ⟨e.b, 0, none⟩)) ∧ KMp n w' m es (G.hung e.b i) (fun b => S b ∨ b = e.b) ∧ i < 8 * G.L ∧ e.h % (8 * G.L : Nat) = (i : Int) := by
  have hL := h.L1
  have z0 : 0 ≤ e.h % ((8 * G.L : Nat) : Int) := Int.emod_nonneg _ (by omega)
  have z1 : e.h % ((8 * G.L : Nat) : Int) < ((8 * G.L : Nat) : Int) := Int.emod_lt_of_pos _ (by omega)
  obtain ⟨i, hi⟩ : ∃ i : Nat, e.h % ((8 * G.L : Nat) : Int) = i := ⟨(e.h % ((8 * G.L : Nat) : Int)).toNat, by omega⟩
  have hiL : i < 8 * G.L := by omega
  obtain ⟨cur, c1, c2, c3⟩ := h.heads
  obtain ⟨ct, hm⟩ := h.map
  have hk := (h.key e he).2.2.2.1
  refine (hang_raw w m e.b G.hb G.L G.cap i e.h cur ((G.hd i).map fun b => ⟨b, 0, none⟩) _ _ _ _ _ _ hk.1 hk.2 h.L1 h.Lm (row_at hm 0) (h.ent e he) c1 hi (c3 i hiL)).mono ?_
  rintro r w1 ⟨rfl, rfl⟩
  exact ⟨rfl, i, rfl, h.hang he hS hiL hi, hiL, hi⟩
end Go.Proofs.YtflonmlnedkmjaaDoor
