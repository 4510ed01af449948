/-
  Len, Drop; another datum under a key.
  Get.
  Put.
-/
import Derived.Test.YtflonmlnedkmjaaDoorMr
import Derived.Test.YtflonmlnedkmjaaDoorHe2
namespace Go.Proofs.YtflonmlnedkmjaaDoor
open Go.RowKit
theorem sum_same (n : Nat) (hI : ∀ x d : MD, MD.same n x d = true → MD.size n x = MD.size n d) : ∀ (xs ds : List MD), all2 (MD.same n) xs ds = true → xs.length = ds.length → (xs.map (MD.size n)).sum = (ds.map (MD.size n)).sum
  | [], [], _, _ => rfl
  | [], _ :: _, _, h => by simp at h
  | _ :: _, [], _, h => by simp at h
  | x :: xs, d :: ds, ha, hl => by
    have h1 : (MD.same n x d && all2 (MD.same n) xs ds) = true := ha
    rw [Bool.and_eq_true] at h1
    simp only [List.map_cons, List.sum_cons]
    rw [hI x d h1.1, sum_same n hI xs ds h1.2 (by simpa using hl)]
theorem same_size : ∀ (n : Nat) (x d : MD), MD.same n x d = true → MD.size n x = MD.size n d
  | 0, _, _, _ => rfl
  | n + 1, x, d, hs => by
    obtain ⟨e0, _, _, _, _, _, _, _, _, e9, _, ea⟩ := same_parts hs
    unfold MD.size
    rw [e0, sum_same n (same_size n) _ _ ea e9.symm]
theorem same_right (n : Nat) (x d : MD) (h : MD.same n x d = true) : MD.right n x = MD.right n d := by
  unfold MD.right
  rw [same_full n x d h, same_size n x d h]
theorem sameH_self (h : Hd) (i : Nat) : sameH h h i i = true := by simp [sameH]
theorem all2_self (p : MD → MD → Bool) (h : ∀ x, p x x = true) : ∀ l : List MD, all2 p l l = true
  | [] => rfl
  | x :: l => by
    unfold all2
    rw [h x, all2_self p h l]; rfl
theorem same_self : ∀ (n : Nat) (x : MD), MD.same n x x = true
  | 0, _ => rfl
  | n + 1, x => by
    show (sameH x.h x.h x.items.length x.items.length && decide (x.h.path = x.h.path) && all2 (MD.same n) x.items x.items) = true
    rw [sameH_self, all2_self _ (same_self n)]; simp
theorem stir_range (h n : Int) : 0 ≤ stir h n ∧ stir h n < 18446744073709551616 := by
  unfold stir
  show 0 ≤ IntKind.u64.wrap _ ∧ IntKind.u64.wrap _ < _
  rw [IntKind.wrap_u64]
  omega
theorem hash_range : ∀ (n : Nat) (h : Int) (x : MD), 0 ≤ h ∧ h < 18446744073709551616 → 0 ≤ MD.hash n h x ∧ MD.hash n h x < 18446744073709551616
  | 0, _, _, hh => hh
  | n + 1, h, x, _ => by
    have : ∀ (l : List MD) (a : Int), 0 ≤ a ∧ a < 18446744073709551616 → 0 ≤ l.foldl (MD.hash n) a ∧ l.foldl (MD.hash n) a < 18446744073709551616 := fun l => by
      induction l with
      | nil => exact fun a ha => ha
      | cons y l ih => exact fun a ha => ih _ (hash_range n a y ha)
    exact this _ _ (stir_range _ _)
theorem hash_ok (n : Nat) (x : MD) : 0 ≤ MD.hash n seed x ∧ MD.hash n seed x < 18446744073709551616 := hash_range n seed x ⟨by decide, by decide⟩
variable {n : Nat} {w w' : World} {m : Nat} {es A B : List Ent} {e : Ent} {G : KG}
/-- Another datum comes under a key. -/
theorem KM.reheld (h : KM n w m (A ++ e :: B) G) {vb : Nat} {v : MD} (hb : Box w n vb v) (hr : MD.right n v = true) :
    KM n (w.setCell ⟨e.b, 1, none⟩ (.pointer (some ⟨vb, 0, none⟩))) m (A ++ { e with vb := vb, v := v } :: B) G ∧ KeepS (KM.own m (A ++ e :: B) G) w (w.setCell ⟨e.b, 1, none⟩ (.pointer (some ⟨vb, 0, none⟩))) := by
  have he : e ∈ A ++ e :: B := by simp
  have hee := h.ent e he
  obtain ⟨cur, c1, c2, c3⟩ := h.heads
  have hk : KeepS (KM.own m (A ++ e :: B) G) w (w.setCell ⟨e.b, 1, none⟩ (.pointer (some ⟨vb, 0, none⟩))) := (KeepS.refl _ w).set _ (fun _ => .inr (.inr (.inr (List.mem_map_of_mem he))))
  have hmap : (A ++ { e with vb := vb, v := v } :: B).map Ent.b = (A ++ e :: B).map Ent.b := by simp
  have hmem : ∀ x, x ∈ A ++ { e with vb := vb, v := v } :: B → (x ∈ A ++ e :: B ∧ x.b ≠ e.b) ∨ x = { e with vb := vb, v := v } := fun x hx => by
    have hnn := (List.nodup_cons.1 h.nod).2
    rw [List.map_append, List.map_cons, List.nodup_append] at hnn
    rcases List.mem_append.1 hx with q | q
    · exact .inl ⟨List.mem_append.2 (.inl q), fun q' => hnn.2.2 x.b (List.mem_map_of_mem q) e.b (by simp) q'⟩
    · rcases List.mem_cons.1 q with q | q
      · exact .inr q
      · exact .inl ⟨List.mem_append.2 (.inr (List.mem_cons_of_mem _ q)), fun q' => (List.nodup_cons.1 hnn.2.1).1 (q' ▸ List.mem_map_of_mem q)⟩
  have hmem2 : ∀ x, x ∈ A ++ e :: B → ∃ y ∈ A ++ { e with vb := vb, v := v } :: B, y.b = x.b ∧ y.h = x.h := fun x hx => by
    rcases List.mem_append.1 hx with q | q
    · exact ⟨x, List.mem_append.2 (.inl q), rfl, rfl⟩
    · rcases List.mem_cons.1 q with q | q
      · exact ⟨{ e with vb := vb, v := v }, by simp, by rw [q], by rw [q]⟩
      · exact ⟨x, List.mem_append.2 (.inr (List.mem_cons_of_mem _ q)), rfl, rfl⟩
  have hmem3 : ∀ x, x ∈ A ++ { e with vb := vb, v := v } :: B → ∃ y ∈ A ++ e :: B, y.b = x.b ∧ y.h = x.h := fun x hx => by
    rcases hmem x hx with q | q
    · exact ⟨x, q.1, rfl, rfl⟩
    · exact ⟨e, he, by rw [q], by rw [q]⟩
  have hrb : G.rb ≠ e.b := fun q => (List.nodup_cons.1 h.nod).1 (q ▸ List.mem_map_of_mem he)
  refine ⟨⟨?_, h.L1, h.Lc, h.Lm, h.capm, ⟨cur, (heap_setCell_other _ _ _ _ _ (tag_ne c1 hee (by decide))).trans c1, c2, c3⟩, h.ring.other _ hrb, fun x hx => ?_, fun x hx => ?_, by rw [hmap]; exact h.adj, by rw [hmap]; exact h.nod, fun i hi => ⟨(h.chain i hi).1, (h.chain i hi).2.1, fun b => ((h.chain i hi).2.2 b).trans ⟨?_, ?_⟩⟩, ?_, fun x hx => ?_, ?_⟩, hk⟩
  · have e1 : (A ++ { e with vb := vb, v := v } :: B).length = (A ++ e :: B).length := by simp
    rw [e1]
    exact (heap_setCell_other _ _ _ _ _ (tag_ne h.map hee (by decide))).trans h.map
  · rcases hmem x hx with q | rfl
    · exact (h.ent x q.1).other _ q.2
    · exact row_set hee 1 _
  · rcases hmem x hx with q | rfl
    · exact ⟨(h.box x q.1).1.keep hk h.data, (h.box x q.1).2.keep hk h.data⟩
    · exact ⟨(h.box e he).1.keep hk h.data, hb.keep hk h.data⟩
  · rintro ⟨x, x1, x2, x3⟩
    obtain ⟨y, y1, y2, y3⟩ := hmem2 x x1
    exact ⟨y, y1, y2.trans x2, by rw [y3]; exact x3⟩
  · rintro ⟨x, x1, x2, x3⟩
    obtain ⟨y, y1, y2, y3⟩ := hmem3 x x1
    exact ⟨y, y1, y2.trans x2, by rw [y3]; exact x3⟩
  · have := h.fit
    simp at this ⊢
    exact this
  · rcases hmem x hx with q | rfl
    · exact h.key x q.1
    · obtain ⟨q1, q2, q3, q4, _⟩ := h.key e he
      exact ⟨q1, q2, q3, q4, hr⟩
  · have := h.apart
    rw [List.pairwise_append, List.pairwise_cons] at this ⊢
    refine ⟨this.1, ⟨this.2.1.1, this.2.1.2⟩, fun a ha b hb => ?_⟩
    rcases List.mem_cons.1 hb with rfl | hb
    · exact this.2.2 a ha e (by simp)
    · exact this.2.2 a ha b (by simp [hb])
set_option maxRecDepth 100000 in
theorem len_any (h : KM n w m es G) : Calls Tryd.prog 13 #[.pointer (some ⟨m, 0, none⟩)] w fun r w' => r = .returned (.int .i64 es.length) ∧ w' = w := by
  have hcm := h.cell
  have zm := row_ltT h.map
  clear h
  go_enter Tryd.func13, Tryd.ntmps13
  go_wp2_with fail
  go_ret
  exact ⟨rfl, rfl⟩
/-- What Drop answers. -/
def DropP (n : Nat) (w : World) (m : Nat) (es : List Ent) (G : KG) (k : MD) (r : Ending) (w' : World) : Prop :=
  (r = .returned (.tuple #[.bool false, .nilIface]) ∧ (∀ e ∈ es, (MD.eqv n e.k k).1 = false) ∧ Below w.heap.size w w') ∨
  ∃ A e B, es = A ++ e :: B ∧ (MD.eqv n e.k k).1 = true ∧ r = .returned (.tuple #[.bool true, .nilIface]) ∧ ∃ G', KM n w' m (A ++ B) G' ∧ ((∀ b, KM.own m (A ++ B) G' b → KM.own m es G b) ∧ ∀ b, KM.own m es G b → KM.own m (A ++ B) G' b ∨ b = e.b) ∧ KeepS (KM.own m es G) w w' ∧ ∃ nx bf bh, EntAt w' e.b (.pointer (some ⟨e.kb, 0, none⟩)) (.pointer (some ⟨e.vb, 0, none⟩)) e.h nx bf bh true
set_option maxRecDepth 100000 in
set_option maxHeartbeats 4000000 in
theorem drop_good (h : KM n w m es G) (hN : NamesAt w) {k : MD} (hk : MD.In w.heap.size w n k) (hr : MD.right n k = true) (hc : (MD.eqv n k k).2 = ⟨#[]⟩) :
    Calls Tryd.prog 11 #[.pointer (some ⟨m, 0, none⟩), k.val] w (DropP n w m es G k) := by
  have HH : Hid (∀ W, Below w.heap.size w W → Calls Tryd.prog 19 #[k.val] W fun r w' => r = .returned (.tuple #[.int .u64 (MD.hash n seed k), .nilIface]) ∧ Below W.heap.size W w') := fun W hW => Hash_good n k W (hN.kept hW) (hk.later (Nat.le_refl _) hW) hr hc
  have HF : Hid (∀ W, Below w.heap.size w W → Calls Tryd.prog 20 #[.pointer (some ⟨m, 0, none⟩), k.val, .int .u64 (MD.hash n seed k)] W fun r w' => FindP n es k r ∧ Below W.heap.size W w') := fun W hW => find_any n W m es G k _ (hash_ok n k).1 (hash_ok n k).2 (hN.kept hW) (h.keep hW) (hk.later (Nat.le_refl _) hW) hr rfl
  have H : Hid (KM n w m es G) := h
  clear hk hr hc h
  have HFP : Hid (∀ r, FindP n es k r → (r = .returned (.pointer none) ∧ ∀ e ∈ es, (MD.eqv n e.k k).1 = false) ∨ ∃ e ∈ es, r = .returned (.pointer (some ⟨e.b, 0, none⟩)) ∧ (MD.eqv n e.k k).1 = true) := fun r hr => hr
  generalize MD.hash n seed k = hv at HH HF
  have HQ : Hid (∀ r w', DropP n w m es G k r w' → DropP n w m es G k r w') := fun _ _ h => h
  generalize hQ : DropP n w m es G k = Q at HQ ⊢
  have HQ : Hid (DropP n w m es G k = Q) := hQ
  clear hQ
  obtain ⟨⟨k0, k1, k2, k3, k4, k5, k6, k7, k8, kp, kpath, kpc⟩, kip, kic, kit⟩ := k
  simp only [MD.val, D] at HH HF ⊢
  go_enter Tryd.func11, Tryd.ntmps11
  go_wp2_with fail
  refine (HH.out _ (below1 _ _)).mono ?_
  rintro r w1 ⟨rfl, b1⟩
  have hk1 := one_kept _ _ _ b1
  have q1 : Below w.heap.size w w1 := (below1 _ _).trans (b1.mono (by simp))
  have hz1 : w.heap.size < w1.heap.size := by have := b1.size; simp at this; omega
  clear b1
  go_wp2_with fail
  refine (HF.out _ q1).mono ?_
  rintro r w2 ⟨hP, b2⟩
  have q2 : Below w.heap.size w w2 := q1.trans (b2.mono q1.size)
  rcases HFP.out r hP with ⟨rfl, hn⟩ | ⟨e, he, rfl, hq⟩
  · have HN2 : Hid _ := hn
    clear hP hn
    go_wp2_with fail
    show Q (.returned (.tuple #[.bool false, .nilIface])) w2
    rw [← HQ.out]
    exact .inl ⟨rfl, HN2.out, q2⟩
  · obtain ⟨A, B, rfl⟩ := List.append_of_mem he
    have HT : Hid (Calls Tryd.prog 23 #[.pointer (some ⟨m, 0, none⟩), .pointer (some ⟨e.b, 0, none⟩)] w2 (TakeP n w2 m A B e G)) := take_any (H.out.keep q2)
    have HE : Hid _ := hq
    clear hP hq he
    go_wp2_with fail
    refine HT.out.mono ?_
    rintro r w3 ⟨rfl, h3⟩
    have HT3 : Hid (∃ G', KM n w3 m (A ++ B) G' ∧ OwnT m A B e G' G ∧ KeepS (KM.own m (A ++ e :: B) G) w2 w3 ∧ ∃ nx bf bh, EntAt w3 e.b (.pointer (some ⟨e.kb, 0, none⟩)) (.pointer (some ⟨e.vb, 0, none⟩)) e.h nx bf bh true) := h3
    clear h3
    go_wp2_with fail
    show Q (.returned (.tuple #[.bool true, .nilIface])) w3
    rw [← HQ.out]
    obtain ⟨G', g1, g2, g3, g4⟩ := HT3.out
    exact .inr ⟨A, e, B, rfl, HE.out, rfl, G', g1, g2, (Below.keepS _ q2).trans g3, g4⟩
end Go.Proofs.YtflonmlnedkmjaaDoor
namespace Go.Proofs.YtflonmlnedkmjaaDoor
open Go.RowKit
variable {n : Nat} {w w' : World} {m : Nat} {es A B : List Ent} {e : Ent} {G : KG}
/-- What Get answers. -/
def GetP (n : Nat) (w : World) (es : List Ent) (k : MD) (r : Ending) (w' : World) : Prop :=
  (r = .returned (.tuple #[.agg #[.int .i64 0, .string ⟨#[]⟩, .int .i64 0, .int .u64 0, .string ⟨#[]⟩, .int .i64 0, .int .i64 0, .int .i64 0, .int .i64 0, .slice none 0 0, .slice none 0 0], .bool false, .nilIface]) ∧ (∀ e ∈ es, (MD.eqv n e.k k).1 = false) ∧ Below w.heap.size w w') ∨
  ∃ e ∈ es, (MD.eqv n e.k k).1 = true ∧ ∃ d, r = .returned (.tuple #[d.val, .bool true, .nilIface]) ∧ MD.same n e.v d = true ∧ MD.In w'.heap.size w' n d ∧ Below w.heap.size w w'
set_option maxRecDepth 100000 in
set_option maxHeartbeats 4000000 in
theorem get_good (h : KM n w m es G) (hN : NamesAt w) {k : MD} (hk : MD.In w.heap.size w n k) (hr : MD.right n k = true) (hc : (MD.eqv n k k).2 = ⟨#[]⟩) :
    Calls Tryd.prog 12 #[.pointer (some ⟨m, 0, none⟩), k.val] w (GetP n w es k) := by
  have HH : Hid (∀ W, Below w.heap.size w W → Calls Tryd.prog 19 #[k.val] W fun r w' => r = .returned (.tuple #[.int .u64 (MD.hash n seed k), .nilIface]) ∧ Below W.heap.size W w') := fun W hW => Hash_good n k W (hN.kept hW) (hk.later (Nat.le_refl _) hW) hr hc
  have HF : Hid (∀ W, Below w.heap.size w W → Calls Tryd.prog 20 #[.pointer (some ⟨m, 0, none⟩), k.val, .int .u64 (MD.hash n seed k)] W fun r w' => FindP n es k r ∧ Below W.heap.size W w') := fun W hW => find_any n W m es G k _ (hash_ok n k).1 (hash_ok n k).2 (hN.kept hW) (h.keep hW) (hk.later (Nat.le_refl _) hW) hr rfl
  have H : Hid (KM n w m es G) := h
  clear hk hr hc h
  have HFP : Hid (∀ r, FindP n es k r → (r = .returned (.pointer none) ∧ ∀ e ∈ es, (MD.eqv n e.k k).1 = false) ∨ ∃ e ∈ es, r = .returned (.pointer (some ⟨e.b, 0, none⟩)) ∧ (MD.eqv n e.k k).1 = true) := fun r hr => hr
  generalize MD.hash n seed k = hv at HH HF
  have HQ : Hid (∀ r w', GetP n w es k r w' → GetP n w es k r w') := fun _ _ h => h
  generalize hQ : GetP n w es k = Q at HQ ⊢
  have HQ : Hid (GetP n w es k = Q) := hQ
  clear hQ
  obtain ⟨⟨k0, k1, k2, k3, k4, k5, k6, k7, k8, kp, kpath, kpc⟩, kip, kic, kit⟩ := k
  simp only [MD.val, D] at HH HF ⊢
  go_enter Tryd.func12, Tryd.ntmps12
  go_wp2_with fail
  refine (HH.out _ (below2 _ _ _)).mono ?_
  rintro r w1 ⟨rfl, b1⟩
  obtain ⟨hk1, hd1⟩ := two_kept _ _ _ _ b1
  have q1 : Below w.heap.size w w1 := (below2 _ _ _).trans (b1.mono (by simp; omega))
  have hr1 : w1.heap[w.heap.size + 1]? = some (.cells #[.int .i64 0, .string ⟨#[]⟩, .int .i64 0, .int .u64 0, .string ⟨#[]⟩, .int .i64 0, .int .i64 0, .int .i64 0, .int .i64 0, .slice none 0 0, .slice none 0 0] 39 (0, 0)) := (b1.block _ (by simp)).trans (heap2_1 _ _ _)
  have hz1 : w.heap.size + 1 < w1.heap.size := row_ltT hr1
  clear b1
  go_wp2_with fail
  refine (HF.out _ q1).mono ?_
  rintro r w2 ⟨hP, b2⟩
  have q2 : Below w.heap.size w w2 := q1.trans (b2.mono q1.size)
  have hr2 : w2.heap[w.heap.size + 1]? = some (.cells #[.int .i64 0, .string ⟨#[]⟩, .int .i64 0, .int .u64 0, .string ⟨#[]⟩, .int .i64 0, .int .i64 0, .int .i64 0, .int .i64 0, .slice none 0 0, .slice none 0 0] 39 (0, 0)) := (b2.block _ hz1).trans hr1
  have hz2 : w.heap.size + 1 < w2.heap.size := row_ltT hr2
  have hd2 := fun j => row_at hr2 j
  have hf2 := fun j => fz _ _ _ _ j hr2
  clear hk1 hd1 hr1 b2
  rcases HFP.out r hP with ⟨rfl, hn⟩ | ⟨e, he, rfl, hq⟩
  · have HN2 : Hid (∀ e ∈ es, (MD.eqv n e.k ⟨⟨k0, k1, k2, k3, k4, k5, k6, k7, k8, kp, kpath, kpc⟩, kip, kic, kit⟩).1 = false) := hn
    clear hP hn
    go_wp2_with fail
    refine bodyPost_ret (v := .tuple #[.agg #[.int .i64 0, .string ⟨#[]⟩, .int .i64 0, .int .u64 0, .string ⟨#[]⟩, .int .i64 0, .int .i64 0, .int .i64 0, .int .i64 0, .slice none 0 0, .slice none 0 0], .bool false, .nilIface]) (by simp [results, Tryd.results12, go_sem, hd2]) rfl ?_
    rw [← HQ.out]
    exact .inl ⟨rfl, HN2.out, bset q2 (Nat.le_succ _) _ _ _ _ _ _ _ _ _ _ _⟩
  · have hk2 := H.out.keep q2
    have hce := (hk2.ent e he).cell
    have ze := row_ltT (hk2.ent e he)
    have hbx := (hk2.box e he).2
    have hcv : ∀ j, w2.cell? ⟨e.vb, j, none⟩ = e.v.cells[j]? := fun j => row_at hbx.cells j
    have zv := row_ltT hbx.cells
    have HC : Hid (∀ W, Below w2.heap.size w2 W → Calls Tryd.prog 24 #[e.v.val] W (CopyG n e.v W)) := fun W hW => copiedG_any n e.v W (hbx.inn.later (Nat.le_refl _) hW) (right_full (H.out.key e he).2.2.2.2)
    have HE : Hid (e ∈ es ∧ (MD.eqv n e.k ⟨⟨k0, k1, k2, k3, k4, k5, k6, k7, k8, kp, kpath, kpc⟩, kip, kic, kit⟩).1 = true) := ⟨he, hq⟩
    clear hP hq he hk2 hbx
    obtain ⟨eb, ekb, evb, ek, ⟨⟨a0, a1, a2, a3, a4, a5, a6, a7, a8, ap, apath, apc⟩, aip, aic, ait⟩, eh⟩ := e
    simp only [MD.val, MD.cells, D] at hce ze hcv zv HC
    go_wp2_with fail
    refine (HC.out _ (Below.refl _ _)).mono ?_
    rintro r w3 ⟨d', rfl, g1, g2, g3, g4, g5⟩
    have hr3 : w3.heap[w.heap.size + 1]? = some (.cells #[.int .i64 0, .string ⟨#[]⟩, .int .i64 0, .int .u64 0, .string ⟨#[]⟩, .int .i64 0, .int .i64 0, .int .i64 0, .int .i64 0, .slice none 0 0, .slice none 0 0] 39 (0, 0)) := (g4.block _ hz2).trans hr2
    have hz3 : w.heap.size + 1 < w3.heap.size := row_ltT hr3
    have hd3 := fun j => row_at hr3 j
    have hf3 := fun j => fz _ _ _ _ j hr3
    have q3 : Below w.heap.size w w3 := q2.trans (g4.mono q2.size)
    have HD : Hid (MD.In w3.heap.size w3 n d' ∧ MD.Above w2.heap.size n d' ∧ MD.same n (Ent.v ⟨eb, ekb, evb, ek, ⟨⟨a0, a1, a2, a3, a4, a5, a6, a7, a8, ap, apath, apc⟩, aip, aic, ait⟩, eh⟩) d' = true) := ⟨g1, g2, g3⟩
    have HZ : Hid (w.heap.size + 1 < w2.heap.size) := hz2
    clear g1 g2 g3 g4 g5 hr2 hd2 hf2 hz2 hce hcv hr3
    obtain ⟨⟨l0, l1, l2, l3, l4, l5, l6, l7, l8, lp, lpath, lpc⟩, lip, lic, lit⟩ := d'
    simp only [MD.val, D]
    go_wp2_with fail
    refine bodyPost_ret (v := .tuple #[.agg #[.int .i64 l0, .string l1, .int .i64 l2, .int .u64 l3, .string l4, .int .i64 l5, .int .i64 l6, .int .i64 l7, .int .i64 l8, .slice lp lpath.length lpc, .slice lip lit.length lic], .bool true, .nilIface]) (by simp [results, Tryd.results12, go_sem, hd3]) rfl ?_
    rw [← HQ.out]
    refine .inr ⟨_, HE.out.1, HE.out.2, ⟨⟨l0, l1, l2, l3, l4, l5, l6, l7, l8, lp, lpath, lpc⟩, lip, lic, lit⟩, rfl, HD.out.2.2, ?_, bset q3 (Nat.le_succ _) _ _ _ _ _ _ _ _ _ _ _⟩
    exact MD.In.high (lo := w2.heap.size) (eleven_size _ _ _ _ _ _ _ _ _ _ _ _ _) (fun c hc => eleven_only w3 (w.heap.size + 1) c (by have := HZ.out; omega) _ _ _ _ _ _ _ _ _ _ _) n _ HD.out.2.1 HD.out.1
end Go.Proofs.YtflonmlnedkmjaaDoor
namespace Go.Proofs.YtflonmlnedkmjaaDoor
open Go.RowKit
variable {n : Nat} {w w' : World} {m : Nat} {es A B : List Ent} {e : Ent} {G : KG}
/-- What Put leaves. -/
def PutP (n : Nat) (w : World) (m : Nat) (es : List Ent) (G : KG) (k v : MD) (r : Ending) (w' : World) : Prop :=
  r = .returned .nilIface ∧ ∃ es' G', KM n w' m es' G' ∧ (∀ b, KM.own m es' G' b → KM.own m es G b ∨ w.heap.size ≤ b) ∧ KeepS (KM.own m es G) w w' ∧
    ((∃ A e B vb v', es = A ++ e :: B ∧ (MD.eqv n e.k k).1 = true ∧ MD.same n v v' = true ∧ es' = A ++ { e with vb := vb, v := v' } :: B) ∨
     ((∀ e ∈ es, (MD.eqv n e.k k).1 = false) ∧ ∃ e, MD.same n k e.k = true ∧ MD.same n v e.v = true ∧ es' = es ++ [e]))
/-- What Put leaves, and where what it laid down lies. -/
def PutP2 (n : Nat) (w : World) (m : Nat) (es : List Ent) (G : KG) (k v : MD) (r : Ending) (w' : World) : Prop :=
  r = .returned .nilIface ∧ ∃ es' G', KM n w' m es' G' ∧ (∀ b, KM.own m es' G' b → KM.own m es G b ∨ w.heap.size ≤ b) ∧ KeepS (KM.own m es G) w w' ∧
    ((∃ A e B vb v', es = A ++ e :: B ∧ (MD.eqv n e.k k).1 = true ∧ MD.same n v v' = true ∧ MD.Above w.heap.size n v' ∧ es' = A ++ { e with vb := vb, v := v' } :: B) ∨
     ((∀ e ∈ es, (MD.eqv n e.k k).1 = false) ∧ ∃ e, MD.same n k e.k = true ∧ MD.same n v e.v = true ∧ MD.Above w.heap.size n e.k ∧ MD.Above w.heap.size n e.v ∧ es' = es ++ [e]))
set_option maxRecDepth 100000 in
set_option maxHeartbeats 4000000 in
theorem put_good2 (h : KM n w m es G) (hN : NamesAt w) {k v : MD} (hk : MD.In w.heap.size w n k) (hv : MD.In w.heap.size w n v) (hr : MD.right n k = true) (hc : (MD.eqv n k k).2 = ⟨#[]⟩) (hrv : MD.right n v = true) (hlen : es.length < 1099511627776) :
    Calls Tryd.prog 8 #[.pointer (some ⟨m, 0, none⟩), k.val, v.val] w (PutP2 n w m es G k v) := by
  have HR : Hid (∀ W, Below w.heap.size w W → Calls Tryd.prog 18 #[v.val] W fun r w' => r = .returned (.bool true) ∧ Below W.heap.size W w') := fun W hW => by
    have := Right_any n v W (hN.kept hW) (hv.later (Nat.le_refl _) hW)
    rw [hrv] at this
    exact this
  have HH : Hid (∀ W, Below w.heap.size w W → Calls Tryd.prog 19 #[k.val] W fun r w' => r = .returned (.tuple #[.int .u64 (MD.hash n seed k), .nilIface]) ∧ Below W.heap.size W w') := fun W hW => Hash_good n k W (hN.kept hW) (hk.later (Nat.le_refl _) hW) hr hc
  have HF : Hid (∀ W, Below w.heap.size w W → Calls Tryd.prog 20 #[.pointer (some ⟨m, 0, none⟩), k.val, .int .u64 (MD.hash n seed k)] W fun r w' => FindP n es k r ∧ Below W.heap.size W w') := fun W hW => find_any n W m es G k _ (hash_ok n k).1 (hash_ok n k).2 (hN.kept hW) (h.keep hW) (hk.later (Nat.le_refl _) hW) hr rfl
  have HOK : Hid (∀ W, Below w.heap.size w W → Calls Tryd.prog 21 #[k.val] W (OwnP n k W)) := fun W hW => own_any n k W (hk.later (Nat.le_refl _) hW) (right_full hr)
  have HOV : Hid (∀ W, Below w.heap.size w W → Calls Tryd.prog 21 #[v.val] W (OwnP n v W)) := fun W hW => own_any n v W (hv.later (Nat.le_refl _) hW) (right_full hrv)
  have H : Hid (KM n w m es G) := h
  have HFP : Hid (∀ r, FindP n es k r → (r = .returned (.pointer none) ∧ ∀ e ∈ es, (MD.eqv n e.k k).1 = false) ∨ ∃ e ∈ es, r = .returned (.pointer (some ⟨e.b, 0, none⟩)) ∧ (MD.eqv n e.k k).1 = true) := fun r hr => hr
  have HKV : Hid (MD.right n k = true ∧ (MD.eqv n k k).2 = ⟨#[]⟩ ∧ MD.right n v = true) := ⟨hr, hc, hrv⟩
  obtain ⟨hvv, hhv⟩ : ∃ x, x = MD.hash n seed k := ⟨_, rfl⟩
  have HHV : Hid (hvv = MD.hash n seed k) := hhv
  rw [← hhv] at HH HF
  clear hk hr hc h hv hrv hhv
  generalize hQ : PutP2 n w m es G k v = Q
  have HQ : Hid (PutP2 n w m es G k v = Q) := hQ
  clear hQ
  obtain ⟨⟨k0, k1, k2, k3, k4, k5, k6, k7, k8, kp, kpath, kpc⟩, kip, kic, kit⟩ := k
  obtain ⟨⟨v0, v1, v2, v3, v4, v5, v6, v7, v8, vp, vpath, vpc⟩, vip, vic, vit⟩ := v
  simp only [MD.val, D] at HR HH HF HOK HOV ⊢
  go_enter Tryd.func8, Tryd.ntmps8
  go_wp2_with fail
  refine (HR.out _ (below2 _ _ _)).mono ?_
  rintro r w1 ⟨rfl, b1⟩
  obtain ⟨hk1, hv1⟩ := two_kept _ _ _ _ b1
  have q1 : Below w.heap.size w w1 := (below2 _ _ _).trans (b1.mono (by simp; omega))
  have hz1 : w.heap.size + 1 < w1.heap.size := by have := b1.size; simp at this; omega
  clear b1 HR
  go_wp2_with fail
  refine (HH.out _ q1).mono ?_
  rintro r w2 ⟨rfl, b2⟩
  have hk2 := fun j => (b2.cell (p := ⟨w.heap.size, j, none⟩) (by show w.heap.size < _; omega)).trans (hk1 j)
  have hv2 := fun j => (b2.cell (p := ⟨w.heap.size + 1, j, none⟩) hz1).trans (hv1 j)
  have q2 : Below w.heap.size w w2 := q1.trans (b2.mono q1.size)
  have hz2 : w.heap.size + 1 < w2.heap.size := Nat.lt_of_lt_of_le hz1 b2.size
  clear hk1 hv1 hz1 q1 b2 HH
  go_wp2_with fail
  refine (HF.out _ q2).mono ?_
  rintro r w3 ⟨hP, b3⟩
  have hk3 := fun j => (b3.cell (p := ⟨w.heap.size, j, none⟩) (by show w.heap.size < _; omega)).trans (hk2 j)
  have hv3 := fun j => (b3.cell (p := ⟨w.heap.size + 1, j, none⟩) hz2).trans (hv2 j)
  have q3 : Below w.heap.size w w3 := q2.trans (b3.mono q2.size)
  have hz3 : w.heap.size + 1 < w3.heap.size := Nat.lt_of_lt_of_le hz2 b3.size
  have hP' := HFP.out r hP
  clear hk2 hv2 hz2 q2 b3 HF HFP hP
  rcases hP' with ⟨rfl, hn⟩ | ⟨e, he, rfl, hq⟩
  · have HN3 : Hid (∀ e ∈ es, (MD.eqv n e.k ⟨⟨k0, k1, k2, k3, k4, k5, k6, k7, k8, kp, kpath, kpc⟩, kip, kic, kit⟩).1 = false) := hn
    clear hn
    go_wp2_with fail
    refine wp_region_noPanic ?_
    refine wp_region_held (S := fun W => (∀ j, W.cell? ⟨w.heap.size, j, none⟩ = (#[.int .i64 k0, .string k1, .int .i64 k2, .int .u64 k3, .string k4, .int .i64 k5, .int .i64 k6, .int .i64 k7, .int .i64 k8, .slice kp kpath.length kpc, .slice kip kit.length kic] : Array Value)[j]?) ∧ ∀ j, W.cell? ⟨w.heap.size + 1, j, none⟩ = (#[.int .i64 v0, .string v1, .int .i64 v2, .int .u64 v3, .string v4, .int .i64 v5, .int .i64 v6, .int .i64 v7, .int .i64 v8, .slice vp vpath.length vpc, .slice vip vit.length vic] : Array Value)[j]?) (by kernel_rfl) ?_
    obtain ⟨V0, hV0⟩ : ∃ W4, W4 = (w3).drew := ⟨_, rfl⟩
    have e4 : ({ w3 with drawn := (w3).drawn + 1 } : World) = V0 := hV0.symm
    rw [e4]
    have hB4 : Below (w3).heap.size (w3) V0 := by rw [hV0]; exact (Below.refl _ _).drew
    have hS : (∀ j, V0.cell? ⟨w.heap.size, j, none⟩ = (#[.int .i64 k0, .string k1, .int .i64 k2, .int .u64 k3, .string k4, .int .i64 k5, .int .i64 k6, .int .i64 k7, .int .i64 k8, .slice kp kpath.length kpc, .slice kip kit.length kic] : Array Value)[j]?) ∧ ∀ j, V0.cell? ⟨w.heap.size + 1, j, none⟩ = (#[.int .i64 v0, .string v1, .int .i64 v2, .int .u64 v3, .string v4, .int .i64 v5, .int .i64 v6, .int .i64 v7, .int .i64 v8, .slice vp vpath.length vpc, .slice vip vit.length vic] : Array Value)[j]? := ⟨fun j => (hB4.cell (p := ⟨w.heap.size, j, none⟩) (by show w.heap.size < _; omega)).trans (hk3 j), fun j => (hB4.cell (p := ⟨w.heap.size + 1, j, none⟩) hz3).trans (hv3 j)⟩
    have HV0 : Hid (V0 = (w3).drew) := hV0
    clear e4 hV0
    refine wpAnyH_take (i := 0) (v := .pointer (some ⟨m, 0, none⟩)) rfl (by kernel_rfl) (by kernel_rfl) (by kernel_rfl) (fun _ _ _ h => h) (Or.inl ⟨by rfl, ?r⟩) hS ?_
    case r => intro W hW; simp [go_sem, execOp, Act.eval]
    simp only [List.getElem_toArray, List.getElem_cons_zero, Act.put, List.setIfInBounds_toArray, List.set_cons_succ, List.set_cons_zero]
    refine wpAnyH_take (i := 1) (v := .agg #[.int .i64 k0, .string k1, .int .i64 k2, .int .u64 k3, .string k4, .int .i64 k5, .int .i64 k6, .int .i64 k7, .int .i64 k8, .slice kp kpath.length kpc, .slice kip kit.length kic]) rfl (by kernel_rfl) (by kernel_rfl) (by kernel_rfl) (fun _ _ _ h => h) (Or.inl ⟨by rfl, ?r⟩) hS ?_
    case r => intro W hW; simp [go_sem, execOp, Act.eval, hW.1]
    simp only [List.getElem_toArray, List.getElem_cons_zero, List.getElem_cons_succ, Act.put, List.setIfInBounds_toArray, List.set_cons_succ, List.set_cons_zero]
    refine wpAnyH_take (i := 3) (v := .agg #[.int .i64 v0, .string v1, .int .i64 v2, .int .u64 v3, .string v4, .int .i64 v5, .int .i64 v6, .int .i64 v7, .int .i64 v8, .slice vp vpath.length vpc, .slice vip vit.length vic]) rfl (by kernel_rfl) (by kernel_rfl) (by kernel_rfl) (fun _ _ _ h => h) (Or.inl ⟨by rfl, ?r⟩) hS ?_
    case r => intro W hW; simp [go_sem, execOp, Act.eval, hW.2]
    simp only [List.getElem_toArray, List.getElem_cons_zero, List.getElem_cons_succ, Act.put, List.setIfInBounds_toArray, List.set_cons_succ, List.set_cons_zero]
    refine wpAnyH_take (i := 6) (v := .int .u64 hvv) rfl (by kernel_rfl) (by kernel_rfl) (by kernel_rfl) (fun _ _ _ h => h) (Or.inl ⟨by rfl, ?r⟩) hS ?_
    case r => intro W hW; simp [go_sem, execOp, Act.eval]
    simp only [List.getElem_toArray, List.getElem_cons_zero, List.getElem_cons_succ, Act.put, List.setIfInBounds_toArray, List.set_cons_succ, List.set_cons_zero]
    have q0 : Below w.heap.size w V0 := q3.trans (hB4.mono q3.size)
    have z0 : w.heap.size + 1 < V0.heap.size := Nat.lt_of_lt_of_le hz3 hB4.size
    clear hk3 hv3 hz3 HV0
    refine wpAnyH_all (rs := [2]) (by kernel_rfl) (by simp) (fun i2 hi2 => ?_)
    obtain rfl : i2 = 2 := by simpa using hi2
    clear hi2
    refine wpOp_step rfl (fun K hK => ite_yes rfl ?_)
    simp only [List.getElem_toArray, List.getElem_cons_zero, List.getElem_cons_succ]
    go_simp
    refine (HOK.out _ q0).mono ?_
    rintro r w4 ⟨kb, k', rfl, hkb, kbox, ksame, b4, kab⟩
    have q4 : Below w.heap.size w w4 := q0.trans (b4.mono q0.size)
    have z4 : w.heap.size + 1 < w4.heap.size := Nat.lt_of_lt_of_le z0 b4.size
    go_simp
    have hSw4 : (∀ j, w4.cell? ⟨w.heap.size, j, none⟩ = (#[.int .i64 k0, .string k1, .int .i64 k2, .int .u64 k3, .string k4, .int .i64 k5, .int .i64 k6, .int .i64 k7, .int .i64 k8, .slice kp kpath.length kpc, .slice kip kit.length kic] : Array Value)[j]?) ∧ ∀ j, w4.cell? ⟨w.heap.size + 1, j, none⟩ = (#[.int .i64 v0, .string v1, .int .i64 v2, .int .u64 v3, .string v4, .int .i64 v5, .int .i64 v6, .int .i64 v7, .int .i64 v8, .slice vp vpath.length vpc, .slice vip vit.length vic] : Array Value)[j]? := ⟨fun j => (b4.cell (p := ⟨w.heap.size, j, none⟩) (by show w.heap.size < _; omega)).trans (hS.1 j), fun j => (b4.cell (p := ⟨w.heap.size + 1, j, none⟩) (by show w.heap.size + 1 < _; omega)).trans (hS.2 j)⟩
    refine hK _ _ ⟨hSw4, ?_⟩
    clear hK K hS
    have hS := hSw4
    clear hSw4
    try simp only [Act.put, List.setIfInBounds_toArray, List.set_cons_succ, List.set_cons_zero]
    refine wpAnyH_all (rs := [4]) (by kernel_rfl) (by simp) (fun i2 hi2 => ?_)
    obtain rfl : i2 = 4 := by simpa using hi2
    clear hi2
    refine wpOp_step rfl (fun K hK => ite_yes rfl ?_)
    simp only [List.getElem_toArray, List.getElem_cons_zero, List.getElem_cons_succ]
    go_simp
    refine (HOV.out _ q4).mono ?_
    rintro r w5 ⟨vb, v', rfl, hvb, vbox, vsame, b5, vab⟩
    have q5 : Below w.heap.size w w5 := q4.trans (b5.mono q4.size)
    have z5 : w.heap.size + 1 < w5.heap.size := Nat.lt_of_lt_of_le z4 b5.size
    have kbox5 : Box w5 n kb k' := kbox.keep (Below.keepS (fun _ => False) b5) (fun _ _ _ _ _ h => h)
    go_simp
    have hSw5 : (∀ j, w5.cell? ⟨w.heap.size, j, none⟩ = (#[.int .i64 k0, .string k1, .int .i64 k2, .int .u64 k3, .string k4, .int .i64 k5, .int .i64 k6, .int .i64 k7, .int .i64 k8, .slice kp kpath.length kpc, .slice kip kit.length kic] : Array Value)[j]?) ∧ ∀ j, w5.cell? ⟨w.heap.size + 1, j, none⟩ = (#[.int .i64 v0, .string v1, .int .i64 v2, .int .u64 v3, .string v4, .int .i64 v5, .int .i64 v6, .int .i64 v7, .int .i64 v8, .slice vp vpath.length vpc, .slice vip vit.length vic] : Array Value)[j]? := ⟨fun j => (b5.cell (p := ⟨w.heap.size, j, none⟩) (by show w.heap.size < _; omega)).trans (hS.1 j), fun j => (b5.cell (p := ⟨w.heap.size + 1, j, none⟩) (by show w.heap.size + 1 < _; omega)).trans (hS.2 j)⟩
    refine hK _ _ ⟨hSw5, ?_⟩
    clear hK K hS
    have hS := hSw5
    clear hSw5
    try simp only [Act.put, List.setIfInBounds_toArray, List.set_cons_succ, List.set_cons_zero]
    refine wpAnyH_take (i := 5) (v := .agg #[.pointer (some ⟨kb, 0, none⟩), .pointer (some ⟨vb, 0, none⟩)]) rfl (by kernel_rfl) (by kernel_rfl) (by kernel_rfl) (fun _ _ _ h => h) (Or.inl ⟨by rfl, ?r⟩) hS ?_
    case r => intro W hW; simp [go_sem, execOp, Act.eval]
    simp only [List.getElem_toArray, List.getElem_cons_zero, List.getElem_cons_succ, Act.put, List.setIfInBounds_toArray, List.set_cons_succ, List.set_cons_zero]
    refine wpAnyH_take (i := 7) (v := .agg #[.pointer (some ⟨kb, 0, none⟩), .pointer (some ⟨vb, 0, none⟩), .int .u64 hvv, .pointer none, .pointer none, .pointer none, .bool false]) rfl (by kernel_rfl) (by kernel_rfl) (by kernel_rfl) (fun _ _ _ h => h) (Or.inl ⟨by rfl, ?r⟩) hS ?_
    case r => intro W hW; simp [go_sem, execOp, Act.eval]
    simp only [List.getElem_toArray, List.getElem_cons_zero, List.getElem_cons_succ, Act.put, List.setIfInBounds_toArray, List.set_cons_succ, List.set_cons_zero]
    have HKX : Hid (Box w5 n kb k' ∧ Box w5 n vb v' ∧ MD.same n ⟨⟨k0, k1, k2, k3, k4, k5, k6, k7, k8, kp, kpath, kpc⟩, kip, kic, kit⟩ k' = true ∧ MD.same n ⟨⟨v0, v1, v2, v3, v4, v5, v6, v7, v8, vp, vpath, vpc⟩, vip, vic, vit⟩ v' = true ∧ w.heap.size ≤ w5.heap.size) := ⟨kbox5, vbox, ksame, vsame, q5.size⟩
    have HAB : Hid (MD.Above w.heap.size n k' ∧ MD.Above w.heap.size n v') := ⟨MD.Above.mono q0.size n _ kab, MD.Above.mono q4.size n _ vab⟩
    clear kab vab kbox kbox5 vbox ksame vsame hkb hvb b4 b5 q4 z4 hB4 q0 z0
    refine wpAnyH_all (rs := [8]) (by kernel_rfl) (by simp) (fun i2 hi2 => ?_)
    obtain rfl : i2 = 8 := by simpa using hi2
    clear hi2
    refine wpOp_step rfl (fun K hK => ite_yes rfl ?_)
    simp only [List.getElem_toArray, List.getElem_cons_zero, List.getElem_cons_succ]
    go_simp
    obtain ⟨w6, hw6⟩ : ∃ w6, w6 = w5.alloc (.cells #[.pointer (some ⟨kb, 0, none⟩), .pointer (some ⟨vb, 0, none⟩), .int .u64 hvv, .pointer none, .pointer none, .pointer none, .bool false] 62) := ⟨_, rfl⟩
    have b6 : Below w5.heap.size w5 w6 := by rw [hw6]; exact below1 _ _
    have h6 : w6.heap[w5.heap.size]? = some (.cells #[.pointer (some ⟨kb, 0, none⟩), .pointer (some ⟨vb, 0, none⟩), .int .u64 hvv, .pointer none, .pointer none, .pointer none, .bool false] 62 (0, 0)) := by rw [hw6]; exact heap_alloc_new _ _
    rw [← hw6]
    clear hw6
    have q6 : Below w.heap.size w w6 := q5.trans (b6.mono q5.size)
    have z6 : w.heap.size + 1 < w6.heap.size := Nat.lt_of_lt_of_le z5 b6.size
    have hSw6 : (∀ j, w6.cell? ⟨w.heap.size, j, none⟩ = (#[.int .i64 k0, .string k1, .int .i64 k2, .int .u64 k3, .string k4, .int .i64 k5, .int .i64 k6, .int .i64 k7, .int .i64 k8, .slice kp kpath.length kpc, .slice kip kit.length kic] : Array Value)[j]?) ∧ ∀ j, w6.cell? ⟨w.heap.size + 1, j, none⟩ = (#[.int .i64 v0, .string v1, .int .i64 v2, .int .u64 v3, .string v4, .int .i64 v5, .int .i64 v6, .int .i64 v7, .int .i64 v8, .slice vp vpath.length vpc, .slice vip vit.length vic] : Array Value)[j]? := ⟨fun j => (b6.cell (p := ⟨w.heap.size, j, none⟩) (by show w.heap.size < _; omega)).trans (hS.1 j), fun j => (b6.cell (p := ⟨w.heap.size + 1, j, none⟩) (by show w.heap.size + 1 < _; omega)).trans (hS.2 j)⟩
    refine hK _ _ ⟨hSw6, ?_⟩
    clear hK K hS
    have hS := hSw6
    clear hSw6
    try simp only [Act.put, List.setIfInBounds_toArray, List.set_cons_succ, List.set_cons_zero]
    have HLY : Hid (Calls Tryd.prog 22 #[.pointer (some ⟨m, 0, none⟩), .pointer (some ⟨w5.heap.size, 0, none⟩)] w6 (LayP n w6 m es G ⟨w5.heap.size, kb, vb, k', v', hvv⟩)) := by
      have hkm := H.out.keep q6
      have hsz : ∀ {b : Nat} {o : Obj}, w.heap[b]? = some o → b ≠ w5.heap.size := fun hb q => by
        have := row_ltT hb
        have := HKX.out.2.2.2.2
        omega
      refine lay_any hkm ⟨h6, ⟨HKX.out.1.keep (Below.keepS (fun _ => False) b6) (fun _ _ _ _ _ h => h), HKX.out.2.1.keep (Below.keepS (fun _ => False) b6) (fun _ _ _ _ _ h => h)⟩, ?_, fun x hx => ?_, (hsz H.out.ring).symm, fun q => ?_⟩ hlen
      · refine ⟨by rw [← same_right n _ _ HKX.out.2.2.1]; exact HKV.out.1, by rw [← same_eqv n _ _ _ _ HKX.out.2.2.1 HKX.out.2.2.1]; exact HKV.out.2.1, ?_, ?_, by rw [← same_right n _ _ HKX.out.2.2.2.1]; exact HKV.out.2.2⟩
        · show hvv = _
          rw [HHV.out]
          exact same_hash n seed _ _ HKX.out.2.2.1
        · show 0 ≤ hvv ∧ hvv < _
          rw [HHV.out]
          exact hash_ok n _
      · show (MD.eqv n x.k k').1 = false
        rw [← same_eqv n _ _ _ _ (same_self n x.k) HKX.out.2.2.1]
        exact HN3.out x hx
      · obtain ⟨x, hx, hxb⟩ := List.mem_map.1 q
        exact hsz (H.out.ent x hx) hxb
    refine wpAnyH_all (rs := [9]) (by kernel_rfl) (by simp) (fun i2 hi2 => ?_)
    obtain rfl : i2 = 9 := by simpa using hi2
    clear hi2
    refine wpOp_step rfl (fun K hK => ite_yes rfl ?_)
    simp only [List.getElem_toArray, List.getElem_cons_zero, List.getElem_cons_succ]
    go_simp
    refine HLY.out.mono ?_
    rintro r w7 ⟨rfl, G7, km7, o7, s7⟩
    have HS7 : Hid (KeepS (fun b => KM.own m es G b ∨ b = w5.heap.size) w6 w7) := s7
    have H7 : Hid (KM n w7 m (es ++ [⟨w5.heap.size, kb, vb, k', v', hvv⟩]) G7 ∧ (∀ b, KM.own m (es ++ [⟨w5.heap.size, kb, vb, k', v', hvv⟩]) G7 b → KM.own m es G b ∨ b = w5.heap.size ∨ w6.heap.size ≤ b)) := ⟨km7, o7⟩
    go_simp
    have hno : ∀ b, (b = w.heap.size ∨ b = w.heap.size + 1) → ¬ (KM.own m es G b ∨ b = w5.heap.size) := fun b hb ho => by
      rcases ho with ho | ho
      · obtain ⟨c, t, hc, _⟩ := H.out.tag ho
        have := row_ltT hc
        omega
      · omega
    have hS7 : (∀ j, w7.cell? ⟨w.heap.size, j, none⟩ = (#[.int .i64 k0, .string k1, .int .i64 k2, .int .u64 k3, .string k4, .int .i64 k5, .int .i64 k6, .int .i64 k7, .int .i64 k8, .slice kp kpath.length kpc, .slice kip kit.length kic] : Array Value)[j]?) ∧ ∀ j, w7.cell? ⟨w.heap.size + 1, j, none⟩ = (#[.int .i64 v0, .string v1, .int .i64 v2, .int .u64 v3, .string v4, .int .i64 v5, .int .i64 v6, .int .i64 v7, .int .i64 v8, .slice vp vpath.length vpc, .slice vip vit.length vic] : Array Value)[j]? := ⟨fun j => (World.cell?_of_block (a := ⟨w.heap.size, j, none⟩) (s7.block w.heap.size (by omega) (hno _ (.inl rfl)))).trans (hS.1 j), fun j => (World.cell?_of_block (a := ⟨w.heap.size + 1, j, none⟩) (s7.block (w.heap.size + 1) (by omega) (hno _ (.inr rfl)))).trans (hS.2 j)⟩
    refine hK _ _ ⟨hS7, ?_⟩
    clear hK K hS hS7 s7 km7 o7
    refine wpAnyH_done (by kernel_rfl) ?_ _
    refine NoPanic.normal ?_
    try simp only [Act.put]
    go_wp2_with fail
    show Q (.returned .nilIface) _
    rw [← HQ.out]
    have hsz5 := HKX.out.2.2.2.2
    refine ⟨rfl, _, G7, H7.out.1, fun b hb => ?_, ?_, .inr ⟨HN3.out, _, HKX.out.2.2.1, HKX.out.2.2.2.1, HAB.out.1, HAB.out.2, rfl⟩⟩
    · rcases H7.out.2 b hb with h | h | h
      · exact .inl h
      · exact .inr (by omega)
      · exact .inr (by omega)
    · refine ((Below.keepS (fun b => KM.own m es G b ∨ b = w5.heap.size) q6).trans HS7.out).mono fun b hb hh => ?_
      rcases hh with hh | hh
      · exact hh
      · omega
  · obtain ⟨A, B, hAB⟩ := List.append_of_mem he
    have HE : Hid ((MD.eqv n e.k ⟨⟨k0, k1, k2, k3, k4, k5, k6, k7, k8, kp, kpath, kpc⟩, kip, kic, kit⟩).1 = true ∧ es = A ++ e :: B) := ⟨hq, hAB⟩
    have hk4 := H.out.keep q3
    have hce := (hk4.ent e he).cell
    have ze := row_ltT (hk4.ent e he)
    have hfe := fun j => fz _ _ _ _ j (hk4.ent e he)
    clear hq hAB hk4 he
    go_wp2_with fail
    refine (HOV.out _ q3).mono ?_
    rintro r w4 ⟨vb, v', rfl, hvb, hbox, hsame, b4, hab⟩
    have hce4 := fun j => (b4.cell (p := ⟨e.b, j, none⟩) ze).trans (hce j)
    have hfe4 := fun j => (World.frozen?_of_block (a := ⟨e.b, j, none⟩) (b4.block _ ze)).trans (hfe j)
    have ze4 : e.b < w4.heap.size := Nat.lt_of_lt_of_le ze b4.size
    have q4 : Below w.heap.size w w4 := q3.trans (b4.mono q3.size)
    have HX : Hid (Box w4 n vb v' ∧ MD.same n ⟨⟨v0, v1, v2, v3, v4, v5, v6, v7, v8, vp, vpath, vpc⟩, vip, vic, vit⟩ v' = true ∧ MD.Above w.heap.size n v') := ⟨hbox, hsame, MD.Above.mono q3.size n _ hab⟩
    clear hce hfe ze hk3 hv3 hz3 hbox hsame b4 q3 hvb hab
    go_wp2_with fail
    show Q (.returned .nilIface) _
    rw [← HQ.out]
    have hk5 := H.out.keep q4
    rw [HE.out.2] at hk5
    obtain ⟨g1, g2⟩ := hk5.reheld HX.out.1 (by rw [← same_right n _ _ HX.out.2.1]; exact HKV.out.2.2)
    refine ⟨rfl, _, G, g1, fun b hb => .inl ?_, ?_, .inl ⟨A, e, B, vb, v', HE.out.2, HE.out.1, HX.out.2.1, HX.out.2.2, rfl⟩⟩
    · rw [HE.out.2]
      rcases hb with hb | hb | hb | hb
      · exact .inl hb
      · exact .inr (.inl hb)
      · exact .inr (.inr (.inl hb))
      · refine .inr (.inr (.inr ?_))
        simpa using hb
    · rw [HE.out.2]
      exact (Below.keepS _ q4).trans g2
theorem put_good (h : KM n w m es G) (hN : NamesAt w) {k v : MD} (hk : MD.In w.heap.size w n k) (hv : MD.In w.heap.size w n v) (hr : MD.right n k = true) (hc : (MD.eqv n k k).2 = ⟨#[]⟩) (hrv : MD.right n v = true) (hlen : es.length < 1099511627776) :
    Calls Tryd.prog 8 #[.pointer (some ⟨m, 0, none⟩), k.val, v.val] w (PutP n w m es G k v) :=
  (put_good2 h hN hk hv hr hc hrv hlen).mono fun _ _ ⟨h1, es', G', h2, h3, h4, h5⟩ => ⟨h1, es', G', h2, h3, h4, by
    rcases h5 with ⟨A, e, B, vb, v', q1, q2, q3, _, q5⟩ | ⟨q1, e, q2, q3, _, _, q4⟩
    · exact .inl ⟨A, e, B, vb, v', q1, q2, q3, q5⟩
    · exact .inr ⟨q1, e, q2, q3, q4⟩⟩
end Go.Proofs.YtflonmlnedkmjaaDoor
