/-
  guiselaw2.twin: what is marked behind each list of a tree in new memory.
  What tree.Right finds of a tree it finds of its twin.
-/
import Derived.Test.YthbnegggohegkaaGreatDoorAs
import Derived.Test.YthbnegggohegkaaGreatDoorLpJ
namespace Go.Proofs.YthbnegggohegkaaGreatDoor
open Go.RowKit

namespace MT
mutual
/-- Behind each list of Kids stand the two marks. -/
def Mk (ok : Nat → Prop) (w : World) : MT → Prop
  | node _ _ _ _ p c ks => (∃ g, p = some ⟨g, 0, none⟩ ∧ ok g ∧ c = ks.length + 2 ∧ w.cell? ⟨g, ks.length * 5, none⟩ = some (.int .i64 77) ∧ w.cell? ⟨g, (ks.length + 1) * 5, none⟩ = some (.int .i64 78)) ∧ MkL ok w ks
def MkL (ok : Nat → Prop) (w : World) : List MT → Prop
  | [] => True
  | t :: ts => Mk ok w t ∧ MkL ok w ts
end
mutual
theorem Mk.keep {ok ok' : Nat → Prop} {w w' : World} (ho : ∀ b, ok b → ok' b) (hc : ∀ k o, ok k → w'.cell? ⟨k, o, none⟩ = w.cell? ⟨k, o, none⟩) : ∀ (t : MT), Mk ok w t → Mk ok' w' t
  | node _ s _ _ p c ks, h => by
    rw [Mk] at h ⊢
    obtain ⟨⟨g, h1, h2, h3, h4, h5⟩, h6⟩ := h
    exact ⟨⟨g, h1, ho g h2, h3, (hc g _ h2).trans h4, (hc g _ h2).trans h5⟩, MkL.keep ho hc ks h6⟩
theorem MkL.keep {ok ok' : Nat → Prop} {w w' : World} (ho : ∀ b, ok b → ok' b) (hc : ∀ k o, ok k → w'.cell? ⟨k, o, none⟩ = w.cell? ⟨k, o, none⟩) : ∀ (ts : List MT), MkL ok w ts → MkL ok' w' ts
  | [], _ => by rw [MkL]; trivial
  | t :: ts, h => by
    rw [MkL] at h ⊢
    exact ⟨Mk.keep ho hc t h.1, MkL.keep ho hc ts h.2⟩
end
theorem MkL.mk {ok : Nat → Prop} {w : World} : ∀ {ts : List MT}, (∀ x ∈ ts, Mk ok w x) → MkL ok w ts
  | [], _ => by rw [MkL]; trivial
  | t :: ts, h => by rw [MkL]; exact ⟨h t (by simp), MkL.mk fun x hx => h x (by simp [hx])⟩
theorem MkL.get {ok : Nat → Prop} {w : World} : ∀ {ts : List MT}, MkL ok w ts → ∀ x ∈ ts, Mk ok w x
  | [], _, x, hx => by cases hx
  | t :: ts, h, x, hx => by
    rw [MkL] at h
    rcases List.mem_cons.1 hx with rfl | hx
    · exact h.1
    · exact MkL.get h.2 x hx
/-- A tree in memory of its own, marked. -/
def AM (ok : Nat → Prop) (w : World) (t : MT) : Prop := At ok w t ∧ Mk ok w t
theorem AM.keep {ok ok' : Nat → Prop} {w w' : World} (ho : ∀ b, ok b → ok' b) (hc : ∀ k o, ok k → w'.cell? ⟨k, o, none⟩ = w.cell? ⟨k, o, none⟩) (t : MT) (h : AM ok w t) : AM ok' w' t := ⟨At.keep ho hc t h.1, Mk.keep ho hc t h.2⟩
end MT

/-- What holds between two rounds of twin. -/
structure TwRelM (t : MT) (g : Nat) (W2 : World) (k : Nat) (ts : List MT) (rest : List Value) (wr : World) : Prop where
  own : wr.ownsRow g 24 5 (.slice (some ⟨g, 0, none⟩) (t.kids.length + 2) (t.kids.length + 2)) (t.kids.length + 2) (nodesL ts ++ rest)
  rest : rest.length = (t.kids.length + 2 - k) * 5
  tw : MT.twinL (t.kids.take k) ts
  mem : ∀ x ∈ ts, x.AM (fun b => g < b ∧ b < wr.heap.size) wr
  below : Below g W2 wr

set_option maxRecDepth 100000 in
set_option maxHeartbeats 2000000 in
theorem twinM_any (N : Nat) (hN0 : N ≤ 30000) : ∀ (t : MT) (w : World), t.size ≤ N → t.In w.heap.size w →
    Calls Tryz.prog 12 #[nodeV t] w fun e w' => ∃ t' : MT, e = .returned (nodeV t') ∧ Hid (MT.twin t t') ∧ Hid (t'.AM (fun b => w.heap.size ≤ b ∧ b < w'.heap.size) w') ∧ Hid (∃ (g : Nat) (cur : Array Value), t'.ptr = some ⟨g, 0, none⟩ ∧ w.heap.size ≤ g ∧ w'.heap[g]? = some (.cells cur 24 (0, 0)) ∧ cur.size = (t'.kids.length + 2) * 5 ∧ t'.cap = t'.kids.length + 2) ∧ Below w.heap.size w w' := by
  induction N with
  | zero => intro t w h; have := t.size_pos; omega
  | succ N ih =>
    intro t w hN hin
    have HI : Hid _ := ih (by omega)
    clear ih
    have hkl : t.kids.length ≤ 30000 := by
      have h1 := MT.size_eq t
      have h2 := MT.length_le_sizeL t.kids
      omega
    obtain ⟨i0, hi, hz0, hz1, hz2⟩ := info_parts info24
    obtain ⟨L, hL⟩ : ∃ L, L = t.kids.length + 2 := ⟨_, rfl⟩
    have hLc : ((L : Nat) : Int) = (t.kids.length : Int) + 2 := by rw [hL]; simp
    obtain ⟨M, hM⟩ : ∃ M, M = madeCells (Value.agg #[.int .i64 0, .string ⟨#[]⟩, .int .i64 0, .int .i64 0, .slice none 0 0]).cells (((L : Nat) : Int).toNat * i0.size) := ⟨_, rfl⟩
    have hMs : M.size = (t.kids.length + 2) * 5 := by rw [hM, size_madeCells, hz1, Int.toNat_natCast, hL]
    have hmk : ∀ W : World, (Instr.makeSlice 22 (.int .i64 ((t.kids.length : Int) + 2)) (.int .i64 ((t.kids.length : Int) + 2))).run Tryz.prog W = .ok (.slice (some ⟨W.heap.size, 0, none⟩) (t.kids.length + 2) (t.kids.length + 2)) (W.alloc (.cells M 24)) := fun W => by
      have h := run_make (P := Tryz.prog) W 22 24 i0 _ Tryz.underlying22 hi hz0 .i64 .i64 ((L : Nat) : Int) ((L : Nat) : Int) (by omega) (by omega) (by rw [hz2]; omega) (by omega)
      rw [← hM, Int.toNat_natCast, hLc, hL] at h
      exact h
    clear hM hLc hL
    have HR0 : Hid (TwRelM t (w.heap.size + 2) ((w.alloc (nodeO t)).alloc zeroO) 0 [] M.toList (((w.alloc (nodeO t)).alloc zeroO).alloc (.cells M 24))) := by
      refine ⟨⟨by simp [nodesL, hMs], .inr ⟨_, _, M, rfl, Nat.le_refl _, ?_, Nat.le_refl _, by unfold maxLen; omega, hMs, ?_⟩⟩, by simp [hMs], (by rw [List.take_zero, MT.twinL]), (fun x hx => by cases hx), ?_⟩
      · have := heap_alloc_new ((w.alloc (nodeO t)).alloc zeroO) (.cells M 24)
        rwa [World.size_alloc, World.size_alloc] at this
      · rw [List.take_of_length_le (by rw [Array.length_toList]; omega)]; simp [nodesL]
      · exact (Below.refl _ _).alloc (by simp) _
    have HB2 : Hid (BoxAt ((w.alloc (nodeO t)).alloc zeroO) w.heap.size t) := (BoxAt.new w t).below (B := w.heap.size + 1) (by omega) ((Below.refl _ _).alloc (by simp) _)
    have HW2 : Hid (Below w.heap.size w ((w.alloc (nodeO t)).alloc zeroO)) := below2 w _ _
    have hz2' : ((w.alloc (nodeO t)).alloc zeroO).heap.size = w.heap.size + 2 := by simp
    go_enter Tryz.func12, Tryz.ntmps12
    go_wp2_with fail
    have HIN : Hid (t.In w.heap.size w) := hin
    have hcap := hin.cap_le
    have hlc := hin.len_le
    unfold maxLen at hcap
    have HSE : Hid (t.size ≤ N + 1) := hN
    clear hin hmk hMs hi hz0 hz1 hz2 hN
    obtain ⟨W2, hW2⟩ : ∃ W2, W2 = ((w.alloc (nodeO t)).alloc zeroO) := ⟨_, rfl⟩
    rw [← hW2] at HR0 HB2 HW2 hz2' ⊢
    go_loopw [4] (fun i wr => ∃ (k : Nat) (ts : List MT) (rest : List Value), k ≤ t.kids.length ∧ i = .int .i64 k ∧ Hid (TwRelM t (w.heap.size + 2) W2 k ts rest wr)) (fun i _ => t.kids.length - (intOf i).toNat)
    case atStart => exact ⟨0, [], _, Nat.zero_le _, rfl, HR0⟩
    case round =>
      obtain ⟨k, ts, rest, hk, rfl, HR⟩ := hrel
      rename_i Kx hKx
      have HKX : Hid _ := hKx
      clear HR0 hKx
      have hbz := HR.out.below.size
      have k4 := (HB2.out.below (B := w.heap.size + 2) (by omega) HR.out.below).k4
      have HBW : Hid (Below w.heap.size w wr) := HW2.out.trans (HR.out.below.mono (by omega))
      have hrl := HR.out.rest
      have hgl : w.heap.size + 2 < wr.heap.size := (HR.out.own.lt _ rfl).2
      by_cases hkl' : k < t.kids.length
      · obtain ⟨b, o, hp, hbB, hL⟩ : ∃ b o, t.ptr = some ⟨b, o, none⟩ ∧ b < w.heap.size ∧ MT.InL w.heap.size wr b o t.kids := by
          rcases (MT.In.below HBW.out t HIN.out).kidsL with h | h
          · rw [h] at hkl'; simp at hkl'
          · exact h
        rw [hp] at k4
        clear hp
        obtain ⟨hC, hIk⟩ := hL.get k hkl'
        have HSZ : Hid ((t.kids[k]).size ≤ N) := by
          have h1 := MT.sizeL_take_succ t.kids k hkl'
          have h2 := MT.sizeL_take_le t.kids (k + 1)
          have h3 := t.size_eq
          have h4 := HSE.out
          show _ ≤ _
          omega
        have HTK : Hid (t.kids.take (k + 1) = t.kids.take k ++ [t.kids[k]]) := by show _ = _; rw [List.take_append_getElem hkl']
        generalize t.kids[k] = kid at hC hIk HSZ HTK
        obtain ⟨c0, c1, c2, c3, c4⟩ := hC
        have HK : Hid (kid.In wr.heap.size wr) := MT.In.mono (by omega) _ hIk
        clear hL hIk
        have hbB' : b < wr.heap.size := by omega
        have hr5 : 5 ≤ rest.length := by omega
        obtain ⟨z0, z1, z2, z3, z4, R, hR5⟩ := five_of hr5
        subst hR5
        have htl : ts.length = k := by have := MT.twinL_length HR.out.tw; rw [this, List.length_take]; omega
        have hnl : (nodesL ts).length = k * 5 := by rw [nodesL_length, htl]
        go_wp2_with (go_at_call 12; refine (HI.out kid wr HSZ.out HK.out).mono ?_; rintro e w2 ⟨t1, rfl, HT1, HA1, _, hb2⟩; have hz2w := hb2.size; have ho2 := HR.out.own.kept (below_grown hb2 (Nat.le_refl _)) (.inr (by simp [Value.ownBlock])); have e0 := own_cell ho2 (k * 5) z0 (by rw [List.getElem?_append_right (by omega), hnl]; simp); have e1 := own_cell ho2 (k * 5 + 1) z1 (by rw [List.getElem?_append_right (by omega), hnl]; simp); have e2 := own_cell ho2 (k * 5 + 2) z2 (by rw [List.getElem?_append_right (by omega), hnl]; simp); have e3 := own_cell ho2 (k * 5 + 3) z3 (by rw [List.getElem?_append_right (by omega), hnl]; simp); have e4 := own_cell ho2 (k * 5 + 4) z4 (by rw [List.getElem?_append_right (by omega), hnl]; simp); obtain ⟨e0a, e0b⟩ := e0; obtain ⟨e1a, e1b⟩ := e1; obtain ⟨e2a, e2b⟩ := e2; obtain ⟨e3a, e3b⟩ := e3; obtain ⟨e4a, e4b⟩ := e4; have HO2 : Hid (w2.ownsRow (w.heap.size + 2) 24 5 (.slice (some ⟨w.heap.size + 2, 0, none⟩) (t.kids.length + 2) (t.kids.length + 2)) (t.kids.length + 2) (nodesL ts ++ z0 :: z1 :: z2 :: z3 :: z4 :: R)) := ho2; clear ho2)
        refine ⟨⟨k + 1, ts ++ [t1], R, hkl', by simp, ?_⟩, by simp [intOf]; omega⟩
        have h5 := set5W_own HO2.out (k * 5) hnl.symm (.int .i64 t1.kind) (.string t1.text) (.int .i64 t1.num) (.int .i64 t1.at_) (.slice t1.ptr t1.kids.length t1.cap)
        refine ⟨?_, by simp at hrl; omega, ?_, ?_, ?_⟩
        · rw [nodesL_append, List.append_assoc]; exact h5
        · rw [HTK.out]; exact MT.twinL_snoc HR.out.tw HT1.out
        · intro x hx
          rw [set5W_size]
          rcases List.mem_append.1 hx with hx | hx
          · refine MT.AM.keep (fun b hb => ⟨hb.1, by omega⟩) (fun k' o hk' => ?_) x (HR.out.mem x hx)
            exact World.cell?_of_block (a := ⟨k', o, none⟩) ((set5W_block _ _ _ _ _ _ _ _ k' (by omega)).trans (hb2.block k' hk'.2))
          · obtain rfl := List.mem_singleton.1 hx
            refine MT.AM.keep (fun b hb => ⟨by omega, hb.2⟩) (fun k' o hk' => ?_) x HA1.out
            exact World.cell?_of_block (a := ⟨k', o, none⟩) (set5W_block _ _ _ _ _ _ _ _ k' (by omega))
        · exact set5W_below (HR.out.below.trans (hb2.mono (by omega))) _ _ (Nat.le_refl _) _ _ _ _ _
      · have hke : k = t.kids.length := by omega
        subst hke
        have htl : ts.length = t.kids.length := by have := MT.twinL_length HR.out.tw; rw [this, List.length_take]; omega
        have hnl : (nodesL ts).length = t.kids.length * 5 := by rw [nodesL_length, htl]
        have hrl' : rest.length = 10 := by omega
        obtain ⟨z0, z1, z2, z3, z4, R, hR5⟩ := five_of (show 5 ≤ rest.length by omega)
        subst hR5
        obtain ⟨y0, y1, y2, y3, y4, R', hR6⟩ := five_of (show 5 ≤ R.length by simp at hrl'; omega)
        subst hR6
        have ho := HR.out.own
        have HO : Hid (wr.ownsRow (w.heap.size + 2) 24 5 (.slice (some ⟨w.heap.size + 2, 0, none⟩) (t.kids.length + 2) (t.kids.length + 2)) (t.kids.length + 2) (nodesL ts ++ z0 :: z1 :: z2 :: z3 :: z4 :: (y0 :: y1 :: y2 :: y3 :: y4 :: R'))) := ho
        clear ho
        go_wp2_with fail
        refine HKX.out _ _ ?_
        refine wp_seq_k ?_
        intro K1 hK1
        have HK1 : Hid _ := hK1
        clear hK1 HKX
        obtain ⟨a0, b0⟩ := own_cell HO.out (t.kids.length * 5) z0 (by rw [List.getElem?_append_right (by omega), hnl]; simp)
        obtain ⟨a1, b1⟩ := own_cell HO.out (t.kids.length * 5 + 1) z1 (by rw [List.getElem?_append_right (by omega), hnl]; simp)
        obtain ⟨a2, b2⟩ := own_cell HO.out (t.kids.length * 5 + 2) z2 (by rw [List.getElem?_append_right (by omega), hnl]; simp)
        obtain ⟨a3, b3⟩ := own_cell HO.out (t.kids.length * 5 + 3) z3 (by rw [List.getElem?_append_right (by omega), hnl]; simp)
        obtain ⟨a4, b4⟩ := own_cell HO.out (t.kids.length * 5 + 4) z4 (by rw [List.getElem?_append_right (by omega), hnl]; simp)
        go_wp2_with fail
        have hO6 := set5W_own HO.out (t.kids.length * 5) hnl.symm (.int .i64 77) (.string ⟨#[]⟩) (.int .i64 0) (.int .i64 0) (.slice none 0 0)
        have hB6 : Below (w.heap.size + 2) W2 (set5W wr (w.heap.size + 2) (t.kids.length * 5) (.int .i64 77) (.string ⟨#[]⟩) (.int .i64 0) (.int .i64 0) (.slice none 0 0)) := set5W_below HR.out.below _ _ (Nat.le_refl _) _ _ _ _ _
        have hM6 : ∀ x ∈ ts, x.AM (fun b => w.heap.size + 2 < b ∧ b < wr.heap.size) (set5W wr (w.heap.size + 2) (t.kids.length * 5) (.int .i64 77) (.string ⟨#[]⟩) (.int .i64 0) (.int .i64 0) (.slice none 0 0)) := fun x hx =>
          MT.AM.keep (fun b hb => hb) (fun k' o hk' => World.cell?_of_block (a := ⟨k', o, none⟩) (set5W_block _ _ _ _ _ _ _ _ k' (by omega))) x (HR.out.mem x hx)
        have hz6 : (set5W wr (w.heap.size + 2) (t.kids.length * 5) (.int .i64 77) (.string ⟨#[]⟩) (.int .i64 0) (.int .i64 0) (.slice none 0 0)).heap.size = wr.heap.size := set5W_size _ _ _ _ _ _ _ _
        obtain ⟨w6, hw6⟩ : ∃ w6, w6 = set5W wr (w.heap.size + 2) (t.kids.length * 5) (.int .i64 77) (.string ⟨#[]⟩) (.int .i64 0) (.int .i64 0) (.slice none 0 0) := ⟨_, rfl⟩
        have hw6' : w6 = ((((wr.setCell ⟨w.heap.size + 2, t.kids.length * 5, none⟩ (.int .i64 77)).setCell ⟨w.heap.size + 2, t.kids.length * 5 + 1, none⟩ (.string ⟨#[]⟩)).setCell ⟨w.heap.size + 2, t.kids.length * 5 + 2, none⟩ (.int .i64 0)).setCell ⟨w.heap.size + 2, t.kids.length * 5 + 3, none⟩ (.int .i64 0)).setCell ⟨w.heap.size + 2, t.kids.length * 5 + 4, none⟩ (.slice none 0 0) := hw6
        rw [← hw6'] 
        rw [← hw6] at hO6 hB6 hM6 hz6
        clear hw6 hw6' a0 b0 a1 b1 a2 b2 a3 b3 a4 b4 k4
        have hnl2 : (nodesL ts ++ [Value.int .i64 77, .string ⟨#[]⟩, .int .i64 0, .int .i64 0, .slice none 0 0]).length = (t.kids.length + 1) * 5 := by simp; omega
        have HO6 : Hid (w6.ownsRow (w.heap.size + 2) 24 5 (.slice (some ⟨w.heap.size + 2, 0, none⟩) (t.kids.length + 2) (t.kids.length + 2)) (t.kids.length + 2) ((nodesL ts ++ [.int .i64 77, .string ⟨#[]⟩, .int .i64 0, .int .i64 0, .slice none 0 0]) ++ y0 :: y1 :: y2 :: y3 :: y4 :: R')) := by
          rw [List.append_assoc]; exact hO6
        clear hO6
        refine HK1.out _ _ ?_
        refine wp_seq_k ?_
        intro K2 hK2
        have HK2 : Hid _ := hK2
        clear hK2 HK1
        have k4 := (HB2.out.below (B := w.heap.size + 2) (by omega) hB6).k4
        obtain ⟨a0, b0⟩ := own_cell HO6.out ((t.kids.length + 1) * 5) y0 (by rw [List.getElem?_append_right (by omega), hnl2]; simp)
        obtain ⟨a1, b1⟩ := own_cell HO6.out ((t.kids.length + 1) * 5 + 1) y1 (by rw [List.getElem?_append_right (by omega), hnl2]; simp)
        obtain ⟨a2, b2⟩ := own_cell HO6.out ((t.kids.length + 1) * 5 + 2) y2 (by rw [List.getElem?_append_right (by omega), hnl2]; simp)
        obtain ⟨a3, b3⟩ := own_cell HO6.out ((t.kids.length + 1) * 5 + 3) y3 (by rw [List.getElem?_append_right (by omega), hnl2]; simp)
        obtain ⟨a4, b4⟩ := own_cell HO6.out ((t.kids.length + 1) * 5 + 4) y4 (by rw [List.getElem?_append_right (by omega), hnl2]; simp)
        go_wp2_with fail
        have hO7 := set5W_own HO6.out ((t.kids.length + 1) * 5) hnl2.symm (.int .i64 78) (.string ⟨#[]⟩) (.int .i64 0) (.int .i64 0) (.slice none 0 0)
        have hB7 : Below (w.heap.size + 2) W2 (set5W w6 (w.heap.size + 2) ((t.kids.length + 1) * 5) (.int .i64 78) (.string ⟨#[]⟩) (.int .i64 0) (.int .i64 0) (.slice none 0 0)) := set5W_below hB6 _ _ (Nat.le_refl _) _ _ _ _ _
        have hM7 : ∀ x ∈ ts, x.AM (fun b => w.heap.size + 2 < b ∧ b < wr.heap.size) (set5W w6 (w.heap.size + 2) ((t.kids.length + 1) * 5) (.int .i64 78) (.string ⟨#[]⟩) (.int .i64 0) (.int .i64 0) (.slice none 0 0)) := fun x hx =>
          MT.AM.keep (fun b hb => hb) (fun k' o hk' => World.cell?_of_block (a := ⟨k', o, none⟩) (set5W_block _ _ _ _ _ _ _ _ k' (by omega))) x (hM6 x hx)
        have hz7 : (set5W w6 (w.heap.size + 2) ((t.kids.length + 1) * 5) (.int .i64 78) (.string ⟨#[]⟩) (.int .i64 0) (.int .i64 0) (.slice none 0 0)).heap.size = wr.heap.size := (set5W_size _ _ _ _ _ _ _ _).trans hz6
        obtain ⟨w7, hw7⟩ : ∃ w7, w7 = set5W w6 (w.heap.size + 2) ((t.kids.length + 1) * 5) (.int .i64 78) (.string ⟨#[]⟩) (.int .i64 0) (.int .i64 0) (.slice none 0 0) := ⟨_, rfl⟩
        have hw7' : w7 = ((((w6.setCell ⟨w.heap.size + 2, (t.kids.length + 1) * 5, none⟩ (.int .i64 78)).setCell ⟨w.heap.size + 2, (t.kids.length + 1) * 5 + 1, none⟩ (.string ⟨#[]⟩)).setCell ⟨w.heap.size + 2, (t.kids.length + 1) * 5 + 2, none⟩ (.int .i64 0)).setCell ⟨w.heap.size + 2, (t.kids.length + 1) * 5 + 3, none⟩ (.int .i64 0)).setCell ⟨w.heap.size + 2, (t.kids.length + 1) * 5 + 4, none⟩ (.slice none 0 0) := hw7
        rw [← hw7']
        rw [← hw7] at hO7 hB7 hM7 hz7
        clear hw7 hw7' a0 b0 a1 b1 a2 b2 a3 b3 a4 b4 k4 hB6 hM6 hz6 HO6
        refine HK2.out _ _ ?_
        clear HK2
        obtain ⟨k0, k1, k2, k3, k4⟩ := HB2.out.below (B := w.heap.size + 2) (by omega) hB7
        have hfr : w7.frozen? ⟨w.heap.size, 4, none⟩ = false := by
          refine (hB7.frozen (p := ⟨w.heap.size, 4, none⟩) (by show w.heap.size < _; omega)).trans ?_
          rw [hW2]
          refine (World.frozen?_of_block (a := ⟨w.heap.size, 4, none⟩) (Below.heap_alloc _ _ _ (by simp))).trans ?_
          unfold World.frozen?
          rw [heap_alloc_new]
          rfl
        have hrr : w7.heap[w.heap.size + 1]? = some zeroO := by
          refine (hB7.block _ (by omega)).trans ?_
          rw [hW2]
          have := heap_alloc_new (w.alloc (nodeO t)) zeroO
          rwa [World.size_alloc] at this
        have r0 : w7.cell? ⟨w.heap.size + 1, 0, none⟩ = some (.int .i64 0) := by simp [World.cell?, hrr]
        have r1 : w7.cell? ⟨w.heap.size + 1, 1, none⟩ = some (.string ⟨#[]⟩) := by simp [World.cell?, hrr]
        have r2 : w7.cell? ⟨w.heap.size + 1, 2, none⟩ = some (.int .i64 0) := by simp [World.cell?, hrr]
        have r3 : w7.cell? ⟨w.heap.size + 1, 3, none⟩ = some (.int .i64 0) := by simp [World.cell?, hrr]
        have r4 : w7.cell? ⟨w.heap.size + 1, 4, none⟩ = some (.slice none 0 0) := by simp [World.cell?, hrr]
        have s0 : ∀ o, w7.frozen? ⟨w.heap.size + 1, o, none⟩ = false := fun o => by simp [World.frozen?, hrr]
        have s0' := s0 0
        have s1 := s0 1
        have s2 := s0 2
        have s3 := s0 3
        have s4 := s0 4
        have HRR : Hid (w7.heap[w.heap.size + 1]? = some zeroO) := hrr
        clear s0 hrr
        go_wp2_with fail
        have hcs : (set5W (w7.setCell ⟨w.heap.size, 4, none⟩ (.slice (some ⟨w.heap.size + 2, 0, none⟩) t.kids.length (t.kids.length + 2))) (w.heap.size + 1) 0 (.int .i64 t.kind) (.string t.text) (.int .i64 t.num) (.int .i64 t.at_) (.slice (some ⟨w.heap.size + 2, 0, none⟩) t.kids.length (t.kids.length + 2))).heap[w.heap.size + 1]? =
            some (.cells #[.int .i64 t.kind, .string t.text, .int .i64 t.num, .int .i64 t.at_, .slice (some ⟨w.heap.size + 2, 0, none⟩) t.kids.length (t.kids.length + 2)] 24 (0, 0)) := by
          have h0 : (w7.setCell ⟨w.heap.size, 4, none⟩ (.slice (some ⟨w.heap.size + 2, 0, none⟩) t.kids.length (t.kids.length + 2))).heap[w.heap.size + 1]? = some zeroO := (Below.heap_setCell w7 ⟨w.heap.size, 4, none⟩ _ _ (by show _ ≠ w.heap.size; omega)).trans HRR.out
          exact heap_set (heap_set (heap_set (heap_set (heap_set h0 0 _) 1 _) 2 _) 3 _) 4 _
        refine bodyPost_ret (results_cell_row rfl _ _ (w.heap.size + 1) 24 _ (0, 0) _ rfl hcs Tryz.underlying24 rfl rfl) rfl ?_
        have hblk : ∀ k, k ≠ w.heap.size → k ≠ w.heap.size + 1 → (set5W (w7.setCell ⟨w.heap.size, 4, none⟩ (.slice (some ⟨w.heap.size + 2, 0, none⟩) t.kids.length (t.kids.length + 2))) (w.heap.size + 1) 0 (.int .i64 t.kind) (.string t.text) (.int .i64 t.num) (.int .i64 t.at_) (.slice (some ⟨w.heap.size + 2, 0, none⟩) t.kids.length (t.kids.length + 2))).heap[k]? = w7.heap[k]? := fun k h1 h2 =>
          (set5W_block _ _ _ _ _ _ _ _ k h2).trans (Below.heap_setCell w7 ⟨w.heap.size, 4, none⟩ _ k h1)
        have hfb : Below w.heap.size w (set5W (w7.setCell ⟨w.heap.size, 4, none⟩ (.slice (some ⟨w.heap.size + 2, 0, none⟩) t.kids.length (t.kids.length + 2))) (w.heap.size + 1) 0 (.int .i64 t.kind) (.string t.text) (.int .i64 t.num) (.int .i64 t.at_) (.slice (some ⟨w.heap.size + 2, 0, none⟩) t.kids.length (t.kids.length + 2))) :=
          set5W_below ((HW2.out.trans (hB7.mono (by omega))).setCell (p := ⟨w.heap.size, 4, none⟩) (Nat.le_refl _) _) _ _ (by omega) _ _ _ _ _
        have hfz : (set5W (w7.setCell ⟨w.heap.size, 4, none⟩ (.slice (some ⟨w.heap.size + 2, 0, none⟩) t.kids.length (t.kids.length + 2))) (w.heap.size + 1) 0 (.int .i64 t.kind) (.string t.text) (.int .i64 t.num) (.int .i64 t.at_) (.slice (some ⟨w.heap.size + 2, 0, none⟩) t.kids.length (t.kids.length + 2))).heap.size = wr.heap.size := by
          rw [set5W_size, World.size_setCell, hz7]
        refine ⟨.node t.kind t.text t.num t.at_ (some ⟨w.heap.size + 2, 0, none⟩) (t.kids.length + 2) ts, ?_, ?_, ?_, ?_, hfb⟩
        · show _ = Ending.returned (.agg #[.int .i64 t.kind, .string t.text, .int .i64 t.num, .int .i64 t.at_, .slice (some ⟨w.heap.size + 2, 0, none⟩) ts.length (t.kids.length + 2)])
          rw [htl]
        · rw [MT.twin_eq]
          refine ⟨rfl, rfl, rfl, rfl, ?_⟩
          have := HR.out.tw
          rwa [List.take_of_length_le (Nat.le_refl _)] at this
        · show MT.AM (fun b => w.heap.size ≤ b ∧ b < (set5W (w7.setCell ⟨w.heap.size, 4, none⟩ (.slice (some ⟨w.heap.size + 2, 0, none⟩) t.kids.length (t.kids.length + 2))) (w.heap.size + 1) 0 (.int .i64 t.kind) (.string t.text) (.int .i64 t.num) (.int .i64 t.at_) (.slice (some ⟨w.heap.size + 2, 0, none⟩) t.kids.length (t.kids.length + 2))).heap.size) (set5W (w7.setCell ⟨w.heap.size, 4, none⟩ (.slice (some ⟨w.heap.size + 2, 0, none⟩) t.kids.length (t.kids.length + 2))) (w.heap.size + 1) 0 (.int .i64 t.kind) (.string t.text) (.int .i64 t.num) (.int .i64 t.at_) (.slice (some ⟨w.heap.size + 2, 0, none⟩) t.kids.length (t.kids.length + 2))) _
          rw [hfz]
          refine ⟨?_, ?_⟩
          · rw [MT.At]
            refine ⟨HIN.out.text_le, by omega, by unfold maxLen; omega, .inr ⟨w.heap.size + 2, 0, rfl, ⟨by omega, by omega⟩, MT.AtL.mk fun i hi => ⟨?_, ?_⟩⟩⟩
            · have hc : ∀ o u, o < 5 → ts[i].cells.toList[o]? = some u → (set5W (w7.setCell ⟨w.heap.size, 4, none⟩ (.slice (some ⟨w.heap.size + 2, 0, none⟩) t.kids.length (t.kids.length + 2))) (w.heap.size + 1) 0 (.int .i64 t.kind) (.string t.text) (.int .i64 t.num) (.int .i64 t.at_) (.slice (some ⟨w.heap.size + 2, 0, none⟩) t.kids.length (t.kids.length + 2))).cell? ⟨w.heap.size + 2, 0 + i * 5 + o, none⟩ = some u := by
                intro o u ho hu
                rw [Nat.zero_add]
                refine (World.cell?_of_block (a := ⟨w.heap.size + 2, i * 5 + o, none⟩) (hblk (w.heap.size + 2) (by omega) (by omega))).trans ?_
                refine (own_cell hO7 (i * 5 + o) u ?_).1
                rw [List.append_assoc, List.getElem?_append_left (by rw [nodesL_length]; omega), nodesL_get ts i hi o ho]
                exact hu
              exact ⟨hc 0 _ (by omega) rfl, hc 1 _ (by omega) rfl, hc 2 _ (by omega) rfl, hc 3 _ (by omega) rfl, hc 4 _ (by omega) rfl⟩
            · exact MT.At.keep (fun b hb => ⟨by omega, hb.2⟩) (fun k' o hk' => World.cell?_of_block (a := ⟨k', o, none⟩) (hblk k' (by omega) (by omega))) _ (hM7 _ (List.getElem_mem hi)).1
          · rw [MT.Mk]
            have hc : ∀ o u, (nodesL ts ++ [.int .i64 77, .string ⟨#[]⟩, .int .i64 0, .int .i64 0, .slice none 0 0] ++ .int .i64 78 :: .string ⟨#[]⟩ :: .int .i64 0 :: .int .i64 0 :: .slice none 0 0 :: R')[o]? = some u → (set5W (w7.setCell ⟨w.heap.size, 4, none⟩ (.slice (some ⟨w.heap.size + 2, 0, none⟩) t.kids.length (t.kids.length + 2))) (w.heap.size + 1) 0 (.int .i64 t.kind) (.string t.text) (.int .i64 t.num) (.int .i64 t.at_) (.slice (some ⟨w.heap.size + 2, 0, none⟩) t.kids.length (t.kids.length + 2))).cell? ⟨w.heap.size + 2, o, none⟩ = some u := fun o u hu =>
              (World.cell?_of_block (a := ⟨w.heap.size + 2, o, none⟩) (hblk (w.heap.size + 2) (by omega) (by omega))).trans (own_cell hO7 o u hu).1
            refine ⟨⟨w.heap.size + 2, rfl, ⟨by omega, by omega⟩, by rw [htl], hc _ _ ?_, hc _ _ ?_⟩, MT.MkL.mk fun x hx => MT.Mk.keep (fun b hb => ⟨by omega, hb.2⟩) (fun k' o hk' => World.cell?_of_block (a := ⟨k', o, none⟩) (hblk k' (by omega) (by omega))) x (hM7 x hx).2⟩
            · rw [htl, List.append_assoc, List.getElem?_append_right (by omega), hnl]; simp
            · rw [htl, List.getElem?_append_right (by rw [hnl2]; omega), hnl2]; simp
        · obtain ⟨g', cap', cur, hv, _, hg, _, _, hcs', _⟩ := hO7.2.resolve_left (fun h => by cases h.1)
          cases hv
          refine ⟨w.heap.size + 2, cur, rfl, by omega, (hblk _ (by omega) (by omega)).trans hg, ?_, ?_⟩
          · show cur.size = (ts.length + 2) * 5
            rw [htl]; exact hcs'
          · show t.kids.length + 2 = ts.length + 2
            rw [htl]
end Go.Proofs.YthbnegggohegkaaGreatDoor
namespace Go.Proofs.YthbnegggohegkaaGreatDoor
open Go.RowKit

/-- The same answer, of nodes alike. -/
def eqR : Except (Nat × MT) Nat → Except (Nat × MT) Nat → Prop
  | .ok b, .ok b' => b = b'
  | .error x, .error x' => x.1 = x'.1 ∧ x.2.at_ = x'.2.at_ ∧ x.2.text = x'.2.text
  | _, _ => False
theorem eqR.ret {r r' : Except (Nat × MT) Nat} (h : eqR r r') : retR r = retR r' := by
  rcases r with ⟨c, x⟩ | b <;> rcases r' with ⟨c', x'⟩ | b'
  · obtain ⟨h1, h2, h3⟩ := h
    simp only at h1 h2 h3
    unfold retR
    simp only
    rw [h1, h2, h3]
  · exact h.elim
  · exact h.elim
  · rfl
theorem tw_opt (P : MT → Bool) (hP : ∀ x y, MT.twin x y → P y = P x) : ∀ {xs ys : List MT}, MT.twinL xs ys → ∀ (i : Nat), (ys[i]?).any P = (xs[i]?).any P
  | [], ys, h, i => by rw [MT.twinL] at h; subst h; rfl
  | x :: xs, ys, h, i => by
    rw [MT.twinL] at h
    obtain ⟨y, ys', rfl, hx, hl⟩ := h
    cases i with
    | zero => exact hP x y hx
    | succ i => exact tw_opt P hP hl i
theorem tw_any (P : MT → Bool) (hP : ∀ x y, MT.twin x y → P y = P x) : ∀ {xs ys : List MT}, MT.twinL xs ys → ys.any P = xs.any P
  | [], ys, h => by rw [MT.twinL] at h; subst h; rfl
  | x :: xs, ys, h => by
    rw [MT.twinL] at h
    obtain ⟨y, ys', rfl, hx, hl⟩ := h
    rw [List.any_cons, List.any_cons, hP x y hx, tw_any P hP hl]
theorem tw_kind {x y : MT} (h : MT.twin x y) : y.kind = x.kind := ((MT.twin_eq x y).1 h).1
theorem tw_none {xs ys : List MT} (h : MT.twinL xs ys) (i : Nat) : noneAt ys i = noneAt xs i :=
  tw_opt (fun x => x.kind == 16) (fun x y h => by simp only [tw_kind h]) h i
theorem tw_def {x y : MT} (h : MT.twin x y) : isDef y = isDef x := by
  have h2 := ((MT.twin_eq x y).1 h).2.2.2.2
  unfold isDef
  rw [tw_kind h, tw_opt (fun y => y.kind == 16) (fun x y h => by simp only [tw_kind h]) h2 0]
theorem tw_sec : ∀ {xs ys : List MT}, MT.twinL xs ys → ∀ d i, secDef ys d i = secDef xs d i
  | [], ys, h, d, i => by rw [MT.twinL] at h; subst h; rfl
  | x :: xs, ys, h, d, i => by
    rw [MT.twinL] at h
    obtain ⟨y, ys', rfl, hx, hl⟩ := h
    rw [secDef, secDef, tw_def hx, tw_sec hl]
theorem tw_sh {xs ys : List MT} (h : MT.twinL xs ys) (k : Int) (rl : Nat) : shOf k ys rl = shOf k xs rl := by
  unfold shOf
  rw [tw_none h 2]
theorem tw_lists {x y : MT} (h : MT.twin x y) : listsT y = listsT x := by
  have h2 := ((MT.twin_eq x y).1 h).2.2.2.2
  unfold listsT
  exact tw_opt _ (fun x y h => tw_any _ (fun u v h => by
    have h3 := (MT.twin_eq u v).1 h
    simp only [h3.1, h3.2.1]) ((MT.twin_eq x y).1 h).2.2.2.2) h2 0
theorem tw_own {x y : MT} (h : MT.twin x y) : ownR y = ownR x := by
  have h3 := (MT.twin_eq x y).1 h
  unfold ownR
  rw [h3.1, h3.2.1, tw_lists h]
theorem tw_fault {x y : MT} (h : MT.twin x y) (rl a : Nat) (b : Bool) : nodeFault y rl a b = nodeFault x rl a b := by
  have h3 := (MT.twin_eq x y).1 h
  unfold nodeFault
  rw [h3.1, h3.2.1, h3.2.2.1, tw_sh h3.2.2.2.2, MT.twinL_length h3.2.2.2.2]
theorem tw_roles {x y : MT} (h : MT.twin x y) (rl : Nat) : rolesOf y rl = rolesOf x rl := by
  have h3 := (MT.twin_eq x y).1 h
  funext i
  unfold rolesOf
  rw [tw_sec h3.2.2.2.2, h3.1, tw_sh h3.2.2.2.2]
theorem chkK_tw (f : MT → Nat → Nat → Except (Nat × MT) Nat) (hf : ∀ x y r a, MT.twin x y → eqR (f x r a) (f y r a)) (rs : Nat → Nat) : ∀ {xs ys : List MT}, MT.twinL xs ys → ∀ i a, eqR (chkK f rs i xs a) (chkK f rs i ys a)
  | [], ys, h, i, a => by rw [MT.twinL] at h; subst h; rw [chkK]; exact rfl
  | x :: xs, ys, h, i, a => by
    rw [MT.twinL] at h
    obtain ⟨y, ys', rfl, hx, hl⟩ := h
    rw [chkK, chkK]
    have := hf x y (rs i) a hx
    cases h1 : f x (rs i) a with
    | error e =>
      cases h2 : f y (rs i) a with
      | error e' => rw [h1, h2] at this; exact this
      | ok b' => rw [h1, h2] at this; exact this.elim
    | ok b =>
      cases h2 : f y (rs i) a with
      | error e' => rw [h1, h2] at this; exact this.elim
      | ok b' =>
        rw [h1, h2] at this
        obtain rfl : b = b' := this
        exact chkK_tw f hf rs hl (i + 1) b
theorem chk_tw : ∀ (f : Nat) (x y : MT) (r a : Nat), MT.twin x y → eqR (chk f x r a) (chk f y r a)
  | 0, x, y, r, a, h => by
    have h3 := (MT.twin_eq x y).1 h
    rw [chk, chk, tw_fault h]; exact ⟨rfl, h3.2.2.2.1.symm, h3.2.1.symm⟩
  | f + 1, x, y, r, a, h => by
    have h3 := (MT.twin_eq x y).1 h
    rw [chk, chk, tw_fault h, tw_roles h]
    by_cases h0 : nodeFault x r a true = 0
    · rw [if_pos h0, if_pos h0]
      exact chkK_tw (chk f) (fun x y r a h => chk_tw f x y r a h) _ h3.2.2.2.2 0 (a + 1)
    · rw [if_neg h0, if_neg h0]; exact ⟨rfl, h3.2.2.2.1.symm, h3.2.1.symm⟩
/-- What is wrong first with a tree is wrong first with its twin. -/
theorem right_tw {x y : MT} (h : MT.twin x y) : eqR (rightSpec x) (rightSpec y) := by
  unfold rightSpec
  rw [tw_own h]
  exact chk_tw 60 x y _ 0 h
theorem right_code {t : MT} {code : Nat} {x : MT} (h : rightSpec t = .error (code, x)) : code ≠ 0 := by
  rw [← look_right] at h
  exact look_code 60 t 0 0 code x h
end Go.Proofs.YthbnegggohegkaaGreatDoor
