/-
  Trees moved.
-/
import Derived.Test.YthbnegggohegkaaGreatDoorWnJ
import Derived.Test.YthbnegggohegkaaGreatDoorAkJ
import Derived.Test.YthbnegggohegkaaGreatDoorLitJ
import Derived.Maps.AppendAt
namespace Go.Proofs.YthbnegggohegkaaGreatDoor
open Go.RowKit
namespace MT
mutual
/-- A tree's list of Kids lies in blocks of which ok holds. -/
def Atm (ok : Nat → Prop) (w : World) : MT → Prop
  | node _ s _ _ p c ks => s.size ≤ maxLen ∧ ks.length ≤ c ∧ c ≤ maxLen ∧ (ks = [] ∨ ∃ b o, p = some ⟨b, o, none⟩ ∧ ok b ∧ AtmL ok w b o ks)
def AtmL (ok : Nat → Prop) (w : World) (b o : Nat) : List MT → Prop
  | [] => True
  | t :: ts => CellsAt w b o t ∧ Atm ok w t ∧ AtmL ok w b (o + 5) ts
end

mutual
theorem Atm.keep {ok ok' : Nat → Prop} {w w' : World} (ho : ∀ b, ok b → ok' b) (hc : ∀ k o, ok k → w'.cell? ⟨k, o, none⟩ = w.cell? ⟨k, o, none⟩) : ∀ (t : MT), Atm ok w t → Atm ok' w' t
  | node _ s _ _ p c ks, h => by
    rw [Atm] at h ⊢
    obtain ⟨h1, h2, h3, h4⟩ := h
    refine ⟨h1, h2, h3, ?_⟩
    rcases h4 with h4 | ⟨b, o, hp, hlt, hl⟩
    · exact .inl h4
    · exact .inr ⟨b, o, hp, ho b hlt, AtmL.keep ho hc b o hlt ks hl⟩
theorem AtmL.keep {ok ok' : Nat → Prop} {w w' : World} (ho : ∀ b, ok b → ok' b) (hc : ∀ k o, ok k → w'.cell? ⟨k, o, none⟩ = w.cell? ⟨k, o, none⟩) (b o : Nat) (hb : ok b) : ∀ (ts : List MT), AtmL ok w b o ts → AtmL ok' w' b o ts
  | [], _ => by rw [AtmL]; trivial
  | t :: ts, h => by
    rw [AtmL] at h ⊢
    exact ⟨h.1.keep (fun o => hc b o hb), Atm.keep ho hc t h.2.1, AtmL.keep ho hc b (o + 5) hb ts h.2.2⟩
end

mutual
theorem Atm.toIn {ok : Nat → Prop} {w : World} {B : Nat} (ho : ∀ b, ok b → b < B) : ∀ (t : MT), Atm ok w t → In B w t
  | node _ s _ _ p c ks, h => by
    rw [Atm] at h
    rw [In]
    obtain ⟨h1, h2, h3, h4⟩ := h
    refine ⟨h1, h2, h3, ?_⟩
    rcases h4 with h4 | ⟨b, o, hp, hlt, hl⟩
    · exact .inl h4
    · exact .inr ⟨b, o, hp, ho b hlt, AtmL.toIn ho b o ks hl⟩
theorem AtmL.toIn {ok : Nat → Prop} {w : World} {B : Nat} (ho : ∀ b, ok b → b < B) (b o : Nat) : ∀ (ts : List MT), AtmL ok w b o ts → InL B w b o ts
  | [], _ => by rw [InL]; trivial
  | t :: ts, h => by
    rw [AtmL] at h
    rw [InL]
    exact ⟨h.1, Atm.toIn ho t h.2.1, AtmL.toIn ho b (o + 5) ts h.2.2⟩
end

theorem AtmL.mk {ok : Nat → Prop} {w : World} {b : Nat} : ∀ {ts : List MT} {o : Nat}, (∀ (i : Nat) (hi : i < ts.length), CellsAt w b (o + i * 5) ts[i] ∧ Atm ok w ts[i]) → AtmL ok w b o ts
  | [], _, _ => by rw [AtmL]; trivial
  | t :: ts, o, h => by
    rw [AtmL]
    have h0 := h 0 (by simp)
    refine ⟨by simpa using h0.1, by simpa using h0.2, AtmL.mk fun i hi => ?_⟩
    have := h (i + 1) (by simpa using hi)
    rw [show o + (i + 1) * 5 = o + 5 + i * 5 by omega] at this
    simpa using this
end MT
def nL (ks : List MT) : List Value := ks.flatMap fun t => t.cells.toList
theorem nL_length (ks : List MT) : (nL ks).length = ks.length * 5 := by
  induction ks with
  | nil => rfl
  | cons x xs ih => simp only [nL, List.flatMap_cons, List.length_append, List.length_cons] at *; rw [ih]; simp [MT.cells]; omega
theorem nL_cons (x : MT) (xs : List MT) : nL (x :: xs) = x.cells.toList ++ nL xs := by simp [nL]
theorem nL_append (xs ys : List MT) : nL (xs ++ ys) = nL xs ++ nL ys := by simp [nL]

theorem nL_get (xs : List MT) (j : Nat) (hj : j < xs.length) (i : Nat) (hi : i < 5) : (nL xs)[j * 5 + i]? = xs[j].cells.toList[i]? := by
  induction xs generalizing j with
  | nil => simp at hj
  | cons x xs ih =>
    have hl : x.cells.toList.length = 5 := rfl
    cases j with
    | zero =>
      rw [nL_cons, List.getElem?_append_left (by omega)]
      simp
    | succ j =>
      rw [nL_cons, List.getElem?_append_right (by omega), hl, show (j + 1) * 5 + i - 5 = j * 5 + i by omega]
      simpa using ih j (by simpa using hj)
theorem fiveNew (w : World) (a b c d e : Value) (t : TypeId) (n : Nat) (hn : n = w.heap.size) : ∀ j u, [a, b, c, d, e][j]? = some u → (w.alloc (.cells #[a, b, c, d, e] t)).cell? ((⟨n, 0, none⟩ : Addr).add j) = some u := by
  subst hn
  intro j u hj
  have e' : (⟨w.heap.size, 0, none⟩ : Addr).add j = ⟨w.heap.size, j, none⟩ := by unfold Addr.add; split <;> simp_all
  rw [e', World.cell?_alloc_new]
  simpa using hj
theorem infoNode : (Tryz.prog.info? 24).map (fun i => (i.zero, i.size, i.bytes)) = some (some (.agg #[.int .i64 0, .string ⟨#[]⟩, .int .i64 0, .int .i64 0, .slice none 0 0]), 5, 64) := by kernel_rfl
/-- The first so many Kids are moved, in a row of the call's own. -/
structure MR (t : MT) (m : Int) (base : Nat) (W2 : World) (j : Nat) (ts : List MT) (v : Value) (wr : World) : Prop where
  own : wr.ownsRow base 24 5 v j (nL ts)
  len : ts.length = j
  mv : ∀ (q : Nat) (hq : q < ts.length) (hq' : q < t.kids.length), MvA m t.kids[q] ts[q]
  at_ : ∀ x ∈ ts, MT.Atm (fun b => base ≤ b ∧ b < wr.heap.size ∧ v.ownBlock ≠ some b) wr x
  below : Below base W2 wr
def mvNode (t : MT) (m : Int) : Obj := .cells #[.int .i64 t.kind, .string t.text, .int .i64 t.num, .int .i64 (wrap64 (t.at_ + m)), .slice t.ptr t.kids.length t.cap] 24
set_option maxRecDepth 100000 in
set_option maxHeartbeats 8000000 in
theorem moved_any (m : Int) (N : Nat) (hN0 : N ≤ 30000) : ∀ (t : MT) (w : World), t.size ≤ N → t.In w.heap.size w →
    Calls Tryz.prog 24 #[nodeV t, .int .i64 m] w fun e w' => ∃ y : MT, e = .returned (nodeV y) ∧ Hid (MvA m t y) ∧ Hid (y.Atm (fun b => w.heap.size ≤ b ∧ b < w'.heap.size) w') ∧ Below w.heap.size w w' := by
  induction N with
  | zero => intro t w h; have := t.size_pos; omega
  | succ N ih =>
    intro t w hN hin
    have HI : Hid _ := ih (by omega)
    clear ih
    have hkl : t.kids.length ≤ 30000 := by
      have h1 := MT.size_eq t
      have h2 := MT.length_le_sizeL t.kids
      omega
    obtain ⟨i0, hi, hz0, hz1, hz2⟩ := info_parts infoNode
    have hn2 : ((w.alloc (mvNode t m)).alloc (.cells #[.int .i64 0, .string ⟨#[]⟩, .int .i64 0, .int .i64 0, .slice none 0 0] 24)).heap[w.heap.size]? = some (.cells #[.int .i64 t.kind, .string t.text, .int .i64 t.num, .int .i64 (wrap64 (t.at_ + m)), .slice t.ptr t.kids.length t.cap] 24 (0, 0)) := (Below.heap_alloc _ _ _ (by simp)).trans (heap_alloc_new w _)
    have hW2b : Below w.heap.size w ((w.alloc (mvNode t m)).alloc (.cells #[.int .i64 0, .string ⟨#[]⟩, .int .i64 0, .int .i64 0, .slice none 0 0] 24)) := below2 w _ _
    have hn3 : ((w.alloc (mvNode t m)).alloc (.cells #[.int .i64 0, .string ⟨#[]⟩, .int .i64 0, .int .i64 0, .slice none 0 0] 24)).heap[w.heap.size + 1]? = some (.cells #[.int .i64 0, .string ⟨#[]⟩, .int .i64 0, .int .i64 0, .slice none 0 0] 24 (0, 0)) := by
      have := heap_alloc_new (w.alloc (mvNode t m)) (.cells #[.int .i64 0, .string ⟨#[]⟩, .int .i64 0, .int .i64 0, .slice none 0 0] 24); rwa [World.size_alloc] at this
    have hz2' : ((w.alloc (mvNode t m)).alloc (.cells #[.int .i64 0, .string ⟨#[]⟩, .int .i64 0, .int .i64 0, .slice none 0 0] 24)).heap.size = w.heap.size + 2 := by simp
    go_enter Tryz.func24, Tryz.ntmps24
    go_wp2_with fail
    have HIN : Hid (t.In w.heap.size w) := hin
    have hcap := hin.cap_le
    have hlc := hin.len_le
    unfold maxLen at hcap
    have HSE : Hid (t.size ≤ N + 1) := hN
    clear hin hN
    obtain ⟨W2, hW2⟩ : ∃ W2, W2 = ((w.alloc (mvNode t m)).alloc (.cells #[.int .i64 0, .string ⟨#[]⟩, .int .i64 0, .int .i64 0, .slice none 0 0] 24)) := ⟨_, rfl⟩
    have HN2 : Hid (W2.heap[w.heap.size]? = some (.cells #[.int .i64 t.kind, .string t.text, .int .i64 t.num, .int .i64 (wrap64 (t.at_ + m)), .slice t.ptr t.kids.length t.cap] 24 (0, 0)) ∧ W2.heap[w.heap.size + 1]? = some (.cells #[.int .i64 0, .string ⟨#[]⟩, .int .i64 0, .int .i64 0, .slice none 0 0] 24 (0, 0))) := by rw [hW2]; exact ⟨hn2, hn3⟩
    have HW2 : Hid (Below w.heap.size w W2) := by rw [hW2]; exact hW2b
    have hzW : W2.heap.size = w.heap.size + 2 := by rw [hW2]; exact hz2'
    have eW : ((w.alloc (.cells #[.int .i64 t.kind, .string t.text, .int .i64 t.num, .int .i64 (wrap64 (t.at_ + m)), .slice t.ptr t.kids.length t.cap] 24)).alloc (.cells #[.int .i64 0, .string ⟨#[]⟩, .int .i64 0, .int .i64 0, .slice none 0 0] 24)) = W2 := hW2.symm
    rw [eW]
    have HZW : Hid (W2.heap.size = w.heap.size + 2) := hzW
    clear hW2 eW hn2 hn3 hW2b hz2' hzW
    go_loopg [5, 6] t.kids.length (fun gk v i wr => ∃ (j : Nat) (ts : List MT), gk + j = t.kids.length ∧ i = .int .i64 j ∧ Hid (MR t m (w.heap.size + 2) W2 j ts v wr))
    case atStart => exact ⟨0, [], rfl, rfl, World.ownsRow_nil _ _ _ _, rfl, fun q hq => absurd hq (by simp), fun x hx => absurd hx (by simp), Below.refl _ _⟩
    case round =>
      obtain ⟨j, ts, hj, rfl, HR⟩ := hrel
      have hbz := HR.out.below.size
      rw [HZW.out] at hbz
      have HNB : Hid (wr.heap[w.heap.size]? = some (.cells #[.int .i64 t.kind, .string t.text, .int .i64 t.num, .int .i64 (wrap64 (t.at_ + m)), .slice t.ptr t.kids.length t.cap] 24 (0, 0)) ∧ wr.heap[w.heap.size + 1]? = some (.cells #[.int .i64 0, .string ⟨#[]⟩, .int .i64 0, .int .i64 0, .slice none 0 0] 24 (0, 0))) := ⟨(HR.out.below.block _ (by omega)).trans HN2.out.1, (HR.out.below.block _ (by omega)).trans HN2.out.2⟩
      have k4 : wr.cell? ⟨w.heap.size, 4, none⟩ = some (.slice t.ptr t.kids.length t.cap) := by simp [World.cell?, HNB.out.1]
      have HBW : Hid (Below w.heap.size w wr) := HW2.out.trans (HR.out.below.mono (by omega))
      obtain ⟨vp, vc, hv⟩ := ownsRow_slice HR.out.own
      subst hv
      have HG : Hid (gk + j = t.kids.length) := hj
      by_cases hlt : j < t.kids.length
      · obtain ⟨b, o, hp, hbB, hL⟩ : ∃ b o, t.ptr = some ⟨b, o, none⟩ ∧ b < w.heap.size ∧ MT.InL w.heap.size wr b o t.kids := by
          rcases (MT.In.below HBW.out t HIN.out).kidsL with h | h
          · rw [h] at hlt; simp at hlt
          · exact h
        rw [hp] at k4
        clear hp hj
        have i1 : (j : Int) < t.kids.length := by omega
        obtain ⟨⟨c0, c1, c2, c3, c4⟩, hIk⟩ := hL.get j hlt
        have HSZ : Hid ((t.kids[j]).size ≤ N) := by
          have h1 := MT.sizeL_take_succ t.kids j hlt
          have h2 := MT.sizeL_take_le t.kids (j + 1)
          have h3 := t.size_eq
          have h4 := HSE.out
          show _ ≤ _
          omega
        obtain ⟨kid, hkid⟩ : ∃ kid, kid = t.kids[j] := ⟨_, rfl⟩
        have HKID : Hid (t.kids[j] = kid) := hkid.symm
        have HK : Hid (kid.In wr.heap.size wr) := by rw [hkid]; exact MT.In.mono (by omega) _ hIk
        rw [← hkid] at c0 c1 c2 c3 c4 HSZ
        have hbz' : b < wr.heap.size := by omega
        clear hL hIk hkid
        go_wp2_with (first
          | (go_at_call 24; refine (HI.out kid wr HSZ.out HK.out).mono ?_; rintro e w2 ⟨y, rfl, HM1, HA1, hb2⟩; have hz2w := hb2.size; have HO2 : Hid (w2.ownsRow (w.heap.size + 2) 24 5 (.slice vp j vc) j (nL ts)) := ownsRow_below HR.out.own (hb2.mono (Nat.le_refl _)); have HB2 : Hid (Below wr.heap.size wr w2) := hb2; clear hb2)
          | (at_builtin; refine wpList_append_own_at _ rfl _ _ 22 rfl (w.heap.size + 2) 24 i0 _ 5 64 Tryz.underlying22 hi hz0 hz1 hz2 rfl (by decide) _ _ _ rfl ((HO2.out.alloc _).alloc _) ⟨w2.heap.size + 1, 0, none⟩ 1 1 [.int .i64 y.kind, .string y.text, .int .i64 y.num, .int .i64 y.at_, .slice y.ptr y.kids.length y.cap] rfl rfl ?_ (by simp [Value.oneCell']) (by unfold maxLen; omega) (by omega) (by simp; omega) ?_; exact fiveNew _ _ _ _ _ _ _ _ (by simp); intro v3 w3 hown3 hgr3 _ hth3; have HO3 : Hid _ := hown3; have HG3 : Hid _ := hgr3; have HT3 : Hid _ := hth3; clear hown3 hgr3 hth3))
        go_roundg (t.kids.length - (j + 1))
        case measure => have := HG.out; omega
        case rel =>
          have hgr := HG3.out
          have hz3 := hgr.size
          simp only [World.size_alloc] at hz3
          have hcell : ∀ q o, q < w2.heap.size → (Value.slice vp j vc).ownBlock ≠ some q → w3.cell? ⟨q, o, none⟩ = w2.cell? ⟨q, o, none⟩ := fun q o hq hne => by
            have e1 := hgr.block q (by simp only [World.size_alloc]; omega) hne.symm
            rw [Below.heap_alloc _ _ _ (by simp only [World.size_alloc]; omega), Below.heap_alloc _ _ _ hq] at e1
            exact World.cell?_of_block (a := ⟨q, o, none⟩) e1
          have hvl : ∀ q, (Value.slice vp j vc).ownBlock = some q → w.heap.size + 2 ≤ q ∧ q < wr.heap.size := fun q hq => HR.out.own.lt q hq
          have hth := HT3.out
          simp only [World.size_alloc] at hth
          have hne3 : ∀ q, q < w2.heap.size → (Value.slice vp j vc).ownBlock ≠ some q → v3.ownBlock ≠ some q := fun q hq hne h3 => by
            rcases hth with e | e
            · rw [e] at h3; exact hne h3
            · rw [e] at h3; have := Option.some.inj h3; omega
          refine ⟨j + 1, ts ++ [y], by omega, by go_num, ?_, ?_, ?_, ?_, ?_⟩
          · have := HO3.out
            have e1 : nL (ts ++ [y]) = nL ts ++ [.int .i64 y.kind, .string y.text, .int .i64 y.num, .int .i64 y.at_, .slice y.ptr y.kids.length y.cap] := by rw [nL_append]; rfl
            rw [e1]
            exact this
          · simp [HR.out.len]
          · intro q hq hq'
            by_cases hqj : q < ts.length
            · rw [List.getElem_append_left hqj]; exact HR.out.mv q hqj hq'
            · have hq2 : q = j := by have := HR.out.len; simp at hq; omega
              subst hq2
              rw [List.getElem_append_right (by have := HR.out.len; omega)]
              simp only [List.getElem_singleton]
              rw [HKID.out]; exact HM1.out
          · intro x hx
            rcases List.mem_append.1 hx with hx | hx
            · refine MT.Atm.keep (fun q hq => ⟨hq.1, by omega, hne3 q (by omega) hq.2.2⟩) (fun q o hq => (hcell q o (by omega) hq.2.2).trans (HB2.out.cell (p := ⟨q, o, none⟩) hq.2.1)) x (HR.out.at_ x hx)
            · obtain rfl : x = y := by simpa using hx
              have hno : ∀ q, wr.heap.size ≤ q → (Value.slice vp j vc).ownBlock ≠ some q := fun q hq h => by have := hvl q h; omega
              exact MT.Atm.keep (fun q hq => ⟨by omega, by omega, hne3 q hq.2 (hno q hq.1)⟩) (fun q o hq => hcell q o hq.2 (hno q hq.1)) x HA1.out
          · refine HR.out.below.trans ((HB2.out.mono (by omega)).trans ?_)
            exact Below.grown (((Below.refl _ _).alloc (by omega) _).alloc (by simp; omega) _) hgr (by simp; omega) (fun q hq => (hvl q hq).1)
      · have hjl : j = t.kids.length := by omega
        subst hjl
        have n3 : wr.frozen? ⟨w.heap.size, 4, none⟩ = false := by simp [World.frozen?, HNB.out.1]
        have m0 : wr.cell? ⟨w.heap.size, 0, none⟩ = some (.int .i64 t.kind) := by simp [World.cell?, HNB.out.1]
        have m1 : wr.cell? ⟨w.heap.size, 1, none⟩ = some (.string t.text) := by simp [World.cell?, HNB.out.1]
        have m2 : wr.cell? ⟨w.heap.size, 2, none⟩ = some (.int .i64 t.num) := by simp [World.cell?, HNB.out.1]
        have m3 : wr.cell? ⟨w.heap.size, 3, none⟩ = some (.int .i64 (wrap64 (t.at_ + m))) := by simp [World.cell?, HNB.out.1]
        have hwl : w.heap.size < wr.heap.size := by omega
        have s0 : wr.cell? ⟨w.heap.size + 1, 0, none⟩ = some (.int .i64 0) := by simp [World.cell?, HNB.out.2]
        have f0 : wr.frozen? ⟨w.heap.size + 1, 0, none⟩ = false := by simp [World.frozen?, HNB.out.2]
        have s1 : wr.cell? ⟨w.heap.size + 1, 1, none⟩ = some (.string ⟨#[]⟩) := by simp [World.cell?, HNB.out.2]
        have f1 : wr.frozen? ⟨w.heap.size + 1, 1, none⟩ = false := by simp [World.frozen?, HNB.out.2]
        have s2 : wr.cell? ⟨w.heap.size + 1, 2, none⟩ = some (.int .i64 0) := by simp [World.cell?, HNB.out.2]
        have f2 : wr.frozen? ⟨w.heap.size + 1, 2, none⟩ = false := by simp [World.frozen?, HNB.out.2]
        have s3 : wr.cell? ⟨w.heap.size + 1, 3, none⟩ = some (.int .i64 0) := by simp [World.cell?, HNB.out.2]
        have f3 : wr.frozen? ⟨w.heap.size + 1, 3, none⟩ = false := by simp [World.frozen?, HNB.out.2]
        have s4 : wr.cell? ⟨w.heap.size + 1, 4, none⟩ = some (.slice none 0 0) := by simp [World.cell?, HNB.out.2]
        have f4 : wr.frozen? ⟨w.heap.size + 1, 4, none⟩ = false := by simp [World.frozen?, HNB.out.2]
        clear hj
        go_wp2_with fail
        obtain ⟨WF, hWF⟩ : ∃ W, W = (((((wr.setCell ⟨w.heap.size, 4, none⟩ (.slice vp t.kids.length vc)).setCell ⟨w.heap.size + 1, 0, none⟩ (.int .i64 t.kind)).setCell ⟨w.heap.size + 1, 1, none⟩ (.string t.text)).setCell ⟨w.heap.size + 1, 2, none⟩ (.int .i64 t.num)).setCell ⟨w.heap.size + 1, 3, none⟩ (.int .i64 (wrap64 (t.at_ + m)))).setCell ⟨w.heap.size + 1, 4, none⟩ (.slice vp t.kids.length vc) := ⟨_, rfl⟩
        have e5 : WF.heap[w.heap.size + 1]? = some (.cells #[.int .i64 t.kind, .string t.text, .int .i64 t.num, .int .i64 (wrap64 (t.at_ + m)), .slice vp t.kids.length vc] 24 (0, 0)) := by
          rw [hWF]
          exact heap_set (heap_set (heap_set (heap_set (heap_set ((Below.heap_setCell wr ⟨w.heap.size, 4, none⟩ (.slice vp t.kids.length vc) (w.heap.size + 1) (by show w.heap.size + 1 ≠ w.heap.size; omega)).trans HNB.out.2) 0 (.int .i64 t.kind)) 1 (.string t.text)) 2 (.int .i64 t.num)) 3 (.int .i64 (wrap64 (t.at_ + m)))) 4 (.slice vp t.kids.length vc)
        have HFB : Hid (∀ q, w.heap.size + 2 ≤ q → WF.heap[q]? = wr.heap[q]?) := fun q hq => by
          rw [hWF]
          rw [Below.heap_setCell _ _ _ _ (by show q ≠ w.heap.size + 1; omega), Below.heap_setCell _ _ _ _ (by show q ≠ w.heap.size + 1; omega), Below.heap_setCell _ _ _ _ (by show q ≠ w.heap.size + 1; omega), Below.heap_setCell _ _ _ _ (by show q ≠ w.heap.size + 1; omega), Below.heap_setCell _ _ _ _ (by show q ≠ w.heap.size + 1; omega), Below.heap_setCell _ _ _ _ (by show q ≠ w.heap.size; omega)]
        have HFS : Hid (WF.heap.size = wr.heap.size) := by show WF.heap.size = wr.heap.size; rw [hWF]; simp
        have HFW : Hid (Below w.heap.size w WF) := by
          rw [hWF]
          exact (((((HBW.out.setCell (p := ⟨w.heap.size, 4, none⟩) (Nat.le_refl _) _).setCell (p := ⟨w.heap.size + 1, 0, none⟩) (Nat.le_succ _) _).setCell (p := ⟨w.heap.size + 1, 1, none⟩) (Nat.le_succ _) _).setCell (p := ⟨w.heap.size + 1, 2, none⟩) (Nat.le_succ _) _).setCell (p := ⟨w.heap.size + 1, 3, none⟩) (Nat.le_succ _) _).setCell (p := ⟨w.heap.size + 1, 4, none⟩) (Nat.le_succ _) _
        rw [← hWF]
        obtain ⟨z0, z1, z2, z3, z4⟩ := cells5 e5
        clear hWF e5 s0 s1 s2 s3 s4 f0 f1 f2 f3 f4 m0 m1 m2 m3 k4 n3
        refine bodyPost_ret (v := .agg #[.int .i64 t.kind, .string t.text, .int .i64 t.num, .int .i64 (wrap64 (t.at_ + m)), .slice vp t.kids.length vc]) (by simp [results, Tryz.results24, go_sem, z0, z1, z2, z3, z4]) rfl ?_
        refine ⟨.node t.kind t.text t.num (wrap64 (t.at_ + m)) vp vc ts, by rw [nvk, HR.out.len], MvA.mk ⟨rfl, rfl, rfl, rfl⟩ HR.out.len (fun q hq hx => HR.out.mv q hx hq), ?_, HFW.out⟩
        show MT.Atm _ _ _
        rw [MT.Atm]
        have hfc : ∀ q o, w.heap.size + 2 ≤ q → WF.cell? ⟨q, o, none⟩ = wr.cell? ⟨q, o, none⟩ := fun q o hq => World.cell?_of_block (a := ⟨q, o, none⟩) (HFB.out q hq)
        have hle := HR.out.len
        rcases HR.out.own.2 with ⟨h0, h1⟩ | ⟨g, cap, cur, hv, hg, hgg, hn, hm, hs, htk⟩
        · obtain ⟨hv1, hv2, hv3⟩ : vp = none ∧ t.kids.length = 0 ∧ vc = 0 := by simpa using h0
          have hts : ts = [] := List.eq_nil_of_length_eq_zero (by omega)
          exact ⟨HIN.out.text_le, by rw [hts]; simp, by rw [hv3]; exact Nat.zero_le _, .inl hts⟩
        · cases hv
          refine ⟨HIN.out.text_le, by omega, hm, .inr ⟨g, 0, rfl, ⟨by omega, by rw [HFS.out]; exact (Array.getElem?_eq_some_iff.1 hgg).1⟩, MT.AtmL.mk fun i hi => ⟨?_, ?_⟩⟩⟩
          · have hc : ∀ q, q < 5 → WF.cell? ⟨g, 0 + i * 5 + q, none⟩ = ts[i].cells.toList[q]? := fun q hq => by
              rw [hfc g _ hg, Nat.zero_add]
              have h9 := nL_get ts i hi q hq
              have hl5 : ts[i].cells.toList.length = 5 := rfl
              obtain ⟨u, hu⟩ : ∃ u, ts[i].cells.toList[q]? = some u := ⟨_, List.getElem?_eq_getElem (l := ts[i].cells.toList) (by omega)⟩
              rw [hu] at h9 ⊢
              exact (own_cell HR.out.own _ _ h9).1
            exact ⟨hc 0 (by omega), hc 1 (by omega), hc 2 (by omega), hc 3 (by omega), hc 4 (by omega)⟩
          · exact MT.Atm.keep (fun q hq => ⟨by omega, by rw [HFS.out]; exact hq.2.1⟩) (fun q o hq => hfc q o hq.1) _ (HR.out.at_ _ (List.getElem_mem hi))
end Go.Proofs.YthbnegggohegkaaGreatDoor
