/-
  The walks of guiseref2.alike and guiseref2.Same, at every two trees.
  The walk of guiseref2.Same, at every two trees.
  Same asks both ways round the same.
-/
import Derived.Test.YthbnegggohegkaaGreatDoorRsJ
import Derived.Deep.RegionWith
import Derived.Deep.LoopGhost
namespace Go.Proofs.YthbnegggohegkaaGreatDoor
open Go.RowKit

theorem MT.like_iff (a b : MT) : MT.like a b = true ↔ a.kind = b.kind ∧ a.text.toList = b.text.toList ∧ a.num = b.num ∧ a.kids.length = b.kids.length := by
  rw [ByteArray.toList_eq, ByteArray.toList_eq]
  simp [MT.like, and_assoc]
theorem MT.alike_not {a b : MT} (h : ¬ (a.kind = b.kind ∧ a.text.toList = b.text.toList ∧ a.num = b.num ∧ a.kids.length = b.kids.length)) : MT.alike a b = false := by
  rw [MT.alike_eq]
  have : MT.like a b = false := by
    rw [Bool.eq_false_iff]; exact fun e => h ((MT.like_iff a b).1 e)
  rw [this]; rfl

theorem MT.alikeL_nil (ys : List MT) : MT.alikeL [] ys = true := by rw [MT.alikeL]
theorem MT.alikeL_snoc : ∀ (xs ys : List MT) (k : Nat) (hx : k < xs.length) (hy : k < ys.length), MT.alikeL (xs.take (k + 1)) (ys.take (k + 1)) = (MT.alikeL (xs.take k) (ys.take k) && MT.alike xs[k] ys[k])
  | x :: xs, y :: ys, 0, _, _ => by simp [MT.alikeL]
  | x :: xs, y :: ys, k + 1, hx, hy => by
    have := MT.alikeL_snoc xs ys k (by simpa using hx) (by simpa using hy)
    simp only [List.take_succ_cons, List.getElem_cons_succ, MT.alikeL]
    rw [this, Bool.and_assoc]
theorem MT.alikeL_take : ∀ (xs ys : List MT) (k : Nat), MT.alikeL (xs.take k) (ys.take k) = false → MT.alikeL xs ys = false
  | [], ys, k, h => by simp [MT.alikeL] at h
  | x :: xs, [], k, h => by cases k <;> simp [MT.alikeL] at h
  | x :: xs, y :: ys, 0, h => by simp [MT.alikeL] at h
  | x :: xs, y :: ys, k + 1, h => by
    simp only [List.take_succ_cons, MT.alikeL, Bool.and_eq_false_iff] at h ⊢
    rcases h with h | h
    · exact .inl h
    · exact .inr (MT.alikeL_take xs ys k h)

theorem MT.In.later {B : Nat} {w w' : World} {t : MT} (h : MT.In B w t) (hB : B ≤ w.heap.size) (hb : Below w.heap.size w w') : MT.In w'.heap.size w' t :=
  MT.In.mono (Nat.le_trans hB hb.size) t (MT.In.below (hb.mono hB) t h)

set_option maxHeartbeats 2000000 in
theorem refAlike_any (N : Nat) : ∀ (a b : MT) (w : World), a.size ≤ N → a.In w.heap.size w → b.In w.heap.size w →
    Calls Tryz.prog 34 #[nodeV a, nodeV b] w fun e w' => ∃ r : Bool, e = .returned (.bool r) ∧ Hid (r = MT.alike a b) ∧ Below w.heap.size w w' := by
  induction N with
  | zero => intro a b w h; have := a.size_pos; omega
  | succ N ih =>
    intro a b w hN ha hb
    have HI : Hid _ := ih
    clear ih
    have hcap := ha.cap_le
    have hlc := ha.len_le
    have hcap2 := hb.cap_le
    have hlc2 := hb.len_le
    unfold maxLen at hcap hcap2
    have HT : Hid (a.size = 1 + MT.sizeL a.kids) := a.size_eq
    have HB0 : Hid (Below w.heap.size w ((w.alloc (nodeO a)).alloc (nodeO b))) := ((Below.refl _ _).alloc (Nat.le_refl _) _).alloc (by simp) _
    by_cases hlk : ¬ (a.kind = b.kind ∧ a.text.toList = b.text.toList ∧ a.num = b.num ∧ a.kids.length = b.kids.length)
    · have hx := MT.alike_not hlk
      have HL : Hid (¬ (a.kind = b.kind ∧ a.text.toList = b.text.toList ∧ a.num = b.num ∧ a.kids.length = b.kids.length)) := hlk
      have HX : Hid (MT.alike a b = false) := hx
      clear hlk hx ha hb HI
      go_enter Tryz.func34, Tryz.ntmps34
      go_wp2_with fail
      all_goals first
        | (go_ret; exact ⟨false, rfl, HX.out.symm, ((Below.refl _ _).alloc (Nat.le_refl _) _).alloc (by simp) _⟩)
        | (exfalso
           have h1 : a.kind = b.kind := by assumption
           have h2 : a.text.toList = b.text.toList := by assumption
           have h3 : a.num = b.num := by assumption
           have h4 : ((a.kids.length : Int) != b.kids.length) = false := by assumption
           exact HL.out ⟨h1, h2, h3, by simp at h4; omega⟩)
    · obtain ⟨h1, h2, h3, h5⟩ := Classical.not_not.1 hlk
      clear hlk
      have HA : Hid (MT.alike a b = MT.alikeL a.kids b.kids) := by
        show _ = _
        rw [MT.alike_eq, (MT.like_iff a b).2 ⟨h1, h2, h3, h5⟩]; rfl
      have HL : Hid (a.kids.length = b.kids.length) := h5
      have e1 : (a.kind != b.kind) = false := by simp [h1]
      have e2 : (a.text.toList == b.text.toList) = true := by simp [h2]
      have e3 : (a.num != b.num) = false := by simp [h3]
      have e4 : ((a.kids.length : Int) != b.kids.length) = false := by simp [h5]
      clear h1 h2 h3 h5
      obtain ⟨ka, sa, na, ta, pa, ca, ksa⟩ := a
      obtain ⟨kb, sb, nb, tb, pb, cb, ksb⟩ := b
      have ha1 := ha.kidsL
      have hb1 := hb.kidsL
      have NA := BoxAt.new w (MT.node ka sa na ta pa ca ksa)
      have NB := BoxAt.new (w.alloc (nodeO (MT.node ka sa na ta pa ca ksa))) (MT.node kb sb nb tb pb cb ksb)
      simp only [nodeV, MT.kind_node, MT.text_node, MT.num_node, MT.at_node, MT.ptr_node, MT.cap_node, MT.kids_node] at *
      go_enter Tryz.func34, Tryz.ntmps34
      go_wp2_with fail
      clear e1 e2 e3 e4
      go_loopg [5] ksa.length (fun g i wr => ∃ k : Nat, g + k = ksa.length ∧ i = .int .i64 k ∧ Hid (MT.alikeL (ksa.take k) (ksb.take k) = true) ∧ Below (w.heap.size + 2) ((w.alloc (nodeO (MT.node ka sa na ta pa ca ksa))).alloc (nodeO (MT.node kb sb nb tb pb cb ksb))) wr)
      case atStart => exact ⟨0, rfl, rfl, MT.alikeL_nil _, Below.refl _ _⟩
      case round =>
        obtain ⟨k, hk, rfl, hal, hbb⟩ := hrel
        have HG : Hid (gk + k = ksa.length) := hk
        clear hk
        have HB : Hid (Below w.heap.size w wr) := HB0.out.trans (hbb.mono (by omega))
        have hz := hbb.size
        simp only [World.size_alloc] at hz
        have k4 := ((NA.below (Nat.lt_succ_self _) ((Below.refl _ _).alloc (by simp) (nodeO (MT.node kb sb nb tb pb cb ksb)))).below (by omega : w.heap.size < w.heap.size + 2) hbb).k4
        have k4' := (NB.below (by simp : (w.alloc (nodeO (MT.node ka sa na ta pa ca ksa))).heap.size < w.heap.size + 2) hbb).k4
        simp only [World.size_alloc, MT.ptr_node, MT.cap_node, MT.kids_node] at k4 k4'
        have HBB : Hid (Below (w.heap.size + 2) ((w.alloc (nodeO (MT.node ka sa na ta pa ca ksa))).alloc (nodeO (MT.node kb sb nb tb pb cb ksb))) wr) := hbb
        clear hbb
        by_cases hlt : k < ksa.length
        · have hlt2 : k < ksb.length := HL.out ▸ hlt
          obtain ⟨b1, o1, rfl, hbB, hLa0⟩ := ha1.resolve_left (fun h => by rw [h] at hlt; simp at hlt)
          obtain ⟨b2, o2, rfl, hbB2, hLb0⟩ := hb1.resolve_left (fun h => by rw [h] at hlt2; simp at hlt2)
          have hLa := MT.InL.below HB.out b1 o1 hbB ksa hLa0
          have hLb := MT.InL.below HB.out b2 o2 hbB2 ksb hLb0
          obtain ⟨hC, hI⟩ := hLa.get k hlt
          obtain ⟨hD, hJ⟩ := hLb.get k hlt2
          have HS : Hid (MT.sizeL (ksa.take (k + 1)) = MT.sizeL (ksa.take k) + (ksa[k]).size) := MT.sizeL_take_succ ksa k hlt
          have HLE : Hid (MT.sizeL (ksa.take (k + 1)) ≤ MT.sizeL ksa) := MT.sizeL_take_le _ _
          have HX : Hid (MT.alikeL (ksa.take (k + 1)) (ksb.take (k + 1)) = MT.alike ksa[k] ksb[k]) := by
            show _ = _
            rw [MT.alikeL_snoc _ _ _ hlt hlt2, hal.out, Bool.true_and]
          generalize ksa[k] = x at hC hI HS HX
          generalize ksb[k] = y at hD hJ HX
          obtain ⟨c0, c1, c2, c3, c4⟩ := hC
          obtain ⟨d0, d1, d2, d3, d4⟩ := hD
          clear hLa hLb hLa0 hLb0 ha1 hb1 ha hb NA NB
          have HC : Hid (∀ W, Below wr.heap.size wr W → Calls Tryz.prog 34 #[nodeV x, nodeV y] W fun e w' => ∃ r : Bool, e = .returned (.bool r) ∧ Hid (r = MT.alike x y) ∧ Below wr.heap.size wr w') := fun W hW =>
            (HI.out x y W (by have := HS.out; have := HT.out; have := HLE.out; omega) (MT.In.later hI (by omega) hW) (MT.In.later hJ (by omega) hW)).mono
              fun _ _ ⟨r, h1, h2, h3⟩ => ⟨r, h1, h2, hW.trans (h3.mono hW.size)⟩
          clear HI hI hJ
          go_wp2_with fail
          go_region_with (go_at_call 34; refine (HC.out _ ?_).mono ?_; exact (Below.refl _ _).drew; rintro e w2 ⟨r, rfl, hr, hb3⟩)
          all_goals clear c0 c1 c2 c3 c4 d0 d1 d2 d3 d4 k4 k4' HC
          all_goals cases r
          all_goals go_wp2_with fail
          all_goals first
            | (go_ret
               refine ⟨false, rfl, ?_, HB.out.trans (hb3.mono (by omega))⟩
               show _ = _
               rw [HA.out]
               exact (MT.alikeL_take _ _ (k + 1) (HX.out.trans hr.out.symm)).symm)
            | (go_roundg (ksa.length - (k + 1))
               case measure => have := HG.out; omega
               case rel => exact ⟨k + 1, by omega, by go_num, HX.out.trans hr.out.symm, HBB.out.trans (hb3.mono (by omega))⟩)
        · have hke : ksa.length ≤ k := by omega
          have HX : Hid (MT.alike (MT.node ka sa na ta pa ca ksa) (MT.node kb sb nb tb pb cb ksb) = true) := by
            show _ = _
            have h1 := hal.out
            rw [List.take_of_length_le hke, List.take_of_length_le (HL.out ▸ hke)] at h1
            rw [HA.out]; exact h1
          clear hke
          go_wp2_with fail
          go_ret
          exact ⟨true, rfl, HX.out.symm, HB.out⟩
end Go.Proofs.YthbnegggohegkaaGreatDoor
namespace Go.Proofs.YthbnegggohegkaaGreatDoor
open Go.RowKit

mutual
theorem MT.alike_size : ∀ (a b : MT), MT.alike a b = true → a.size = b.size
  | node k s n t p c ks, b, h => by
    rw [MT.alike_eq, Bool.and_eq_true, MT.like_iff] at h
    have := MT.alikeL_size ks b.kids h.1.2.2.2 h.2
    rw [MT.size_eq, MT.size_eq, MT.kids_node, this]
theorem MT.alikeL_size : ∀ (xs ys : List MT), xs.length = ys.length → MT.alikeL xs ys = true → MT.sizeL xs = MT.sizeL ys
  | [], [], _, _ => rfl
  | x :: xs, y :: ys, hl, h => by
    rw [MT.alikeL, Bool.and_eq_true] at h
    rw [MT.sizeL, MT.sizeL, MT.alike_size x y h.1, MT.alikeL_size xs ys (by simpa using hl) h.2]
  | [], y :: ys, hl, _ => by simp at hl
  | x :: xs, [], hl, _ => by simp at hl
end

/-- Same, as the document has it. -/
def MT.same (a b : MT) : Bool := decide (a.size ≤ 1000000) && MT.alike a b

set_option maxHeartbeats 1000000 in
theorem refSame_any (a b : MT) (w : World) (ha : a.In w.heap.size w) (hb : b.In w.heap.size w) :
    Calls Tryz.prog 16 #[nodeV a, nodeV b] w fun e w' => ∃ r : Bool, e = .returned (.bool r) ∧ Hid (r = MT.same a b) ∧ Below w.heap.size w w' := by
  have hb0 : Below w.heap.size w ((w.alloc (nodeO a)).alloc (nodeO b)) := ((Below.refl _ _).alloc (Nat.le_refl _) _).alloc (by simp) _
  have NA := (BoxAt.new w a).below (Nat.lt_succ_self _) ((Below.refl _ _).alloc (by simp) (nodeO b))
  have NB := BoxAt.new (w.alloc (nodeO a)) b
  simp only [World.size_alloc] at NB
  go_enter Tryz.func16, Tryz.ntmps16
  go_wp2_with fail
  refine (refCount_any a _ (MT.In.later ha (Nat.le_refl _) hb0)).mono ?_
  rintro e w1 ⟨r1, rfl, hr10, hr11, hr1, hb1⟩
  have hB1 := hb0.trans (hb1.mono (by simp; omega))
  have hz1 := hb1.size
  simp only [World.size_alloc] at hz1
  obtain ⟨p0, p1, p2, p3, p4⟩ := NA.below (by simp; omega) hb1
  obtain ⟨q0, q1, q2, q3, q4⟩ := NB.below (by simp) hb1
  have HB1 : Hid (Below w.heap.size w w1) := hB1
  clear hb1 hB1 NA NB hb0
  go_wp2_with fail
  refine (refCount_any b _ (MT.In.later hb (Nat.le_refl _) HB1.out)).mono ?_
  rintro e w2 ⟨r2, rfl, hr20, hr21, hr2, hb2⟩
  have HB2 : Hid (Below w.heap.size w w2) := HB1.out.trans (hb2.mono HB1.out.size)
  have P := (BoxAt.mk p0 p1 p2 p3 p4).below (by omega) hb2
  have Q := (BoxAt.mk q0 q1 q2 q3 q4).below (by omega) hb2
  have hz2 := hb2.size
  clear p0 p1 p2 p3 p4 q0 q1 q2 q3 q4 hb2
  obtain ⟨p0, p1, p2, p3, p4⟩ := P
  obtain ⟨q0, q1, q2, q3, q4⟩ := Q
  by_cases h1 : r1 ≤ 1000000 ∧ r1 = r2
  · have g1 : decide (r1 ≤ 1000000) = true := by simp; exact h1.1
    have g2 : (r1 == r2) = true := by simp; exact h1.2
    have HX : Hid (a.size ≤ 1000000) := by show _ ≤ _; have := hr1.out; omega
    clear h1
    go_wp2_with fail
    refine (refAlike_any a.size a b _ (Nat.le_refl _) (MT.In.later ha (Nat.le_refl _) HB2.out) (MT.In.later hb (Nat.le_refl _) HB2.out)).mono ?_
    rintro e w3 ⟨r, rfl, hr, hb3⟩
    go_wp2_with fail
    go_ret
    exact ⟨r, rfl, by show _ = _; rw [MT.same, decide_eq_true HX.out, Bool.true_and]; exact hr.out, HB2.out.trans (hb3.mono HB2.out.size)⟩
  · have HX : Hid (MT.same a b = false) := by
      show _ = _
      rw [Bool.eq_false_iff]
      intro e
      rw [MT.same, Bool.and_eq_true, decide_eq_true_iff] at e
      have := MT.alike_size a b e.2
      have := hr1.out; have := hr2.out
      omega
    by_cases h2 : r1 ≤ 1000000
    · have g1 : decide (r1 ≤ 1000000) = true := by simp; exact h2
      have g2 : (r1 == r2) = false := by simp; omega
      clear h1
      go_wp2_with fail
      go_ret
      exact ⟨false, rfl, HX.out.symm, HB2.out⟩
    · have g1 : decide (r1 ≤ 1000000) = false := by simp; omega
      clear h1
      go_wp2_with fail
      go_ret
      exact ⟨false, rfl, HX.out.symm, HB2.out⟩
end Go.Proofs.YthbnegggohegkaaGreatDoor
namespace Go.Proofs.YthbnegggohegkaaGreatDoor

mutual
theorem MT.alike_comm : ∀ a b : MT, MT.alike a b = MT.alike b a
  | .node k s n p q c ks, .node k' s' n' p' q' c' ks' => by
    simp only [MT.alike, MT.kind_node, MT.text_node, MT.num_node, MT.kids_node]
    rw [MT.alikeL_comm ks ks', Bool.beq_comm (a := k), Bool.beq_comm (a := n), Bool.beq_comm (a := s.data.toList), Bool.beq_comm (a := ks.length)]
theorem MT.alikeL_comm : ∀ a b : List MT, MT.alikeL a b = MT.alikeL b a
  | [], [] => rfl
  | [], _ :: _ => by simp [MT.alikeL]
  | _ :: _, [] => by simp [MT.alikeL]
  | x :: xs, y :: ys => by simp only [MT.alikeL]; rw [MT.alike_comm x y, MT.alikeL_comm xs ys]
end

theorem MT.same_comm (a b : MT) : MT.same b a = MT.same a b := by
  unfold MT.same
  rw [MT.alike_comm b a]
  cases h : MT.alike a b
  · simp
  · rw [MT.alike_size a b h]
end Go.Proofs.YthbnegggohegkaaGreatDoor
