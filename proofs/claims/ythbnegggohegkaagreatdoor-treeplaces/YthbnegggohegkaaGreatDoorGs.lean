/-
  The walk of (*checker).check and of tree.Right, at every tree.
-/
import Derived.Test.YthbnegggohegkaaGreatDoorGrJ
namespace Go.Proofs.YthbnegggohegkaaGreatDoor
open Go.RowKit

theorem ShLe_ite {P : Shp → Prop} {c : Prop} [Decidable c] {a b : Shp} (ha : P a) (hb : P b) : P (if c then a else b) := by
  by_cases h : c
  · rw [if_pos h]; exact ha
  · rw [if_neg h]; exact hb
/-- Roles are roles, and few. -/
def ShSmall (S : Shp) : Prop := (∀ r ∈ S.roles, r ≤ 30) ∧ S.roles.length < 100
theorem sh_small (k : Int) (ks : List MT) (rl : Nat) : ShSmall (shOf k ks rl) := by
  unfold shOf
  repeat' apply ShLe_ite
  all_goals
    unfold ShSmall
    first
      | (simp [shEx, shAl, shAm]; done)
      | (cases noneAt ks 2 <;> (simp [shEx]; done))

/-- What check leaves behind. -/
def ChkP (cb : Nat) (w : World) (r : Except (Nat × MT) Nat) (e : Ending) (w' : World) : Prop :=
  Chk cb w w' ∧ match r with
  | .ok b => e = .returned .nilIface ∧ w'.cell? ⟨cb, 0, none⟩ = some (.int .i64 (b : Nat)) ∧ w'.frozen? ⟨cb, 0, none⟩ = false
  | .error (code, x) => ∃ B, e = .returned (.iface 67 (.pointer (some ⟨B, 0, none⟩))) ∧ w.heap.size ≤ B ∧ w'.heap[B]? = some (.cells #[.int .i64 (code : Nat), .int .i64 x.at_, .string (toldName x.text)] 28 (0, 0))

/-- What holds between two rounds of check over a node's Kids. -/
structure CkAt (cb : Nat) (w : World) (sb : Nat) (t : MT) (S : Shp) (q : Option Addr) (b : Nat) (wr : World) : Prop where
  cell : wr.cell? ⟨cb, 0, none⟩ = some (.int .i64 (b : Nat))
  frozen : wr.frozen? ⟨cb, 0, none⟩ = false
  chk : Chk cb w wr
  node : CellsOf wr w.heap.size (nd t.kind t.text t.num t.at_ t.ptr t.kids.length t.cap)
  shape : CellsOf wr sb (shV S q)
  role : RolesAt wr (w.heap.size + 1) q S.roles
  big : w.heap.size < wr.heap.size ∧ sb < wr.heap.size ∧ cb < w.heap.size ∧ w.heap.size < sb

theorem RolesAt.chk {w w' : World} {lo cb : Nat} {p : Option Addr} {rs : List Nat} (h : RolesAt w lo p rs) (hl : cb < lo) (hb : Chk cb w w') : RolesAt w' lo p rs := by
  rcases h with h | ⟨g, h1, h2, h3, h4⟩
  · exact .inl h
  · exact .inr ⟨g, h1, h2, by have := hb.size; omega, fun i hi => (hb.cell (by omega) (by omega)).trans (h4 i hi)⟩

theorem chkK_drop (f : MT → Nat → Nat → Except (Nat × MT) Nat) (rs : Nat → Nat) (ks : List MT) (j b : Nat) (h : j < ks.length) : chkK f rs j (ks.drop j) b = match f ks[j] (rs j) b with | .error e => .error e | .ok c => chkK f rs (j + 1) (ks.drop (j + 1)) c := by
  rw [List.drop_eq_getElem_cons h, chkK]
  cases f ks[j] (rs j) b <;> rfl

theorem nf_not (t : MT) (rl a : Nat) : nodeFault t rl a false ≠ 0 := by
  unfold nodeFault
  split
  · decide
  · rw [if_pos rfl]; decide

theorem no_roles {t : MT} {rl a : Nat} (h : nodeFault t rl a true = 0) (hn : (shOf t.kind t.kids rl).roles = []) : t.kids = [] := by
  obtain ⟨_, _, _, _, n5⟩ := (nf_zero t rl a).1 h
  obtain ⟨e1, e2, e3⟩ := (sh_roles t.kind t.kids rl).2 hn
  unfold faultSh at n5
  rw [e1, e2, e3] at n5
  simp only [Nat.not_lt_zero, if_false, Int.lt_irrefl, false_or] at n5
  split at n5
  · exact List.eq_nil_of_length_eq_zero (by omega)
  · simp at n5
theorem roles_le (t : MT) (rl i : Nat) : rolesOf t rl i ≤ 30 := by
  unfold rolesOf
  split
  · omega
  · by_cases hn : (shOf t.kind t.kids rl).roles = []
    · unfold roleAt; rw [hn]; simp
    · exact (sh_small t.kind t.kids rl).1 _ (roleAt_mem i hn)

set_option maxRecDepth 100000 in
set_option maxHeartbeats 8000000 in
theorem check_bad {gw ow gs os : Nat} (cb : Nat) (t : MT) (ah : Nat) (deep : Int) (rl : Nat) (hrl : rl ≤ 30) (w : World) (ht : TabsAt gw ow gs os w) (hin : t.In cb w) (hcb : cb < w.heap.size) (hc : w.cell? ⟨cb, 0, none⟩ = some (.int .i64 (ah : Nat)))
    (fl : Nat) (hfl : fl = nodeFault t rl ah (decide (deep ≤ 60))) (hne : fl ≠ 0) :
    Calls Tryz.prog 31 #[.pointer (some ⟨cb, 0, none⟩), nodeV t, .int .i64 (rl : Nat), .int .i64 deep] w (ChkP cb w (.error (fl, t))) := by
  have HF : Hid (∀ q W, Below w.heap.size w W → Calls Tryz.prog 50 #[.pointer (some ⟨cb, 0, none⟩), nodeV t, .int .i64 (rl : Nat), .int .i64 deep, .agg (shV (shOf t.kind t.kids rl) q)] W fun e w' => e = .returned (.int .i64 (fl : Nat)) ∧ Below W.heap.size W w') := fun q W hW => by
    rw [hfl]; exact fault_any cb ah deep t rl hrl q W (ht.below (Nat.le_refl _) hW) (by have := hW.size; omega) ((hW.cell (p := ⟨cb, 0, none⟩) hcb).trans hc)
  have HS : Hid (∀ W, Below w.heap.size w W → Calls Tryz.prog 49 #[nodeV t, .int .i64 (rl : Nat)] W (ShP (shOf t.kind t.kids rl) W)) := fun W hW => by
    have h := MT.In.mono (show cb ≤ W.heap.size by have := hW.size; omega) t (MT.In.below (hW.mono (by omega)) t hin)
    obtain ⟨k, s, n, a, p, c, ks⟩ := t
    exact shape_any k s n a p c ks rl W h
  clear hin hfl ht hc
  generalize shOf t.kind t.kids rl = S at HF HS
  have N0 := CellsOf.new w (nd t.kind t.text t.num t.at_ t.ptr t.kids.length t.cap) 24
  have hb0 := below1 w (.cells (nd t.kind t.text t.num t.at_ t.ptr t.kids.length t.cap) 24)
  have hnf : (((fl : Nat) : Int) == 0) = false := by simp; omega
  go_enter Tryz.func31, Tryz.ntmps31
  go_wp2_with fail
  refine (HS.out _ hb0).mono ?_
  rintro e w1 ⟨q, rfl, hR, hb1⟩
  have hz1 := hb1.size
  simp only [World.size_alloc] at hz1
  have hB1 := hb0.trans (hb1.mono (by simp))
  have N1 := N0.below (by simp) hb1
  have N2 := N1.below (by omega : w.heap.size < w1.heap.size) (below1 w1 (.cells (shV S q) 94))
  have hB2 := hB1.trans ((below1 w1 (.cells (shV S q) 94)).mono (by omega))
  have n0 := N2 0 _ rfl
  have n1 := N2 1 _ rfl
  have n2 := N2 2 _ rfl
  have n3 := N2 3 _ rfl
  have n4 := N2 4 _ rfl
  clear N0 N1 hb0 hb1 hR
  go_wp2_with fail
  refine (HF.out q _ hB2).mono ?_
  rintro e w2 ⟨rfl, hb3⟩
  have hz3 := hb3.size
  simp only [World.size_alloc] at hz3
  have hB3 := hB2.trans (hb3.mono (by simp; omega))
  have N3 := N2.below (by simp; omega) hb3
  have q0 := N3 0 _ rfl
  have q1 := N3 1 _ rfl
  have q2 := N3 2 _ rfl
  have q3 := N3 3 _ rfl
  have q4 := N3 4 _ rfl
  clear n0 n1 n2 n3 n4 hB2 N2 N3 HF HS
  go_wp2_with fail
  refine (treeWrong_all (fl : Nat) t.kind t.text t.num t.at_ t.ptr t.kids.length t.cap _).mono ?_
  rintro e w4 ⟨B, rfl, hB, hrow, hb4⟩
  have HE : Hid (Below w.heap.size w w4) := hB3.trans (hb4.mono hB3.size)
  have HB : Hid (w.heap.size ≤ B) := by have := hB3.size; show _ ≤ _; omega
  have HR : Hid _ := hrow
  clear q0 q1 q2 q3 q4 hB3 hb3 hb4 hrow
  go_wp2_with fail
  go_ret
  exact ⟨Chk.of HE.out (by omega), B, rfl, HB.out, HR.out⟩

set_option maxRecDepth 100000 in
set_option maxHeartbeats 8000000 in
theorem check_any {gw ow gs os : Nat} (cb : Nat) (h6 : 6 ≤ cb) (hgw : gw < cb) (hgs : gs < cb) : ∀ (f : Nat) (t : MT) (ah rl : Nat) (w : World), f ≤ 60 → rl ≤ 30 → TabsAt gw ow gs os w → t.In cb w →
    cb < w.heap.size → w.cell? ⟨cb, 0, none⟩ = some (.int .i64 (ah : Nat)) → w.frozen? ⟨cb, 0, none⟩ = false →
    Calls Tryz.prog 31 #[.pointer (some ⟨cb, 0, none⟩), nodeV t, .int .i64 (rl : Nat), .int .i64 (61 - (f : Nat))] w (ChkP cb w (chk f t rl ah)) := by
  intro f
  induction f with
  | zero =>
    intro t ah rl w _ hrl ht hin hcb hc _
    rw [chk]
    exact check_bad cb t ah 61 rl hrl w ht hin hcb hc _ rfl (nf_not t rl ah)
  | succ f ih =>
    intro t ah rl w hf hrl ht hin hcb hc hfz
    rw [chk]
    by_cases hn : nodeFault t rl ah true = 0
    case neg =>
      rw [if_neg hn]
      have hd : decide ((61 : Int) - ((f + 1 : Nat) : Int) ≤ 60) = true := decide_eq_true (by omega)
      exact check_bad cb t ah _ rl hrl w ht hin hcb hc _ (by rw [hd]) hn
    rw [if_pos hn]
    have HI : Hid _ := ih
    clear ih
    have hlt20 : ah < 20000 := ((nf_zero t rl ah).1 hn).1
    have HF : Hid (∀ q W, Below w.heap.size w W → Calls Tryz.prog 50 #[.pointer (some ⟨cb, 0, none⟩), nodeV t, .int .i64 (rl : Nat), .int .i64 (61 - ((f + 1 : Nat) : Int)), .agg (shV (shOf t.kind t.kids rl) q)] W fun e w' => e = .returned (.int .i64 0) ∧ Below W.heap.size W w') := fun q W hW => by
      have h := fault_any cb ah (61 - ((f + 1 : Nat) : Int)) t rl hrl q W (ht.below (Nat.le_refl _) hW) (by have := hW.size; omega) ((hW.cell (p := ⟨cb, 0, none⟩) hcb).trans hc)
      rw [decide_eq_true (show (61 : Int) - ((f + 1 : Nat) : Int) ≤ 60 by omega), hn] at h
      exact h
    have HS : Hid (∀ W, Below w.heap.size w W → Calls Tryz.prog 49 #[nodeV t, .int .i64 (rl : Nat)] W (ShP (shOf t.kind t.kids rl) W)) := fun W hW => by
      have h := MT.In.mono (show cb ≤ W.heap.size by have := hW.size; omega) t (MT.In.below (hW.mono (by omega)) t hin)
      obtain ⟨k, s, n, a, p, c, ks⟩ := t
      exact shape_any k s n a p c ks rl W h
    have H2 : Hid (∀ W, Chk cb w W → Calls Tryz.prog 52 #[nodeV t] W fun e w' => e = .returned (.int .i64 (secDef t.kids 0 0)) ∧ Below W.heap.size W w') := fun W hW => by
      have h := MT.In.mono (show cb ≤ W.heap.size by have := hW.size; omega) t (MT.In.below hW.below t hin)
      obtain ⟨k, s, n, a, p, c, ks⟩ := t
      exact second_all k s n a p c ks W h
    have HNR : Hid ((shOf t.kind t.kids rl).roles = [] → t.kids = []) := no_roles hn
    have HSS : Hid (ShSmall (shOf t.kind t.kids rl)) := sh_small _ _ _
    have HRO : Hid (∀ i, rolesOf t rl i = if (i : Int) = secDef t.kids 0 0 then 1 else roleAt (shOf t.kind t.kids rl) i) := fun i => rfl
    have HRL : Hid (∀ i, rolesOf t rl i ≤ 30) := roles_le t rl
    have hkids := hin.kidsL
    have hcap := hin.cap_le
    have hlc := hin.len_le
    unfold maxLen at hcap
    have HT : Hid (TabsAt gw ow gs os w) := ht
    clear hn hin ht
    generalize shOf t.kind t.kids rl = S at HF HS HNR HSS HRO
    generalize rolesOf t rl = ro at HRO HRL ⊢
    generalize secDef t.kids 0 0 = spare at H2 HRO
    obtain ⟨R, hRd⟩ : ∃ R, R = chkK (chk f) ro 0 t.kids (ah + 1) := ⟨_, rfl⟩
    rw [← hRd]
    have HRR : Hid (R = chkK (chk f) ro 0 t.kids (ah + 1)) := hRd
    clear hRd
    obtain ⟨k, s, n, a0, p, c, ks⟩ := t
    simp only [MT.kind_node, MT.text_node, MT.num_node, MT.at_node, MT.ptr_node, MT.cap_node, MT.kids_node, nodeV] at HS HF H2 HNR HRO hkids hcap hlc HRR ⊢
    have N0 := CellsOf.new w (nd k s n a0 p ks.length c) 24
    have hb0 := below1 w (.cells (nd k s n a0 p ks.length c) 24)
    have hf' : f + 1 ≤ 60 := hf
    go_enter Tryz.func31, Tryz.ntmps31
    go_wp2_with fail
    refine (HS.out _ hb0).mono ?_
    rintro e w1 ⟨q, rfl, hR, hb1⟩
    have hz1 := hb1.size
    simp only [World.size_alloc] at hz1 hR
    have hB1 := hb0.trans (hb1.mono (by simp))
    have N1 := N0.below (by simp) hb1
    have N2 := N1.below (by omega : w.heap.size < w1.heap.size) (below1 w1 (.cells (shV S q) 94))
    have hB2 := hB1.trans ((below1 w1 (.cells (shV S q) 94)).mono (by omega))
    have S2 := CellsOf.new w1 (shV S q) 94
    have R2 := hR.below (Nat.le_refl _) (below1 w1 (.cells (shV S q) 94))
    have n0 := N2 0 _ rfl
    have n1 := N2 1 _ rfl
    have n2 := N2 2 _ rfl
    have n3 := N2 3 _ rfl
    have n4 := N2 4 _ rfl
    clear N0 N1 hb0 hb1 hR
    go_wp2_with fail
    refine (HF.out q _ hB2).mono ?_
    rintro e w2 ⟨rfl, hb3⟩
    have hz3 := hb3.size
    simp only [World.size_alloc] at hz3
    have hB3 := hB2.trans (hb3.mono (by simp; omega))
    have hc3 := (hB3.cell (p := ⟨cb, 0, none⟩) hcb).trans hc
    have hf3 := (hB3.frozen (p := ⟨cb, 0, none⟩) hcb).trans hfz
    have N3 := N2.below (by simp; omega) hb3
    have S3 := S2.below (by simp) hb3
    have R3 := R2.below (Nat.le_refl _) hb3
    have hK3 := Chk.of hB3 (Nat.le_of_lt hcb)
    have hK4 := Chk.set cb w2 (.int .i64 ((ah + 1 : Nat) : Int))
    have N4 := hK4.cells N3 (by omega) (by omega)
    have S4 := hK4.cells S3 (by omega) (by omega)
    have R4 := R3.chk (by omega) hK4
    have hz4 := hK4.size
    have hc4 : (w2.setCell ⟨cb, 0, none⟩ (.int .i64 ((ah + 1 : Nat) : Int))).cell? ⟨cb, 0, none⟩ = some (.int .i64 ((ah + 1 : Nat) : Int)) := World.cell?_setCell_same' _ _ _ (by rw [hc3]; rfl)
    have hf4 : (w2.setCell ⟨cb, 0, none⟩ (.int .i64 ((ah + 1 : Nat) : Int))).frozen? ⟨cb, 0, none⟩ = false := by rw [World.frozen?_setCell]; exact hf3
    have HK4 : Hid (Chk cb w (w2.setCell ⟨cb, 0, none⟩ (.int .i64 ((ah + 1 : Nat) : Int)))) := hK3.trans hK4
    obtain ⟨W5, hW5⟩ : ∃ W5, W5 = w2.setCell ⟨cb, 0, none⟩ (.int .i64 ((ah + 1 : Nat) : Int)) := ⟨_, rfl⟩
    rw [← hW5] at N4 S4 R4 hz4 hc4 hf4 HK4
    have e5 : w2.setCell ⟨cb, 0, none⟩ (.int .i64 ((ah : Nat) + 1)) = W5 := by rw [hW5]; rfl
    clear n0 n1 n2 n3 n4 hK3 hK4 HF HS N2 S2 R2 R3 hB1 hB2 hW5 hb3
    have q0 := N4 0 _ rfl
    have q1 := N4 1 _ rfl
    have q2 := N4 2 _ rfl
    have q3 := N4 3 _ rfl
    have q4 := N4 4 _ rfl
    clear N3 S3
    go_wp2_with fail
    clear e5 hc3 hf3 q0 q1 q2 q3 q4
    refine (H2.out _ HK4.out).mono ?_
    rintro e w6 ⟨rfl, hb5⟩
    have hz5 := hb5.size
    have h5 : CkAt cb w w1.heap.size (.node k s n a0 p c ks) S q (ah + 1) w6 :=
      ⟨(hb5.cell (p := ⟨cb, 0, none⟩) (by show cb < _; omega)).trans hc4, (hb5.frozen (p := ⟨cb, 0, none⟩) (by show cb < _; omega)).trans hf4, HK4.out.trans (Chk.of hb5 (by omega)), N4.below (by omega) hb5, S4.below (by omega) hb5, R4.below (Nat.le_refl _) hb5 |>.mono (by omega), by omega⟩
    have r4 : w6.cell? ⟨w.heap.size, 4, none⟩ = some (.slice p ks.length c) := h5.node 4 _ rfl
    clear hb5 hc4 hf4 N4 S4 R4 HK4 hc hfz hB3
    go_wp2_with fail
    clear r4
    go_loopg [42] ks.length (fun gk i wr => ∃ j b : Nat, gk + j = ks.length ∧ i = .int .i64 j ∧ Hid (R = chkK (chk f) ro j (ks.drop j) b) ∧ CkAt cb w w1.heap.size (.node k s n a0 p c ks) S q b wr)
    case atStart => exact ⟨0, ah + 1, rfl, rfl, HRR.out, h5⟩
    case round =>
      obtain ⟨j, b, hj, rfl, hRj, hA⟩ := hrel
      clear h5
      by_cases hlt : j < ks.length
      · obtain ⟨kb, ko, rfl, hbB, hL⟩ := hkids.resolve_left (fun h => by rw [h] at hlt; simp at hlt)
        obtain ⟨⟨c0, c1, c2, c3, c4⟩, hkin⟩ := (MT.InL.below hA.chk.below kb ko hbB ks hL).get j hlt
        have HRj : Hid (R = match chk f ks[j] (ro j) b with | .error e => .error e | .ok c => chkK (chk f) ro (j + 1) (ks.drop (j + 1)) c) := hRj.out.trans (chkK_drop _ _ _ _ _ hlt)
        have hne : S.roles ≠ [] := fun h => by have := HNR.out h; rw [this] at hlt; simp at hlt
        have hbig := hA.big
        have s0 := hA.shape 0 _ rfl
        have s1 := hA.shape 1 _ rfl
        have s2 := hA.shape 2 _ rfl
        have s3 := hA.shape 3 _ rfl
        have hbw : kb < wr.heap.size := by omega
        generalize ks[j] = kid at c0 c1 c2 c3 c4 hkin HRj
        have hbK := below1 wr (nodeO kid)
        have K0 := BoxAt.new wr kid
        have HR53 : Hid (Calls Tryz.prog 53 #[.agg (shV S q), .int .i64 (j : Nat)] (wr.alloc (nodeO kid)) fun e w' => e = .returned (.int .i64 (roleAt S j : Nat)) ∧ Below (wr.heap.size + 1) (wr.alloc (nodeO kid)) w') :=
          Calls.mono (role_any S q _ j _ (hA.role.below (Nat.le_refl _) hbK) hne HSS.out.2) fun _ _ ⟨h1, h2⟩ => ⟨h1, h2.mono (by simp)⟩
        have HCK : Hid (∀ W6, Below wr.heap.size wr W6 → wr.heap.size < W6.heap.size → Calls Tryz.prog 31 #[.pointer (some ⟨cb, 0, none⟩), nodeV kid, .int .i64 (ro j : Nat), .int .i64 (61 - (f : Nat))] W6 (ChkP cb W6 (chk f kid (ro j) b))) := fun W6 hB6 _ =>
          HI.out kid b (ro j) W6 (by omega) (HRL.out j) (HT.out.under h6 hgw hgs (hA.chk.trans (Chk.of hB6 (by omega))).below) (MT.In.below (hB6.mono (by omega)) kid hkin) (by have := hB6.size; omega)
            ((hB6.cell (p := ⟨cb, 0, none⟩) (by show cb < _; omega)).trans hA.cell) ((hB6.frozen (p := ⟨cb, 0, none⟩) (by show cb < _; omega)).trans hA.frozen)
        have HRJ : Hid (ro j = if (j : Int) = spare then 1 else roleAt S j) := HRO.out j
        have HJ : Hid (gk + j = ks.length) := hj
        have hj62 : j < 9223372036854775807 := by omega
        clear hj hL hkids hRj hne hkin HNR HSS HRO HRL HI HRR H2
        generalize ro j = rj at HCK HRJ HRj
        go_wp2_with fail
        refine Calls.mono HR53.out ?_
        rintro e w7 ⟨rfl, hb6⟩
        have hz6 := hb6.size
        simp only [World.size_alloc] at hz6
        have hB6 : Below wr.heap.size wr w7 := hbK.trans (hb6.mono (by omega))
        obtain ⟨k0, k1, k2, k3, k4⟩ := K0.below (by omega) hb6
        have HB6 : Hid (Below wr.heap.size wr w7) := hB6
        have HCC : Hid (Calls Tryz.prog 31 #[.pointer (some ⟨cb, 0, none⟩), nodeV kid, .int .i64 (rj : Nat), .int .i64 (61 - (f : Nat))] w7 (ChkP cb w7 (chk f kid rj b))) := HCK.out w7 hB6 (by omega)
        have hd1 : (61 : Int) - ((f : Nat) + 1) + 1 = 61 - (f : Nat) := by omega
        clear c0 c1 c2 c3 c4 s0 s1 s2 s3 hb6 hB6 hbK K0 HR53 HCK
        have HRJ' := HRJ.out
        clear HRJ
        generalize chk f kid rj b = C at HCC HRj
        by_cases hsp : (j : Int) = spare
        · rw [if_pos hsp] at HRJ'
          subst HRJ'
          have hspb : (((j : Nat) : Int) == spare) = true := by rw [hsp]; simp
          clear hsp
          go_wp2_with fail
          refine Calls.mono HCC.out ?_
          rintro e w8 ⟨hk8, hres⟩
          cases C with
          | error x =>
            obtain ⟨code, x⟩ := x
            obtain ⟨B, rfl, hB, hrow⟩ := hres
            have HE : Hid (R = .error (code, x)) := HRj.out
            have HP : Hid (Chk cb w w8) := (hA.chk.trans (Chk.of HB6.out (by omega))).trans hk8
            have HB : Hid (w.heap.size ≤ B) := by show _ ≤ _; omega
            have HRow : Hid (w8.heap[B]? = some (.cells #[.int .i64 (code : Nat), .int .i64 x.at_, .string (toldName x.text)] 28 (0, 0))) := hrow
            clear hrow hk8 hA
            go_wp2_with fail
            go_ret
            rw [HE.out]
            exact ⟨HP.out, B, rfl, HB.out, HRow.out⟩
          | ok cn =>
            obtain ⟨rfl, hc8, hf8⟩ := hres
            have HN : Hid (R = chkK (chk f) ro (j + 1) (ks.drop (j + 1)) cn) := HRj.out
            have hz8 := hk8.size
            have HA : Hid (CkAt cb w w1.heap.size (.node k s n a0 (some ⟨kb, ko, none⟩) c ks) S q cn w8) := ⟨hc8, hf8, (hA.chk.trans (Chk.of HB6.out (by omega))).trans hk8, hk8.cells (hA.node.below (by omega) HB6.out) (by omega) (by omega), hk8.cells (hA.shape.below (by omega) HB6.out) (by omega) (by omega), (hA.role.below (Nat.le_refl _) HB6.out).chk (by omega) hk8, by omega⟩
            clear hc8 hf8 hk8 hA
            go_wp2_with fail
            go_roundg (ks.length - (j + 1))
            case measure => have := HJ.out; omega
            case rel => exact ⟨j + 1, cn, by omega, by go_num, HN.out, HA.out⟩
        · rw [if_neg hsp] at HRJ'
          subst HRJ'
          have hspb : (((j : Nat) : Int) == spare) = false := beq_false_of_ne hsp
          clear hsp
          go_wp2_with fail
          refine Calls.mono HCC.out ?_
          rintro e w8 ⟨hk8, hres⟩
          cases C with
          | error x =>
            obtain ⟨code, x⟩ := x
            obtain ⟨B, rfl, hB, hrow⟩ := hres
            have HE : Hid (R = .error (code, x)) := HRj.out
            have HP : Hid (Chk cb w w8) := (hA.chk.trans (Chk.of HB6.out (by omega))).trans hk8
            have HB : Hid (w.heap.size ≤ B) := by show _ ≤ _; omega
            have HRow : Hid (w8.heap[B]? = some (.cells #[.int .i64 (code : Nat), .int .i64 x.at_, .string (toldName x.text)] 28 (0, 0))) := hrow
            clear hrow hk8 hA
            go_wp2_with fail
            go_ret
            rw [HE.out]
            exact ⟨HP.out, B, rfl, HB.out, HRow.out⟩
          | ok cn =>
            obtain ⟨rfl, hc8, hf8⟩ := hres
            have HN : Hid (R = chkK (chk f) ro (j + 1) (ks.drop (j + 1)) cn) := HRj.out
            have hz8 := hk8.size
            have HA : Hid (CkAt cb w w1.heap.size (.node k s n a0 (some ⟨kb, ko, none⟩) c ks) S q cn w8) := ⟨hc8, hf8, (hA.chk.trans (Chk.of HB6.out (by omega))).trans hk8, hk8.cells (hA.node.below (by omega) HB6.out) (by omega) (by omega), hk8.cells (hA.shape.below (by omega) HB6.out) (by omega) (by omega), (hA.role.below (Nat.le_refl _) HB6.out).chk (by omega) hk8, by omega⟩
            clear hc8 hf8 hk8 hA
            go_wp2_with fail
            go_roundg (ks.length - (j + 1))
            case measure => have := HJ.out; omega
            case rel => exact ⟨j + 1, cn, by omega, by go_num, HN.out, HA.out⟩
      · have HN : Hid (R = .ok b) := by
          have := hRj.out
          rwa [List.drop_of_length_le (by omega), chkK] at this
        clear hkids hRj HRR hj
        go_wp2_with fail
        go_ret
        rw [HN.out]
        exact ⟨hA.chk, rfl, hA.cell, hA.frozen⟩
/-- What Right leaves behind. -/
def RightP (w : World) (r : Except (Nat × MT) Nat) (e : Ending) (w' : World) : Prop :=
  Below w.heap.size w w' ∧ match r with
  | .ok _ => e = .returned .nilIface
  | .error (code, x) => ∃ B, e = .returned (.iface 67 (.pointer (some ⟨B, 0, none⟩))) ∧ w.heap.size ≤ B ∧ w'.heap[B]? = some (.cells #[.int .i64 (code : Nat), .int .i64 x.at_, .string (toldName x.text)] 28 (0, 0))
theorem ChkP.fin {cb : Nat} {w0 w w' : World} {r : Except (Nat × MT) Nat} {e : Ending} (h : ChkP cb w r e w') (hz : w0.heap.size ≤ w.heap.size) (hb : Below w0.heap.size w0 w') : (∃ v, e = .returned v) ∧ RightP w0 r e w' := by
  have h2 := h.2
  rcases r with ⟨cd, x⟩ | bn
  · obtain ⟨B, e1, e2, e3⟩ := h2; exact ⟨⟨_, e1⟩, hb, B, e1, by omega, e3⟩
  · exact ⟨⟨_, h2.1⟩, hb, h2.1⟩

set_option maxRecDepth 100000 in
set_option maxHeartbeats 4000000 in
theorem right_any {gw ow gs os : Nat} (t : MT) (w : World) (ht : TabsAt gw ow gs os w) (hin : t.In w.heap.size w) :
    Calls Tryz.prog 13 #[nodeV t] w (RightP w (rightSpec t)) := by
  have h6 := ht.two
  have hgw := ht.gwLt
  have hgs := ht.gsLt
  have hB2 := below2 w (nodeO t) (.cells #[.int .i64 0] 63)
  have K2 := (BoxAt.new w t).below (Nat.lt_succ_self _) ((Below.refl _ _).alloc (by simp) (.cells #[.int .i64 0] 63))
  have hcc : ((w.alloc (nodeO t)).alloc (.cells #[.int .i64 0] 63)).cell? ⟨w.heap.size + 1, 0, none⟩ = some (.int .i64 ((0 : Nat) : Int)) ∧ ((w.alloc (nodeO t)).alloc (.cells #[.int .i64 0] 63)).frozen? ⟨w.heap.size + 1, 0, none⟩ = false := by simp
  have HO : Hid (∀ W, Below (w.heap.size + 2) ((w.alloc (nodeO t)).alloc (.cells #[.int .i64 0] 63)) W → Calls Tryz.prog 32 #[nodeV t] W fun e w' => e = .returned (.int .i64 (ownR t : Nat)) ∧ Below W.heap.size W w') := fun W hW => own_any t W (MT.In.mono (by have := hW.size; simp at this; omega) t (MT.In.below (hB2.trans (hW.mono (by omega))) t hin))
  have hown : ownR t ≤ 30 := by unfold ownR; repeat' split
                                all_goals omega
  have HC : Hid (∀ W, Below (w.heap.size + 2) ((w.alloc (nodeO t)).alloc (.cells #[.int .i64 0] 63)) W → Calls Tryz.prog 31 #[.pointer (some ⟨w.heap.size + 1, 0, none⟩), nodeV t, .int .i64 (ownR t : Nat), .int .i64 1] W fun e w' => ChkP (w.heap.size + 1) W (rightSpec t) e w' ∧ Below (w.heap.size + 1) ((w.alloc (nodeO t)).alloc (.cells #[.int .i64 0] 63)) w' ∧ w.heap.size + 2 ≤ W.heap.size) := fun W hW => by
    have hz := hW.size
    simp only [World.size_alloc] at hz
    exact Calls.mono (check_any (w.heap.size + 1) (by omega) (by omega) (by omega) 60 t 0 (ownR t) W (by omega) hown (ht.below (Nat.le_refl _) (hB2.trans (hW.mono (by omega)))) (MT.In.mono (by omega) t (MT.In.below (hB2.trans (hW.mono (by omega))) t hin)) (by omega)
      ((hW.cell (p := ⟨w.heap.size + 1, 0, none⟩) (by simp)).trans hcc.1) ((hW.frozen (p := ⟨w.heap.size + 1, 0, none⟩) (by simp)).trans hcc.2)) fun e w' h => ⟨h, (hW.mono (by omega)).trans h.1.below, by omega⟩
  have HK : Hid (∀ W, Below (w.heap.size + 1) ((w.alloc (nodeO t)).alloc (.cells #[.int .i64 0] 63)) W → (W.cell? ⟨w.heap.size, 0, none⟩ = some (.int .i64 t.kind) ∧ W.cell? ⟨w.heap.size, 1, none⟩ = some (.string t.text) ∧ W.cell? ⟨w.heap.size, 2, none⟩ = some (.int .i64 t.num) ∧ W.cell? ⟨w.heap.size, 3, none⟩ = some (.int .i64 t.at_) ∧ W.cell? ⟨w.heap.size, 4, none⟩ = some (.slice t.ptr t.kids.length t.cap))) := fun W hW => by
    obtain ⟨k0, k1, k2, k3, k4⟩ := K2.below (Nat.lt_succ_self _) hW
    exact ⟨k0, k1, k2, k3, k4⟩
  clear hcc hin K2
  generalize rightSpec t = R at HC ⊢
  generalize ownR t = orl at HO HC
  go_enter Tryz.func13, Tryz.ntmps13
  go_wp2_with fail
  go_region_held3 (fun W => W.cell? ⟨w.heap.size, 0, none⟩ = some (.int .i64 t.kind) ∧ W.cell? ⟨w.heap.size, 1, none⟩ = some (.string t.text) ∧ W.cell? ⟨w.heap.size, 2, none⟩ = some (.int .i64 t.num) ∧ W.cell? ⟨w.heap.size, 3, none⟩ = some (.int .i64 t.at_) ∧ W.cell? ⟨w.heap.size, 4, none⟩ = some (.slice t.ptr t.kids.length t.cap))
    (first | exact HK.out _ hbF | exact HK.out _ (hbA.mono (by omega)) | (simp; done))
    (first
      | (go_at_call 32; refine (HO.out _ ((Below.refl _ _).drew)).mono ?_; rintro e w1 ⟨rfl, hb0⟩; have hbA : Below (w.heap.size + 2) ((w.alloc (nodeO t)).alloc (.cells #[.int .i64 0] 63)) w1 := ((Below.refl _ _).drew).trans (hb0.mono (by simp)))
      | (go_at_call 31; refine (HC.out _ hbA).mono ?_; rintro e w2 ⟨hP, hbF, hzW⟩; have hQ := ChkP.fin hP (by omega : w.heap.size ≤ _) (hB2.trans (hbF.mono (by omega))); obtain ⟨⟨v, rfl⟩, hQ⟩ := hQ; have HP : Hid _ := hQ; clear hP hQ))
  go_wp2_with fail
  go_ret
  exact HP.out
end Go.Proofs.YthbnegggohegkaaGreatDoor
