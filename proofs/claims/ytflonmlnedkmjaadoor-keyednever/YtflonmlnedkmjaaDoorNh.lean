/-
  A turn of the walk.
-/
import Derived.Test.YtflonmlnedkmjaaDoorNgJ
namespace Go.Proofs.YtflonmlnedkmjaaDoor
open Go.RowKit Go.Shelf
attribute [local go_sem] Oper.semAt_some
theorem all2_comm {α : Type} {p : α → α → Bool} (h : ∀ x y, p x y = true → p y x = true) : ∀ xs ys : List α, all2 p xs ys = true → all2 p ys xs = true
  | [], [], _ => rfl
  | [], _ :: _, _ => rfl
  | _ :: _, [], _ => rfl
  | x :: xs, y :: ys, hh => by
    have hh : (p x y && all2 p xs ys) = true := hh
    rw [Bool.and_eq_true] at hh
    show (p y x && all2 p ys xs) = true
    rw [h x y hh.1, all2_comm h xs ys hh.2]
    rfl
theorem same_comm : ∀ (n : Nat) (x d : MD), MD.same n x d = true → MD.same n d x = true
  | 0, _, _, _ => rfl
  | n + 1, x, d, h => by
    obtain ⟨e0, e1, e2, e3, e4, e5, e6, e7, e8, e9, ep, ea⟩ := same_parts h
    show (sameH d.h x.h d.items.length x.items.length && decide (d.h.path = x.h.path) && all2 (MD.same n) d.items x.items) = true
    rw [decide_eq_true ep, all2_comm (same_comm n) _ _ ea]
    have : sameH d.h x.h d.items.length x.items.length = true := decide_eq_true ⟨e0, e1, e2, e3, e4, e5, e6, e7, e8, congrArg List.length ep, e9⟩
    rw [this]
    rfl
/-- What was handed is N just if the key is. -/
theorem same_nan {N a k : MD} (h : MD.same 4 a k = true) : MD.same 4 k N = MD.same 4 N a := by
  cases h1 : MD.same 4 N a with
  | true => exact same_comm 4 _ _ (same_trans 4 N a k h1 h)
  | false =>
    cases h2 : MD.same 4 k N with
    | false => rfl
    | true => rw [same_comm 4 _ _ (same_trans 4 a k N h h2)] at h1; cases h1
set_option maxRecDepth 100000 in
set_option maxHeartbeats 16000000 in
theorem turn_any {o w V : World} {m mb nb : Nat} {es0 : List Ent} {G0 : KG} {N : MD} {c : Nat} {pp : Option Addr} {zs : List Int} {cp i l0 kB vB : Nat} {k v : MD} {e : Ent} {c0 c1 c3 c5 c9 c10 c11 c12 c13 c14 c15 c16 c17 c18 c19 c20 c21 c25 c26 c27 c28 c29 c30 c31 c32 c33 c34 c35 c36 c37 c38 c39 c40 c41 c42 c43 c44 c45 c46 c47 c48 c49 c50 c51 c52 c53 c54 c55 c56 c57 c58 c59 c60 c61 c62 c63 c64 c65 c66 c67 c68 c69 c70 c71 c72 c73 c74 c75 c76 c77 c78 c79 c80 c81 c82 c83 c84 c85 c86 c87 c88 c89 c90 c91 c92 c93 c94 c95 c96 c97 c98 c99 c100 c101 c102 c103 c104 c105 c106 c107 c108 c109 c110 c111 c112 c113 c114 c115 c116 c117 c118 c119 c120 c121 c122 c123 c124 c125 c126 c127 c128 c129 c130 c131 c132 c133 c134 c135 c136 c137 c138 c139 c140 c141 c142 c143 c144 c145 c146 c147 c148 c149 c150 c151 c152 c153 c154 c155 c156 c157 c158 c159 c160 c161 c162 c163 c164 c165 c166 c167 c168 c169 c170 c171 c172 c173 c174 c175 c176 c177 c178 c179 c180 c181 c182 c183 c184 c185 c186 c187 c188 c189 c190 c191 c192 c193 c194 c195 c196 c197 c198 c199 c200 c201 c202 c203 c204 c205 c206 c207 : Value}
    (h0 : St o m w es0 G0) (ho : NamesAt o) (hNaN : NaN N) (hKN : KN N (zs.take 100) es0 c)
    (hlb : w.heap[o.heap.size]? = some (.cells #[.slice pp zs.length cp] 27 (0, 0))) (hmb : w.heap[mb]? = some (.cells #[.pointer (some ⟨m, 0, none⟩)] 24 (0, 0))) (hnb : Box w 4 nb N)
    (hzb : ∀ z ∈ zs, -9223372036854775808 ≤ z ∧ z ≤ 9223372036854775807) (hzl : zs.length ≤ 9223372036854775807) (hzc : zs = [] ∨ ∃ b f, pp = some ⟨b, f, none⟩ ∧ b < o.heap.size ∧ ∀ (i : Nat) (hi : i < zs.length), o.cell? ⟨b, f + i, none⟩ = some (.int .i64 zs[i]))
    (hi : es0[i]? = some e) (hk : MD.same 4 e.k k = true) (hv : MD.same 4 e.v v = true) (hI : TI w m N es0 G0 i V) (hD : w.heap.size + 2 < V.heap.size)
    (hkB : V.heap[kB]? = some (.cells k.cells 39 (0, 0))) (hvB : V.heap[vB]? = some (.cells v.cells 39 (0, 0))) (hkI : MD.In V.heap.size V 4 k) :
    turnC.wpIn (Fence.wide.inRound l0) 4 Tryd.prog (jPost (w.heap.size + 1) (TI w m N es0 G0) (i + 1) V) ⟨List.toArray [c0, c1, .pointer (some ⟨o.heap.size, 0, none⟩), c3, .pointer (some ⟨o.heap.size + 1, 0, none⟩), c5, .pointer (some ⟨mb, 0, none⟩), .pointer (some ⟨nb, 0, none⟩), .int .i64 (c : Nat), c9, c10, c11, c12, c13, c14, c15, c16, c17, c18, c19, c20, c21, .pointer (some ⟨w.heap.size, 0, none⟩), .pointer (some ⟨kB, 0, none⟩), .pointer (some ⟨vB, 0, none⟩), c25, c26, c27, c28, c29, c30, c31, c32, c33, c34, c35, c36, c37, c38, c39, c40, c41, c42, c43, c44, c45, c46, c47, c48, c49, c50, c51, c52, c53, c54, c55, c56, c57, c58, c59, c60, c61, c62, c63, c64, c65, c66, c67, c68, c69, c70, c71, c72, c73, c74, c75, c76, c77, c78, c79, c80, c81, c82, c83, c84, c85, c86, c87, c88, c89, c90, c91, c92, c93, c94, c95, c96, c97, c98, c99, c100, c101, c102, c103, c104, c105, c106, c107, c108, c109, c110, c111, c112, c113, c114, c115, c116, c117, c118, c119, c120, c121, c122, c123, c124, c125, c126, c127, c128, c129, c130, c131, c132, c133, c134, c135, c136, c137, c138, c139, c140, c141, c142, c143, c144, c145, c146, c147, c148, c149, c150, c151, c152, c153, c154, c155, c156, c157, c158, c159, c160, c161, c162, c163, c164, c165, c166, c167, c168, c169, c170, c171, c172, c173, c174, c175, c176, c177, c178, c179, c180, c181, c182, c183, c184, c185, c186, c187, c188, c189, c190, c191, c192, c193, c194, c195, c196, c197, c198, c199, c200, c201, c202, c203, c204, c205, c206, c207], []⟩ V := by
  obtain ⟨Q, hQ⟩ : ∃ Q, Q = jPost (w.heap.size + 1) (TI w m N es0 G0) (i + 1) V := ⟨_, rfl⟩
  rw [← hQ]
  have HQ : Hid (Q = jPost (w.heap.size + 1) (TI w m N es0 G0) (i + 1) V) := hQ
  have HNQ : ¬ LetsOut Q := by
    rw [hQ]; rintro ⟨a, w', h⟩; exact h
  clear hQ
  -- the environment, in every world of the turn
  have HE : Hid (∀ W, KeepS (KM.own m es0 G0) w W → W.heap[o.heap.size]? = some (.cells #[.slice pp zs.length cp] 27 (0, 0)) ∧ Box W 4 nb N) := fun W hW => ⟨hW.cells hlb (h0.map.free hlb (by decide)), hnb.keep hW h0.map.data⟩
  have HK : Hid (KeepS (KM.own m es0 G0) w V) := by obtain ⟨es, G, h1, _⟩ := hI; exact h1.keep
  have HNV : Hid (Box V 4 nb N) := (HE.out V HK.out).2
  have HS : Hid (∀ W, Below V.heap.size V W → Calls Tryd.prog 16 #[k.val, N.val] W fun r w' => r = .returned (.bool (MD.same 4 k N)) ∧ Below W.heap.size W w') := fun W hW => same16_any k N W (hkI.later (Nat.le_refl _) hW) (HNV.out.inn.later (Nat.le_refl _) hW)
  have hck : ∀ j, V.cell? ⟨kB, j, none⟩ = k.cells[j]? := fun j => row_at hkB j
  have hcv : ∀ j, V.cell? ⟨vB, j, none⟩ = v.cells[j]? := fun j => row_at hvB j
  have hcn : ∀ j, V.cell? ⟨nb, j, none⟩ = N.cells[j]? := fun j => row_at HNV.out.cells j
  have zk := row_ltT hkB
  have zv := row_ltT hvB
  have zn := row_ltT HNV.out.cells
  have HW : Hid (w.heap[o.heap.size]? = some (.cells #[.slice pp zs.length cp] 27 (0, 0)) ∧ w.heap[mb]? = some (.cells #[.pointer (some ⟨m, 0, none⟩)] 24 (0, 0)) ∧ zs.length ≤ 9223372036854775807 ∧ (zs = [] ∨ ∃ b f, pp = some ⟨b, f, none⟩ ∧ b < o.heap.size ∧ ∀ (i : Nat) (hi : i < zs.length), o.cell? ⟨b, f + i, none⟩ = some (.int .i64 zs[i])) ∧ ¬ LetsOut Q) := ⟨hlb, hmb, hzl, hzc, HNQ⟩
  have HP : Hid ((∀ z ∈ zs, -9223372036854775808 ≤ z ∧ z ≤ 9223372036854775807) ∧ NaN N ∧ KN N (zs.take 100) es0 c ∧ NamesAt o ∧ St o m w es0 G0) := ⟨hzb, hNaN, hKN, ho, h0⟩
  have HI : Hid (TI w m N es0 G0 i V) := hI
  have HKV : Hid (es0[i]? = some e ∧ MD.same 4 e.k k = true ∧ MD.same 4 e.v v = true ∧ V.heap[vB]? = some (.cells v.cells 39 (0, 0)) ∧ V.heap[kB]? = some (.cells k.cells 39 (0, 0))) := ⟨hi, hk, hv, hvB, hkB⟩
  have HEND : Hid (∀ a W', TJ w m N es0 G0 (zs.take 100) (i + 1) (zs.take 100).length W' → KeepS (Wr w m es0 G0) V W' → Q .normal a W') := fun a W' hJ hX => by
    have hno : ∀ b, w.heap.size < b → ¬ Wr w m es0 G0 b := fun b hb q => by
      rcases q with q | q
      · omega
      · have := h0.map.ownLt q; omega
    obtain ⟨es, G, h1, h2, h3, h4⟩ := hI
    rw [HQ.out]
    refine ⟨hX.block _ (by omega) (hno _ (by omega)), hX.block _ (by omega) (hno _ (by omega)), hJ.done hKN, fun b cs hb => hX.block b (row_ltT hb) fun q => ?_⟩
    rcases q with q | q
    · rw [q, h4] at hb; cases hb
    · obtain ⟨c', t', q1, q2⟩ := h1.tag b q
      rw [hb] at q1
      cases q1
      rcases q2 with q2 | q2 | q2 <;> cases q2
  clear hzb hNaN hKN ho h0 hI hlb hmb hnb hzc hi hk hv hkB hvB hkI HNQ
  simp only [MD.val, D] at HS
  simp only [MD.cells] at hck hcv hcn
  unfold turnC
  simp only [Tryd.f4, Option.bind, Option.getD, rangeBody]
  gi_wp2_with fail
  refine ⟨trivial, (CallsIn.inRound l0 (callsIn_wide.2 (HS.out _ (Below.refl _ _)))).mono ?_⟩
  rintro r V1 ⟨rfl, b1⟩
  have HB1 : Hid (Below V.heap.size V V1) := b1
  have hz1 := b1.size
  have hkV : V1.cell? ⟨kB, 2, none⟩ = some (.int .i64 k.h.n) := (b1.cell (p := ⟨kB, 2, none⟩) zk).trans (hck 2)
  have hvV : V1.cell? ⟨vB, 2, none⟩ = some (.int .i64 v.h.n) := (b1.cell (p := ⟨vB, 2, none⟩) zv).trans (hcv 2)
  have zk1 : kB < V1.heap.size := Nat.lt_of_lt_of_le zk hz1
  have zv1 : vB < V1.heap.size := Nat.lt_of_lt_of_le zv hz1
  obtain ⟨t, ht⟩ : ∃ t, t = cnt N es0 i := ⟨_, rfl⟩
  have ht1 : t ≤ 100 := by
    rw [ht]; unfold cnt
    refine Nat.le_trans (List.length_filter_le _ _) ?_
    rw [List.length_take]
    have := HP.out.2.2.1.len
    rw [List.length_take] at this
    omega
  have hct : V1.cell? ⟨w.heap.size, 0, none⟩ = some (.int .i64 (t : Nat)) := by
    obtain ⟨es, G, h1, h2, h3, h4⟩ := HI.out
    rw [ht]
    exact (b1.cell (p := ⟨w.heap.size, 0, none⟩) (row_ltT h4)).trans (row_at h4 0)
  have zt1 : w.heap.size < V1.heap.size := by omega
  have hft : V1.frozen? ⟨w.heap.size, 0, none⟩ = false := by
    obtain ⟨es, G, h1, h2, h3, h4⟩ := HI.out
    exact fz _ _ _ _ 0 ((b1.block _ (row_ltT h4)).trans h4)
  have HT0 : Hid (t = cnt N es0 i) := ht
  clear b1 hck hcv hcn HS ht
  generalize hsb : MD.same 4 k N = sb
  have HSb : Hid (MD.same 4 k N = sb) := hsb
  clear hsb
  cases sb with
  | true =>
    gi_wp2_with fail
    refine inner_at (by kernel_rfl) HP.out.2.2.2.2 HP.out.2.2.2.1 HP.out.2.1 HP.out.2.2.1 HW.out.1 HW.out.2.1 HP.out.1 HW.out.2.2.1 HW.out.2.2.2.1 (TJ.start ?_ ?_) ?_ (by omega) HW.out.2.2.2.2 HEND.out
    · obtain ⟨es, G, h1, h2, h3, h4⟩ := HI.out
      exact ⟨es, G, h1.below HP.out.2.2.2.2.map ((HB1.out.mono (show w.heap.size ≤ V.heap.size by omega)).setCell (p := ⟨w.heap.size, 0, none⟩) (Nat.le_refl _) _)⟩
    · obtain ⟨es, G, h1, h2, h3, h4⟩ := HI.out
      have hq : MD.same 4 N e.k = true := by rw [← same_nan HKV.out.2.1]; exact HSb.out
      rw [cnt_succ HKV.out.1, hq, if_pos rfl]
      have h5 := row_set ((HB1.out.block _ (row_ltT h4)).trans h4) 0 (.int .i64 ((t : Int) + 1))
      rw [HT0.out] at h5 ⊢
      exact h5
    · exact ((Below.keepS _ HB1.out)).set _ (fun _ => .inl rfl)
  | false =>
    have hkn : k.h.n = v.h.n := by
      obtain ⟨he, hk, hv, _⟩ := HKV.out
      rcases HP.out.2.2.1.each e (List.mem_of_getElem? he) with q | ⟨z, _, _, q1, q2⟩
      · rw [← same_nan hk, HSb.out] at q; cases q
      · have n1 := (same_parts (same_trans 4 _ _ _ q1 hk)).2.2.1
        have n2 := (same_parts (same_trans 4 _ _ _ q2 hv)).2.2.1
        exact n1.trans n2.symm
    rw [← hkn] at hvV
    gi_wp2_with fail
    refine inner_at (by kernel_rfl) HP.out.2.2.2.2 HP.out.2.2.2.1 HP.out.2.1 HP.out.2.2.1 HW.out.1 HW.out.2.1 HP.out.1 HW.out.2.2.1 HW.out.2.2.2.1 (TJ.start ?_ ?_) ?_ (by omega) HW.out.2.2.2.2 HEND.out
    · obtain ⟨es, G, h1, h2, h3, h4⟩ := HI.out
      exact ⟨es, G, h1.below HP.out.2.2.2.2.map (HB1.out.mono (by omega))⟩
    · obtain ⟨es, G, h1, h2, h3, h4⟩ := HI.out
      have hq : MD.same 4 N e.k = false := by rw [← same_nan HKV.out.2.1]; exact HSb.out
      rw [cnt_succ HKV.out.1, hq, if_neg (by decide)]
      exact (HB1.out.block _ (row_ltT h4)).trans h4
    · exact Below.keepS _ HB1.out
theorem turn_at {C : Code} (hC : C = turnC) {o w V : World} {m mb nb : Nat} {es0 : List Ent} {G0 : KG} {N : MD} {c : Nat} {pp : Option Addr} {zs : List Int} {cp i l0 kB vB : Nat} {k v : MD} {e : Ent} {c0 c1 c3 c5 c9 c10 c11 c12 c13 c14 c15 c16 c17 c18 c19 c20 c21 c25 c26 c27 c28 c29 c30 c31 c32 c33 c34 c35 c36 c37 c38 c39 c40 c41 c42 c43 c44 c45 c46 c47 c48 c49 c50 c51 c52 c53 c54 c55 c56 c57 c58 c59 c60 c61 c62 c63 c64 c65 c66 c67 c68 c69 c70 c71 c72 c73 c74 c75 c76 c77 c78 c79 c80 c81 c82 c83 c84 c85 c86 c87 c88 c89 c90 c91 c92 c93 c94 c95 c96 c97 c98 c99 c100 c101 c102 c103 c104 c105 c106 c107 c108 c109 c110 c111 c112 c113 c114 c115 c116 c117 c118 c119 c120 c121 c122 c123 c124 c125 c126 c127 c128 c129 c130 c131 c132 c133 c134 c135 c136 c137 c138 c139 c140 c141 c142 c143 c144 c145 c146 c147 c148 c149 c150 c151 c152 c153 c154 c155 c156 c157 c158 c159 c160 c161 c162 c163 c164 c165 c166 c167 c168 c169 c170 c171 c172 c173 c174 c175 c176 c177 c178 c179 c180 c181 c182 c183 c184 c185 c186 c187 c188 c189 c190 c191 c192 c193 c194 c195 c196 c197 c198 c199 c200 c201 c202 c203 c204 c205 c206 c207 : Value}
    (h0 : St o m w es0 G0) (ho : NamesAt o) (hNaN : NaN N) (hKN : KN N (zs.take 100) es0 c)
    (hlb : w.heap[o.heap.size]? = some (.cells #[.slice pp zs.length cp] 27 (0, 0))) (hmb : w.heap[mb]? = some (.cells #[.pointer (some ⟨m, 0, none⟩)] 24 (0, 0))) (hnb : Box w 4 nb N)
    (hzb : ∀ z ∈ zs, -9223372036854775808 ≤ z ∧ z ≤ 9223372036854775807) (hzl : zs.length ≤ 9223372036854775807) (hzc : zs = [] ∨ ∃ b f, pp = some ⟨b, f, none⟩ ∧ b < o.heap.size ∧ ∀ (i : Nat) (hi : i < zs.length), o.cell? ⟨b, f + i, none⟩ = some (.int .i64 zs[i]))
    (hi : es0[i]? = some e) (hk : MD.same 4 e.k k = true) (hv : MD.same 4 e.v v = true) (hI : TI w m N es0 G0 i V) (hD : w.heap.size + 2 < V.heap.size)
    (hkB : V.heap[kB]? = some (.cells k.cells 39 (0, 0))) (hvB : V.heap[vB]? = some (.cells v.cells 39 (0, 0))) (hkI : MD.In V.heap.size V 4 k) :
    C.wpIn (Fence.wide.inRound l0) 4 Tryd.prog (jPost (w.heap.size + 1) (TI w m N es0 G0) (i + 1) V) ⟨List.toArray [c0, c1, .pointer (some ⟨o.heap.size, 0, none⟩), c3, .pointer (some ⟨o.heap.size + 1, 0, none⟩), c5, .pointer (some ⟨mb, 0, none⟩), .pointer (some ⟨nb, 0, none⟩), .int .i64 (c : Nat), c9, c10, c11, c12, c13, c14, c15, c16, c17, c18, c19, c20, c21, .pointer (some ⟨w.heap.size, 0, none⟩), .pointer (some ⟨kB, 0, none⟩), .pointer (some ⟨vB, 0, none⟩), c25, c26, c27, c28, c29, c30, c31, c32, c33, c34, c35, c36, c37, c38, c39, c40, c41, c42, c43, c44, c45, c46, c47, c48, c49, c50, c51, c52, c53, c54, c55, c56, c57, c58, c59, c60, c61, c62, c63, c64, c65, c66, c67, c68, c69, c70, c71, c72, c73, c74, c75, c76, c77, c78, c79, c80, c81, c82, c83, c84, c85, c86, c87, c88, c89, c90, c91, c92, c93, c94, c95, c96, c97, c98, c99, c100, c101, c102, c103, c104, c105, c106, c107, c108, c109, c110, c111, c112, c113, c114, c115, c116, c117, c118, c119, c120, c121, c122, c123, c124, c125, c126, c127, c128, c129, c130, c131, c132, c133, c134, c135, c136, c137, c138, c139, c140, c141, c142, c143, c144, c145, c146, c147, c148, c149, c150, c151, c152, c153, c154, c155, c156, c157, c158, c159, c160, c161, c162, c163, c164, c165, c166, c167, c168, c169, c170, c171, c172, c173, c174, c175, c176, c177, c178, c179, c180, c181, c182, c183, c184, c185, c186, c187, c188, c189, c190, c191, c192, c193, c194, c195, c196, c197, c198, c199, c200, c201, c202, c203, c204, c205, c206, c207], []⟩ V := by
  subst hC
  exact turn_any h0 ho hNaN hKN hlb hmb hnb hzb hzl hzc hi hk hv hI hD hkB hvB hkI
end Go.Proofs.YtflonmlnedkmjaaDoor
