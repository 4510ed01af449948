/-
  KeyedNever from the walk on.
-/
import Derived.Test.YtflonmlnedkmjaaDoorNh
namespace Go.Proofs.YtflonmlnedkmjaaDoor
open Go.RowKit Go.Shelf
def sec : Nat → Code → Code
  | 0, c => c
  | n + 1, .seq _ b => sec n b
  | _ + 1, c => c
noncomputable def tailC : Code := sec 12 (Tryd.f4.body.getD .skip)
attribute [local go_sem] Oper.semAt_some
theorem eqF (p : Value) (w : World) : (Go.binOp .eql 47 (.func (.func 28) #[] #[p]) .nilFunc).run Tryd.prog w = .ok (.bool false) w := by kernel_rfl
set_option maxRecDepth 100000 in
set_option maxHeartbeats 16000000 in
theorem tail_any {o W : World} {m mb nb : Nat} {es0 : List Ent} {G0 : KG} {N : MD} {c : Nat} {pp : Option Addr} {zs : List Int} {cp : Nat} {R : Ending → World → Prop} {c0 c1 c3 c5 c9 c10 c11 c12 c13 c14 c15 c16 c17 c18 c19 c20 c21 c22 c23 c24 c25 c26 c27 c28 c29 c30 c31 c32 c33 c34 c35 c36 c37 c38 c39 c40 c41 c42 c43 c44 c45 c46 c47 c48 c49 c50 c51 c52 c53 c54 c55 c56 c57 c58 c59 c60 c61 c62 c63 c64 c65 c66 c67 c68 c69 c70 c71 c72 c73 c74 c75 c76 c77 c78 c79 c80 c81 c82 c83 c84 c85 c86 c87 c88 c89 c90 c91 c92 c93 c94 c95 c96 c97 c98 c99 c100 c101 c102 c103 c104 c105 c106 c107 c108 c109 c110 c111 c112 c113 c114 c115 c116 c117 c118 c119 c120 c121 c122 c123 c124 c125 c126 c127 c128 c129 c130 c131 c132 c133 c134 c135 c136 c137 c138 c139 c140 c141 c142 c143 c144 c145 c146 c147 c148 c149 c150 c151 c152 c153 c154 c155 c156 c157 c158 c159 c160 c161 c162 c163 c164 c165 c166 c167 c168 c169 c170 c171 c172 c173 c174 c175 c176 c177 c178 c179 c180 c181 c182 c183 c184 c185 c186 c187 c188 c189 c190 c191 c192 c193 c194 c195 c196 c197 c198 c199 c200 c201 c202 c203 c204 c205 c206 c207 : Value}
    (hS : St o m W es0 G0) (ho : NamesAt o) (hNaN : NaN N) (hKN : KN N (zs.take 100) es0 c)
    (hlb : W.heap[o.heap.size]? = some (.cells #[.slice pp zs.length cp] 27 (0, 0))) (hrb : W.heap[o.heap.size + 1]? = some (.cells #[.bool false] 4 (0, 0))) (hmb : W.heap[mb]? = some (.cells #[.pointer (some ⟨m, 0, none⟩)] 24 (0, 0))) (hnb : Box W 4 nb N)
    (hzb : ∀ z ∈ zs, -9223372036854775808 ≤ z ∧ z ≤ 9223372036854775807) (hzl : zs.length ≤ 9223372036854775807) (hzc : zs = [] ∨ ∃ b f, pp = some ⟨b, f, none⟩ ∧ b < o.heap.size ∧ ∀ (i : Nat) (hi : i < zs.length), o.cell? ⟨b, f + i, none⟩ = some (.int .i64 zs[i]))
    (hR : ∀ w', Below o.heap.size o w' → R (.returned (.bool true)) w') :
    tailC.wpIn Fence.wide 6 Tryd.prog (bodyPostM Fence.wide 6 Tryd.prog Tryd.f4 R) ⟨List.toArray [c0, c1, .pointer (some ⟨o.heap.size, 0, none⟩), c3, .pointer (some ⟨o.heap.size + 1, 0, none⟩), c5, .pointer (some ⟨mb, 0, none⟩), .pointer (some ⟨nb, 0, none⟩), .int .i64 (c : Nat), c9, c10, c11, c12, c13, c14, c15, c16, c17, c18, c19, c20, c21, c22, c23, c24, c25, c26, c27, c28, c29, c30, c31, c32, c33, c34, c35, c36, c37, c38, c39, c40, c41, c42, c43, c44, c45, c46, c47, c48, c49, c50, c51, c52, c53, c54, c55, c56, c57, c58, c59, c60, c61, c62, c63, c64, c65, c66, c67, c68, c69, c70, c71, c72, c73, c74, c75, c76, c77, c78, c79, c80, c81, c82, c83, c84, c85, c86, c87, c88, c89, c90, c91, c92, c93, c94, c95, c96, c97, c98, c99, c100, c101, c102, c103, c104, c105, c106, c107, c108, c109, c110, c111, c112, c113, c114, c115, c116, c117, c118, c119, c120, c121, c122, c123, c124, c125, c126, c127, c128, c129, c130, c131, c132, c133, c134, c135, c136, c137, c138, c139, c140, c141, c142, c143, c144, c145, c146, c147, c148, c149, c150, c151, c152, c153, c154, c155, c156, c157, c158, c159, c160, c161, c162, c163, c164, c165, c166, c167, c168, c169, c170, c171, c172, c173, c174, c175, c176, c177, c178, c179, c180, c181, c182, c183, c184, c185, c186, c187, c188, c189, c190, c191, c192, c193, c194, c195, c196, c197, c198, c199, c200, c201, c202, c203, c204, c205, c206, c207], []⟩ W := by
  obtain ⟨Q, hQ⟩ : ∃ Q, Q = bodyPostM Fence.wide 6 Tryd.prog Tryd.f4 R := ⟨_, rfl⟩
  rw [← hQ]
  have HQ : Hid (Q = bodyPostM Fence.wide 6 Tryd.prog Tryd.f4 R) := hQ
  have hcm := row_at hmb 0
  have hzm := row_ltT hmb
  obtain ⟨w5, h5⟩ : ∃ w5, w5 = W.alloc (.cells #[.pointer (some ⟨m, 0, none⟩)] 24) := ⟨_, rfl⟩
  have hz5 : w5.heap.size = W.heap.size + 1 := by rw [h5]; simp
  have b5 : Below W.heap.size W w5 := by rw [h5]; exact below1 _ _
  have hx5 : w5.heap[W.heap.size]? = some (.cells #[.pointer (some ⟨m, 0, none⟩)] 24 (0, 0)) := by rw [h5]; exact heap_alloc_new _ _
  have H5 : Hid (w5 = W.alloc (.cells #[.pointer (some ⟨m, 0, none⟩)] 24)) := h5
  have HS : Hid (St o m w5 es0 G0) := hS.later b5
  have HB : Hid (Box w5 4 nb N) := hnb.keep (Below.keepS (fun _ => False) b5) (fun _ _ _ _ _ h => h)
  have HR : Hid (∀ w', Below o.heap.size o w' → R (.returned (.bool true)) w') := hR
  have HM : Hid (w5.heap[mb]? = some (.cells #[.pointer (some ⟨m, 0, none⟩)] 24 (0, 0)) ∧ w5.heap[o.heap.size]? = some (.cells #[.slice pp zs.length cp] 27 (0, 0)) ∧ w5.heap[o.heap.size + 1]? = some (.cells #[.bool false] 4 (0, 0)) ∧ w5.heap[W.heap.size]? = some (.cells #[.pointer (some ⟨m, 0, none⟩)] 24 (0, 0))) := ⟨(b5.block _ hzm).trans hmb, (b5.block _ (row_ltT hlb)).trans hlb, (b5.block _ (row_ltT hrb)).trans hrb, hx5⟩
  have HP : Hid ((∀ z ∈ zs, -9223372036854775808 ≤ z ∧ z ≤ 9223372036854775807) ∧ NaN N ∧ KN N (zs.take 100) es0 c ∧ NamesAt o ∧ zs.length ≤ 9223372036854775807 ∧ (zs = [] ∨ ∃ b f, pp = some ⟨b, f, none⟩ ∧ b < o.heap.size ∧ ∀ (i : Nat) (hi : i < zs.length), o.cell? ⟨b, f + i, none⟩ = some (.int .i64 zs[i]))) := ⟨hzb, hNaN, hKN, ho, hzl, hzc⟩
  clear hS hnb hR hmb hlb hrb hQ h5 b5 hx5 hzb hNaN hKN ho hzl hzc
  unfold tailC
  simp only [Tryd.f4, Option.getD, sec]
  gi_wp2_with fail
  refine ⟨trivial, (callsIn_wide.2 (walk_any W m)).mono ?_⟩
  rintro r W1 ⟨rfl, rfl⟩
  gi_wp2_with fail
  rw [eqF]
  gi_wp2_with fail
  rw [← H5.out, ← hz5]
  clear hz5
  have HW2 : Hid (Below w5.heap.size w5 (w5.alloc (.cells #[.int .i64 0] 3)) ∧ (w5.alloc (.cells #[.int .i64 0] 3)).heap[w5.heap.size]? = some (.cells #[.int .i64 0] 3 (0, 0)) ∧ (w5.alloc (.cells #[.int .i64 0] 3)).heap.size = w5.heap.size + 1) := ⟨below1 _ _, heap_alloc_new _ _, by simp⟩
  obtain ⟨W2, hW2⟩ : ∃ W2, W2 = w5.alloc (.cells #[.int .i64 0] 3) := ⟨_, rfl⟩
  rw [← hW2] at HW2 ⊢
  clear hW2
  have hzW := HW2.out.2.2
  have hw5 : NamesAt w5 := HP.out.2.2.2.1.kept HS.out.old
  have hm0 : ¬ KM.own m es0 G0 0 := fun q => Nat.lt_irrefl _ (Nat.lt_of_lt_of_le HP.out.2.2.2.1.lt (HS.out.own 0 q))
  have HC : Hid (TurnC 4 m W.heap.size (es0.map Ent.b) (Ok9 es0) (TI w5 m N es0 G0)) := TI.turns HS.out.map hw5 hm0 HP.out.2.1 HP.out.2.2.1 HM.out.2.2.2
  have HLEN : Hid (es0.length ≤ 1099511627776) := by
    show es0.length ≤ 1099511627776
    have := HP.out.2.2.1.len
    rw [List.length_take] at this
    omega
  clear hw5 hm0 hcm hzm
  refine wpIn_rangeFunc_J rfl (by omega) (gf := 28) (lb := #[.pointer (some ⟨W.heap.size, 0, none⟩)]) rfl trivial (enters_of Tryd.func28 (by kernel_rfl) rfl)
    (walk1_seq 5 (by omega) (HS.out.map.keep HW2.out.1) HLEN.out (row_at ((HW2.out.1.block _ (row_ltT HM.out.2.2.2)).trans HM.out.2.2.2) 0) (Nat.lt_of_lt_of_le (row_ltT HM.out.2.2.2) HW2.out.1.size)) rfl
    (TI w5 m N es0 G0) HC.out ?start ?put
    (fun k v X => ⟨List.toArray [c0, c1, .pointer (some ⟨o.heap.size, 0, none⟩), c3, .pointer (some ⟨o.heap.size + 1, 0, none⟩), c5, .pointer (some ⟨mb, 0, none⟩), .pointer (some ⟨nb, 0, none⟩), .int .i64 (c : Nat), c9, c10, c11, c12, c13, c14, c15, c16, c17, c18, c19, c20, .func (.func 28) #[] #[.pointer (some ⟨W.heap.size, 0, none⟩)], .pointer (some ⟨w5.heap.size, 0, none⟩), .pointer (some ⟨X.heap.size, 0, none⟩), .pointer (some ⟨X.heap.size + 1, 0, none⟩), c25, c26, c27, c28, c29, c30, c31, c32, c33, c34, c35, c36, c37, c38, c39, c40, c41, c42, c43, c44, c45, c46, c47, c48, c49, c50, c51, c52, c53, c54, c55, c56, c57, c58, c59, c60, c61, c62, c63, c64, c65, c66, c67, c68, c69, c70, c71, c72, c73, c74, c75, c76, c77, c78, c79, c80, c81, c82, c83, c84, c85, c86, c87, c88, c89, c90, c91, c92, c93, c94, c95, c96, c97, c98, c99, c100, c101, c102, c103, c104, c105, c106, c107, c108, c109, c110, c111, c112, c113, c114, c115, c116, c117, c118, c119, c120, c121, c122, c123, c124, c125, c126, c127, c128, c129, c130, c131, c132, c133, c134, c135, c136, c137, c138, c139, c140, c141, c142, c143, c144, c145, c146, c147, c148, c149, c150, c151, c152, .pointer (some ⟨m, 0, none⟩), .func (.func 28) #[] #[.pointer (some ⟨W.heap.size, 0, none⟩)], .func (.func 28) #[] #[.pointer (some ⟨W.heap.size, 0, none⟩)], .bool false, .func (.func 28) #[] #[.pointer (some ⟨W.heap.size, 0, none⟩)], k.val, v.val, c160, c161, c162, c163, c164, c165, c166, c167, c168, c169, c170, c171, c172, c173, c174, c175, c176, c177, c178, c179, c180, c181, c182, c183, c184, c185, c186, c187, c188, c189, c190, c191, c192, c193, c194, c195, c196, c197, c198, c199, c200, c201, c202, c203, c204, c205, c206, c207], []⟩) (fun k v X => (X.alloc (.cells k.cells 39)).alloc (.cells v.cells 39)) (fun k v X => below2 _ _ _) ?assign ?body ?done
  case start => exact ⟨es0, G0, (Wk.start HS.out.map).below HS.out.map HW2.out.1, fun _ => rfl, fun q => absurd q (by omega), HW2.out.2.1⟩
  case put =>
    intro i X oo hz hI
    refine hI.below HS.out.map ⟨rfl, rfl, rfl, by simp, fun b hb => World.putObj_heap_other (by omega)⟩
  case assign =>
    intro l k v X K hK
    simp only [MD.val, D] at hK ⊢
    gi_wp2
    exact hK
  case body =>
    intro l i k v X oo hi hH hlt hkI hvI hI
    obtain ⟨k0, v0, ⟨e, he, rfl, rfl⟩, hs1, hs2⟩ := hH
    simp only [hzW] at hI hkI hvI hlt ⊢
    refine turn_at (by kernel_rfl) HS.out HP.out.2.2.2.1 HP.out.2.1 HP.out.2.2.1 HM.out.2.1 HM.out.1 HB.out HP.out.1 HP.out.2.2.2.2.1 HP.out.2.2.2.2.2 he hs1 hs2 hI (by simp; omega) ?_ ?_ hkI
    · refine (World.putObj_heap_other (by omega)).trans ?_
      exact (Below.heap_alloc _ _ _ (by simp)).trans (heap_alloc_new _ _)
    · refine (World.putObj_heap_other (by omega)).trans ?_
      have := heap_alloc_new (X.alloc (.cells k.cells 39)) (.cells v.cells 39)
      rwa [World.size_alloc] at this
  case done =>
    intro X hI hK
    rw [List.length_map] at hI
    obtain ⟨es, G, h1, hlen, _, hto⟩ := hI.end HP.out.2.2.1
    have hct := row_at hto 0
    have hzt := row_ltT hto
    have e1 := h1.keep.cells HM.out.1 (HS.out.map.free HM.out.1 (by decide))
    have e2 := h1.keep.cells HM.out.2.2.1 (HS.out.map.free HM.out.2.2.1 (by decide))
    have hcm := row_at e1 0
    have hzm := row_ltT e1
    have hcr := row_at e2 0
    have hzr := row_ltT e2
    have hfr := fz _ _ _ _ 0 e2
    have HL : Hid (Calls Tryd.prog 13 #[.pointer (some ⟨m, 0, none⟩)] X fun r W' => r = .returned (.int .i64 (c : Nat)) ∧ W' = X) := by
      have := len_any h1.map
      rw [hlen] at this
      exact this
    have HX : Hid (Below o.heap.size o X ∧ o.heap.size < X.heap.size) := ⟨HS.out.old.trans (h1.keep.out HS.out.old.size fun b hb q => Nat.lt_irrefl _ (Nat.lt_of_lt_of_le hb (HS.out.own b q))), by omega⟩
    have HKD : Hid (X.heap[W2.heap.size]? = some (.deferred (some []))) := hK
    have HE2 : Hid (X.heap[o.heap.size + 1]? = some (.cells #[.bool false] 4 (0, 0))) := e2
    clear h1 hlen hto e1 e2 hI hK
    gi_wp2_with fail
    refine ⟨trivial, (callsIn_wide.2 HL.out).mono ?_⟩
    rintro r X1 ⟨rfl, rfl⟩
    gi_wp2_with fail
    have hko : o.heap.size + 1 < w5.heap.size := row_ltT HM.out.2.2.1
    have hK' : (X1.setCell ⟨o.heap.size + 1, 0, none⟩ (.bool true)).heap[w5.heap.size + 1]? = some (.deferred (some [])) := by
      refine (heap_setCell_other _ _ _ _ _ (by omega)).trans ?_
      rw [← hzW]
      exact HKD.out
    rw [HQ.out]
    refine ⟨by simp, .inl ⟨_, _, rfl, run_takeDeferred hK', ?_⟩⟩
    have hcY : ((X1.setCell ⟨o.heap.size + 1, 0, none⟩ (.bool true)).putObj (w5.heap.size + 1) (.deferred none)).cell? ⟨o.heap.size + 1, 0, none⟩ = some (.bool true) := by
      refine (World.cell?_of_block (a := ⟨o.heap.size + 1, 0, none⟩) (World.putObj_heap_other (by show o.heap.size + 1 ≠ _; omega))).trans ?_
      exact row_at (row_set HE2.out 0 (.bool true)) 0
    have hbY : Below o.heap.size o ((X1.setCell ⟨o.heap.size + 1, 0, none⟩ (.bool true)).putObj (w5.heap.size + 1) (.deferred none)) := by
      have h1 := HX.out.1.setCell (p := ⟨o.heap.size + 1, 0, none⟩) (show o.heap.size ≤ o.heap.size + 1 by omega) (.bool true)
      exact ⟨h1.os, h1.tape, h1.output, by simpa using h1.size, fun b hb => (World.putObj_heap_other (by omega)).trans (h1.block b hb)⟩
    refine ⟨.bool true, ?_, HR.out _ hbY⟩
    generalize (X1.setCell ⟨o.heap.size + 1, 0, none⟩ (.bool true)).putObj (w5.heap.size + 1) (.deferred none) = Y at hcY
    simp [results, Tryd.results4, go_sem, hcY]
theorem tail_at {C : Code} (hC : C = tailC) {o W : World} {m mb nb : Nat} {es0 : List Ent} {G0 : KG} {N : MD} {c : Nat} {pp : Option Addr} {zs : List Int} {cp : Nat} {R : Ending → World → Prop} {c0 c1 c3 c5 c9 c10 c11 c12 c13 c14 c15 c16 c17 c18 c19 c20 c21 c22 c23 c24 c25 c26 c27 c28 c29 c30 c31 c32 c33 c34 c35 c36 c37 c38 c39 c40 c41 c42 c43 c44 c45 c46 c47 c48 c49 c50 c51 c52 c53 c54 c55 c56 c57 c58 c59 c60 c61 c62 c63 c64 c65 c66 c67 c68 c69 c70 c71 c72 c73 c74 c75 c76 c77 c78 c79 c80 c81 c82 c83 c84 c85 c86 c87 c88 c89 c90 c91 c92 c93 c94 c95 c96 c97 c98 c99 c100 c101 c102 c103 c104 c105 c106 c107 c108 c109 c110 c111 c112 c113 c114 c115 c116 c117 c118 c119 c120 c121 c122 c123 c124 c125 c126 c127 c128 c129 c130 c131 c132 c133 c134 c135 c136 c137 c138 c139 c140 c141 c142 c143 c144 c145 c146 c147 c148 c149 c150 c151 c152 c153 c154 c155 c156 c157 c158 c159 c160 c161 c162 c163 c164 c165 c166 c167 c168 c169 c170 c171 c172 c173 c174 c175 c176 c177 c178 c179 c180 c181 c182 c183 c184 c185 c186 c187 c188 c189 c190 c191 c192 c193 c194 c195 c196 c197 c198 c199 c200 c201 c202 c203 c204 c205 c206 c207 : Value}
    (hS : St o m W es0 G0) (ho : NamesAt o) (hNaN : NaN N) (hKN : KN N (zs.take 100) es0 c)
    (hlb : W.heap[o.heap.size]? = some (.cells #[.slice pp zs.length cp] 27 (0, 0))) (hrb : W.heap[o.heap.size + 1]? = some (.cells #[.bool false] 4 (0, 0))) (hmb : W.heap[mb]? = some (.cells #[.pointer (some ⟨m, 0, none⟩)] 24 (0, 0))) (hnb : Box W 4 nb N)
    (hzb : ∀ z ∈ zs, -9223372036854775808 ≤ z ∧ z ≤ 9223372036854775807) (hzl : zs.length ≤ 9223372036854775807) (hzc : zs = [] ∨ ∃ b f, pp = some ⟨b, f, none⟩ ∧ b < o.heap.size ∧ ∀ (i : Nat) (hi : i < zs.length), o.cell? ⟨b, f + i, none⟩ = some (.int .i64 zs[i]))
    (hR : ∀ w', Below o.heap.size o w' → R (.returned (.bool true)) w') :
    C.wpIn Fence.wide 6 Tryd.prog (bodyPostM Fence.wide 6 Tryd.prog Tryd.f4 R) ⟨List.toArray [c0, c1, .pointer (some ⟨o.heap.size, 0, none⟩), c3, .pointer (some ⟨o.heap.size + 1, 0, none⟩), c5, .pointer (some ⟨mb, 0, none⟩), .pointer (some ⟨nb, 0, none⟩), .int .i64 (c : Nat), c9, c10, c11, c12, c13, c14, c15, c16, c17, c18, c19, c20, c21, c22, c23, c24, c25, c26, c27, c28, c29, c30, c31, c32, c33, c34, c35, c36, c37, c38, c39, c40, c41, c42, c43, c44, c45, c46, c47, c48, c49, c50, c51, c52, c53, c54, c55, c56, c57, c58, c59, c60, c61, c62, c63, c64, c65, c66, c67, c68, c69, c70, c71, c72, c73, c74, c75, c76, c77, c78, c79, c80, c81, c82, c83, c84, c85, c86, c87, c88, c89, c90, c91, c92, c93, c94, c95, c96, c97, c98, c99, c100, c101, c102, c103, c104, c105, c106, c107, c108, c109, c110, c111, c112, c113, c114, c115, c116, c117, c118, c119, c120, c121, c122, c123, c124, c125, c126, c127, c128, c129, c130, c131, c132, c133, c134, c135, c136, c137, c138, c139, c140, c141, c142, c143, c144, c145, c146, c147, c148, c149, c150, c151, c152, c153, c154, c155, c156, c157, c158, c159, c160, c161, c162, c163, c164, c165, c166, c167, c168, c169, c170, c171, c172, c173, c174, c175, c176, c177, c178, c179, c180, c181, c182, c183, c184, c185, c186, c187, c188, c189, c190, c191, c192, c193, c194, c195, c196, c197, c198, c199, c200, c201, c202, c203, c204, c205, c206, c207], []⟩ W := by
  subst hC
  exact tail_any hS ho hNaN hKN hlb hrb hmb hnb hzb hzl hzc hR
end Go.Proofs.YtflonmlnedkmjaaDoor
