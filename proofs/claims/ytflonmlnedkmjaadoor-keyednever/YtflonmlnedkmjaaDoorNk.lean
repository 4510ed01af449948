/-
  KeyedNever from its first Get on.
-/
import Derived.Test.YtflonmlnedkmjaaDoorNj
namespace Go.Proofs.YtflonmlnedkmjaaDoor
open Go.RowKit Go.Shelf
variable {o W : World} {m : Nat} {es0 : List Ent} {G0 : KG} {N : MD} {l : List Int} {c : Nat}
theorem never_get (hS : St o m W es0 G0) (ho : NamesAt o) (hNaN : NaN N) (hKN : KN N l es0 c) (hin : MD.In W.heap.size W 4 N) : Calls Tryd.prog 12 #[.pointer (some ⟨m, 0, none⟩), N.val] W fun r W' => r = .returned (.tuple #[.agg #[.int .i64 0, .string ⟨#[]⟩, .int .i64 0, .int .u64 0, .string ⟨#[]⟩, .int .i64 0, .int .i64 0, .int .i64 0, .int .i64 0, .slice none 0 0, .slice none 0 0], .bool false, .nilIface]) ∧ Below W.heap.size W W' :=
  (get_good hS.map (ho.kept hS.old) hin hNaN.right (by rw [hNaN.self])).mono fun r W' hp => by
    rcases hp with ⟨e1, _, e3⟩ | ⟨e, he, e1, _⟩
    · exact ⟨e1, e3⟩
    · rw [hKN.never hNaN e he] at e1; cases e1
theorem never_drop (hS : St o m W es0 G0) (ho : NamesAt o) (hNaN : NaN N) (hKN : KN N l es0 c) (hin : MD.In W.heap.size W 4 N) : Calls Tryd.prog 11 #[.pointer (some ⟨m, 0, none⟩), N.val] W fun r W' => r = .returned (.tuple #[.bool false, .nilIface]) ∧ Below W.heap.size W W' :=
  (drop_good hS.map (ho.kept hS.old) hin hNaN.right (by rw [hNaN.self])).mono fun r W' hp => by
    rcases hp with ⟨e1, _, e3⟩ | ⟨A, e, B, e1, e2, _⟩
    · exact ⟨e1, e3⟩
    · rw [hKN.never hNaN e (by rw [e1]; simp)] at e2; cases e2
theorem loop2_at {C : Code} (hC : C = Code.loop loop2C) {mb : Nat} {pp : Option Addr} {zs : List Int} {cp : Nat} {Q : Exit → Act → World → Prop} {c0 c1 c3 c4 c5 c7 c8 c9 c10 c11 c12 c13 c14 c15 c16 c18 c19 c20 c21 c22 c23 c24 c25 c26 c27 c28 c29 c30 c31 c32 c33 c34 c35 c36 c37 c38 c39 c40 c41 c42 c43 c44 c45 c46 c47 c48 c49 c50 c51 c52 c53 c54 c55 c56 c57 c58 c59 c60 c61 c62 c63 c64 c65 c66 c67 c68 c69 c70 c71 c72 c73 c74 c75 c76 c77 c78 c79 c80 c81 c82 c83 c84 c85 c86 c87 c88 c89 c90 c91 c92 c93 c94 c95 c96 c97 c98 c99 c100 c101 c102 c103 c104 c105 c106 c107 c108 c109 c110 c111 c112 c113 c114 c115 c116 c117 c118 c119 c120 c121 c122 c123 c124 c125 c126 c127 c128 c129 c130 c131 c132 c133 c134 c135 c136 c137 c138 c139 c140 c141 c142 c143 c144 c145 c146 c147 c148 c149 c150 c151 c152 c153 c154 c155 c156 c157 c158 c159 c160 c161 c162 c163 c164 c165 c166 c167 c168 c169 c170 c171 c172 c173 c174 c175 c176 c177 c178 c179 c180 c181 c182 c183 c184 c185 c186 c187 c188 c189 c190 c191 c192 c193 c194 c195 c196 c197 c198 c199 c200 c201 c202 c203 c204 c205 c206 c207 : Value}
    (hcl : W.cell? ⟨o.heap.size, 0, none⟩ = some (.slice pp zs.length cp)) (hzl0 : o.heap.size < W.heap.size) (hcm : W.cell? ⟨mb, 0, none⟩ = some (.pointer (some ⟨m, 0, none⟩))) (hzm : mb < W.heap.size) (hzl : zs.length ≤ 9223372036854775807)
    (hZ : zs = [] ∨ ∃ b f, pp = some ⟨b, f, none⟩ ∧ b < W.heap.size ∧ ∀ (i : Nat) (hi : i < zs.length), W.cell? ⟨b, f + i, none⟩ = some (.int .i64 zs[i]))
    (hG : ∀ z ∈ zs.take 100, z % 3 ≠ 0 → ∀ W', Below W.heap.size W W' → Calls Tryd.prog 12 #[.pointer (some ⟨m, 0, none⟩), (wholeD z).val] W' fun r W'' => (∃ d : MD, r = .returned (.tuple #[d.val, .bool true, .nilIface]) ∧ d.h.n = z) ∧ Below W'.heap.size W' W'')
    (hend : ∀ {u17 u18 u19 u20 u111 u112 u113 u114 u115 u116 u117 u118 u119 u120 u121 u122 u123 u124 u125 u126 u127 u128 u129 u130 u131 u132 u133 u134 u135 u136 u137 u138 u139 u140 u141 u142 u143 u144 u145 u146 u147 u148 u149 u150 u151 u152 : Value} (W' : World), Below W.heap.size W W' → Q .normal ⟨List.toArray [c0, c1, .pointer (some ⟨o.heap.size, 0, none⟩), c3, c4, c5, .pointer (some ⟨mb, 0, none⟩), c7, c8, c9, c10, c11, c12, c13, c14, c15, c16, u17, u18, u19, u20, c21, c22, c23, c24, c25, c26, c27, c28, c29, c30, c31, c32, c33, c34, c35, c36, c37, c38, c39, c40, c41, c42, c43, c44, c45, c46, c47, c48, c49, c50, c51, c52, c53, c54, c55, c56, c57, c58, c59, c60, c61, c62, c63, c64, c65, c66, c67, c68, c69, c70, c71, c72, c73, c74, c75, c76, c77, c78, c79, c80, c81, c82, c83, c84, c85, c86, c87, c88, c89, c90, c91, c92, c93, c94, c95, c96, c97, c98, c99, c100, c101, c102, c103, c104, c105, c106, c107, c108, c109, c110, u111, u112, u113, u114, u115, u116, u117, u118, u119, u120, u121, u122, u123, u124, u125, u126, u127, u128, u129, u130, u131, u132, u133, u134, u135, u136, u137, u138, u139, u140, u141, u142, u143, u144, u145, u146, u147, u148, u149, u150, u151, u152, c153, c154, c155, c156, c157, c158, c159, c160, c161, c162, c163, c164, c165, c166, c167, c168, c169, c170, c171, c172, c173, c174, c175, c176, c177, c178, c179, c180, c181, c182, c183, c184, c185, c186, c187, c188, c189, c190, c191, c192, c193, c194, c195, c196, c197, c198, c199, c200, c201, c202, c203, c204, c205, c206, c207], []⟩ W') :
    C.wpIn Fence.wide 6 Tryd.prog (Exit.inBlock 2 Q) ⟨List.toArray [c0, c1, .pointer (some ⟨o.heap.size, 0, none⟩), c3, c4, c5, .pointer (some ⟨mb, 0, none⟩), c7, c8, c9, c10, c11, c12, c13, c14, c15, c16, .int .i64 0, c18, c19, c20, c21, c22, c23, c24, c25, c26, c27, c28, c29, c30, c31, c32, c33, c34, c35, c36, c37, c38, c39, c40, c41, c42, c43, c44, c45, c46, c47, c48, c49, c50, c51, c52, c53, c54, c55, c56, c57, c58, c59, c60, c61, c62, c63, c64, c65, c66, c67, c68, c69, c70, c71, c72, c73, c74, c75, c76, c77, c78, c79, c80, c81, c82, c83, c84, c85, c86, c87, c88, c89, c90, c91, c92, c93, c94, c95, c96, c97, c98, c99, c100, c101, c102, c103, c104, c105, c106, c107, c108, c109, c110, c111, c112, c113, c114, c115, c116, c117, c118, c119, c120, c121, c122, c123, c124, c125, c126, c127, c128, c129, c130, c131, c132, c133, c134, c135, c136, c137, c138, c139, c140, c141, c142, c143, c144, c145, c146, c147, c148, c149, c150, c151, c152, c153, c154, c155, c156, c157, c158, c159, c160, c161, c162, c163, c164, c165, c166, c167, c168, c169, c170, c171, c172, c173, c174, c175, c176, c177, c178, c179, c180, c181, c182, c183, c184, c185, c186, c187, c188, c189, c190, c191, c192, c193, c194, c195, c196, c197, c198, c199, c200, c201, c202, c203, c204, c205, c206, c207], []⟩ W := by
  subst hC
  exact loop2_any hcl hzl0 hcm hzm hzl hZ hG hend
attribute [local go_sem] Oper.semAt_some
set_option maxRecDepth 100000 in
set_option maxHeartbeats 16000000 in
theorem mid_any {mb nb : Nat} {pp : Option Addr} {zs : List Int} {cp : Nat} {R : Ending → World → Prop} {c0 c1 c3 c5 c9 c10 c11 c12 c13 c14 c15 c16 c17 c18 c19 c20 c21 c22 c23 c24 c25 c26 c27 c28 c29 c30 c31 c32 c33 c34 c35 c36 c37 c38 c39 c40 c41 c42 c43 c44 c45 c46 c47 c48 c49 c50 c51 c52 c53 c54 c55 c56 c57 c58 c59 c60 c61 c62 c63 c64 c65 c66 c67 c68 c69 c70 c71 c72 c73 c74 c75 c76 c77 c78 c79 c80 c81 c82 c83 c84 c85 c86 c87 c88 c89 c90 c91 c92 c93 c94 c95 c96 c97 c98 c99 c100 c101 c102 c103 c104 c105 c106 c107 c108 c109 c110 c111 c112 c113 c114 c115 c116 c117 c118 c119 c120 c121 c122 c123 c124 c125 c126 c127 c128 c129 c130 c131 c132 c133 c134 c135 c136 c137 c138 c139 c140 c141 c142 c143 c144 c145 c146 c147 c148 c149 c150 c151 c152 c153 c154 c155 c156 c157 c158 c159 c160 c161 c162 c163 c164 c165 c166 c167 c168 c169 c170 c171 c172 c173 c174 c175 c176 c177 c178 c179 c180 c181 c182 c183 c184 c185 c186 c187 c188 c189 c190 c191 c192 c193 c194 c195 c196 c197 c198 c199 c200 c201 c202 c203 c204 c205 c206 c207 : Value}
    (hS : St o m W es0 G0) (ho : NamesAt o) (hNaN : NaN N) (hKN : KN N (zs.take 100) es0 c)
    (hlb : W.heap[o.heap.size]? = some (.cells #[.slice pp zs.length cp] 27 (0, 0))) (hrb : W.heap[o.heap.size + 1]? = some (.cells #[.bool false] 4 (0, 0))) (hmb : W.heap[mb]? = some (.cells #[.pointer (some ⟨m, 0, none⟩)] 24 (0, 0))) (hnb : Box W 4 nb N)
    (hzb : ∀ z ∈ zs, -9223372036854775808 ≤ z ∧ z ≤ 9223372036854775807) (hzl : zs.length ≤ 9223372036854775807) (hzc : zs = [] ∨ ∃ b f, pp = some ⟨b, f, none⟩ ∧ b < o.heap.size ∧ ∀ (i : Nat) (hi : i < zs.length), o.cell? ⟨b, f + i, none⟩ = some (.int .i64 zs[i]))
    (hR : ∀ w', Below o.heap.size o w' → R (.returned (.bool true)) w') :
    midC.wpIn Fence.wide 6 Tryd.prog (bodyPostM Fence.wide 6 Tryd.prog Tryd.f4 R) ⟨List.toArray [c0, c1, .pointer (some ⟨o.heap.size, 0, none⟩), c3, .pointer (some ⟨o.heap.size + 1, 0, none⟩), c5, .pointer (some ⟨mb, 0, none⟩), .pointer (some ⟨nb, 0, none⟩), .int .i64 (c : Nat), c9, c10, c11, c12, c13, c14, c15, c16, c17, c18, c19, c20, c21, c22, c23, c24, c25, c26, c27, c28, c29, c30, c31, c32, c33, c34, c35, c36, c37, c38, c39, c40, c41, c42, c43, c44, c45, c46, c47, c48, c49, c50, c51, c52, c53, c54, c55, c56, c57, c58, c59, c60, c61, c62, c63, c64, c65, c66, c67, c68, c69, c70, c71, c72, c73, c74, c75, c76, c77, c78, c79, c80, c81, c82, c83, c84, c85, c86, c87, c88, c89, c90, c91, c92, c93, c94, c95, c96, c97, c98, c99, c100, c101, c102, c103, c104, c105, c106, c107, c108, c109, c110, c111, c112, c113, c114, c115, c116, c117, c118, c119, c120, c121, c122, c123, c124, c125, c126, c127, c128, c129, c130, c131, c132, c133, c134, c135, c136, c137, c138, c139, c140, c141, c142, c143, c144, c145, c146, c147, c148, c149, c150, c151, c152, c153, c154, c155, c156, c157, c158, c159, c160, c161, c162, c163, c164, c165, c166, c167, c168, c169, c170, c171, c172, c173, c174, c175, c176, c177, c178, c179, c180, c181, c182, c183, c184, c185, c186, c187, c188, c189, c190, c191, c192, c193, c194, c195, c196, c197, c198, c199, c200, c201, c202, c203, c204, c205, c206, c207], []⟩ W := by
  obtain ⟨Q, hQ⟩ : ∃ Q, Q = bodyPostM Fence.wide 6 Tryd.prog Tryd.f4 R := ⟨_, rfl⟩
  rw [← hQ]
  have HQ : Hid (Q = bodyPostM Fence.wide 6 Tryd.prog Tryd.f4 R) := hQ
  have HT : Hid (∀ W', Below W.heap.size W W' → St o m W' es0 G0 ∧ W'.heap[o.heap.size]? = some (.cells #[.slice pp zs.length cp] 27 (0, 0)) ∧ W'.heap[o.heap.size + 1]? = some (.cells #[.bool false] 4 (0, 0)) ∧ W'.heap[mb]? = some (.cells #[.pointer (some ⟨m, 0, none⟩)] 24 (0, 0)) ∧ Box W' 4 nb N) := fun W' hb => ⟨hS.later hb, (hb.block _ (row_ltT hlb)).trans hlb, (hb.block _ (row_ltT hrb)).trans hrb, (hb.block _ (row_ltT hmb)).trans hmb, hnb.keep (Below.keepS (fun _ => False) hb) (fun _ _ _ _ _ h => h)⟩
  have HP : Hid (NamesAt o ∧ NaN N ∧ KN N (zs.take 100) es0 c ∧ (∀ z ∈ zs, -9223372036854775808 ≤ z ∧ z ≤ 9223372036854775807) ∧ zs.length ≤ 9223372036854775807 ∧ (zs = [] ∨ ∃ b f, pp = some ⟨b, f, none⟩ ∧ b < o.heap.size ∧ ∀ (i : Nat) (hi : i < zs.length), o.cell? ⟨b, f + i, none⟩ = some (.int .i64 zs[i])) ∧ ∀ w', Below o.heap.size o w' → R (.returned (.bool true)) w') := ⟨ho, hNaN, hKN, hzb, hzl, hzc, hR⟩
  clear hQ
  have HG : Hid (∀ W', Below W.heap.size W W' → Calls Tryd.prog 12 #[.pointer (some ⟨m, 0, none⟩), N.val] W' fun r W'' => r = .returned (.tuple #[.agg #[.int .i64 0, .string ⟨#[]⟩, .int .i64 0, .int .u64 0, .string ⟨#[]⟩, .int .i64 0, .int .i64 0, .int .i64 0, .int .i64 0, .slice none 0 0, .slice none 0 0], .bool false, .nilIface]) ∧ Below W'.heap.size W' W'') := fun W' hb => never_get (hS.later hb) ho hNaN hKN (hnb.inn.later (Nat.le_refl _) hb)
  have HDR : Hid (∀ W', Below W.heap.size W W' → Calls Tryd.prog 11 #[.pointer (some ⟨m, 0, none⟩), N.val] W' fun r W'' => r = .returned (.tuple #[.bool false, .nilIface]) ∧ Below W'.heap.size W' W'') := fun W' hb => never_drop (hS.later hb) ho hNaN hKN (hnb.inn.later (Nat.le_refl _) hb)
  have HZG : Hid (∀ z ∈ zs.take 100, z % 3 ≠ 0 → ∀ W', Below W.heap.size W W' → Calls Tryd.prog 12 #[.pointer (some ⟨m, 0, none⟩), (wholeD z).val] W' fun r W'' => (∃ d : MD, r = .returned (.tuple #[d.val, .bool true, .nilIface]) ∧ d.h.n = z) ∧ Below W'.heap.size W' W'') := fun z hz h3 W' hb => z_get (hS.later hb) ho hNaN hKN hz h3 (hzb z (List.mem_of_mem_take hz)).1 (hzb z (List.mem_of_mem_take hz)).2
  have HZ : Hid (zs = [] ∨ ∃ b f, pp = some ⟨b, f, none⟩ ∧ b < W.heap.size ∧ ∀ (i : Nat) (hi : i < zs.length), W.cell? ⟨b, f + i, none⟩ = some (.int .i64 zs[i])) := hzc.imp id fun ⟨b, f, e1, e2, e3⟩ => ⟨b, f, e1, Nat.lt_of_lt_of_le e2 hS.old.size, fun i hi => (hS.old.cell (p := ⟨b, f + i, none⟩) e2).trans (e3 i hi)⟩
  have hcl := row_at hlb 0
  have hzl0 := row_ltT hlb
  have hcm := row_at hmb 0
  have hzm := row_ltT hmb
  have hcn : ∀ j, W.cell? ⟨nb, j, none⟩ = N.cells[j]? := fun j => row_at hnb.cells j
  have hzn := row_ltT hnb.cells
  clear hS hnb hR hmb hlb hrb hzb hNaN hKN ho hzc
  simp only [MD.val, D] at HG HDR
  simp only [MD.cells] at hcn
  unfold midC
  simp only [Tryd.f4, Option.getD, sec]
  gi_wp2_with fail
  refine ⟨trivial, (callsIn_wide.2 (HG.out _ (Below.refl _ _))).mono ?_⟩
  rintro r W1 ⟨rfl, b1⟩
  have hcm1 := (b1.cell (p := ⟨mb, 0, none⟩) hzm).trans hcm
  have hcn1 : ∀ j, W1.cell? ⟨nb, j, none⟩ = _ := fun j => (b1.cell (p := ⟨nb, j, none⟩) hzn).trans (hcn j)
  have hz1 := b1.size
  have hzn1 : nb < W1.heap.size := by omega
  have hzm1 : mb < W1.heap.size := by omega
  have HB1 : Hid (Below W.heap.size W W1) := b1
  clear b1 hcn
  gi_wp2_with fail
  refine ⟨trivial, (callsIn_wide.2 (HDR.out _ (HB1.out.trans ((below1 _ _).mono HB1.out.size)))).mono ?_⟩
  rintro r W2 ⟨rfl, b2⟩
  have HB2 : Hid (Below W.heap.size W W2) := (HB1.out.trans ((below1 _ _).mono HB1.out.size)).trans (b2.mono (by simp; omega))
  have hcl2 : W2.cell? ⟨o.heap.size, 0, none⟩ = some (.slice pp zs.length cp) := (HB2.out.cell (p := ⟨o.heap.size, 0, none⟩) hzl0).trans hcl
  have hcm2 : W2.cell? ⟨mb, 0, none⟩ = some (.pointer (some ⟨m, 0, none⟩)) := (HB2.out.cell (p := ⟨mb, 0, none⟩) hzm).trans hcm
  have hz2 := HB2.out.size
  clear b2 hcm1 hcn1 hz1 hzn1 hzm1 hcl hcm HG HDR
  gi_wp2_with fail
  refine loop2_at (by kernel_rfl) hcl2 (by omega) hcm2 (by omega) hzl (HZ.out.imp id fun ⟨b, f, e1, e2, e3⟩ => ⟨b, f, e1, by omega, fun i hi => (HB2.out.cell (p := ⟨b, f + i, none⟩) e2).trans (e3 i hi)⟩) (fun z hz h3 W' hb => HZG.out z hz h3 W' (HB2.out.trans (hb.mono hz2))) ?_
  intros
  rename_i K hKK _ _ _ _ _ _ _ _ _ _ _ _ _ _ _ _ _ _ _ _ _ _ _ _ _ _ _ _ _ _ _ _ _ _ _ _ _ _ _ _ _ _ _ _ _ _ W3 hb3
  have hb4 := HB2.out.trans (hb3.mono hz2)
  obtain ⟨t1, t2, t3, t4, t5⟩ := HT.out W3 hb4
  refine hKK _ _ ?_
  rw [HQ.out]
  exact tail_at (by kernel_rfl) t1 HP.out.1 HP.out.2.1 HP.out.2.2.1 t2 t3 t4 t5 HP.out.2.2.2.1 HP.out.2.2.2.2.1 HP.out.2.2.2.2.2.1 HP.out.2.2.2.2.2.2
end Go.Proofs.YtflonmlnedkmjaaDoor
