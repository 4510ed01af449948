/-
  KeyedModel: the switch.
-/
import Derived.Test.YtflonmlnedkmjaaDoorOj
import Derived.Test.YtflonmlnedkmjaaDoorOk
import Derived.Test.YtflonmlnedkmjaaDoorOl
namespace Go.Proofs.YtflonmlnedkmjaaDoor
open Go.RowKit Go.Shelf
noncomputable def lenC : Code := sub [true, true, true, true, true, true, true, false, true, false, false, true, false, false, true, true] (Tryd.f3.body.getD .skip)
noncomputable def swC : Code := sub [true, true, true, true, true, true, true, false, true, false, false, true, false, false, true, false, true] (Tryd.f3.body.getD .skip)
variable {o W : World} {m S n j b f L cp kd : Nat} {es : List Ent} {G : KG} {vals : Nat → Int} {ns : List Nat} {ov : Value} {z : Int}
attribute [local go_sem] Oper.semAt_some
set_option maxRecDepth 100000 in
set_option maxHeartbeats 16000000 in
theorem len_ok {C : Code} (hC : C = lenC) {Q : Exit → Act → World → Prop} {c1 c3 c10 c11 c12 c13 c14 c15 c16 c17 c18 c19 c20 c21 c22 c23 c24 c25 c26 c27 c28 c29 c30 c31 c32 c33 c34 c35 c36 c37 c38 c39 c40 c41 c42 c43 c44 c45 c46 c47 c48 c49 c50 c51 c52 c53 c54 c55 c56 c57 c58 c59 c60 c61 c62 c63 c64 c65 c66 c67 c68 c69 c70 c71 c72 c73 c74 c75 c76 c77 c78 c79 c80 c81 c82 c83 c84 c85 c86 c87 c88 c89 c90 c91 c92 c93 c94 c95 c96 c97 c98 c99 c100 c101 c102 c103 c104 c105 c106 c107 c108 c109 c110 c111 c112 c113 c114 c115 c116 c117 c118 c119 c120 c121 c122 c123 c124 c125 c126 c127 c128 c129 c130 c131 c132 c133 c134 c135 c136 c137 c138 c139 c140 c141 c142 c143 c144 c145 c146 c147 c148 c149 c150 c151 c152 c153 c154 c155 c156 c157 c158 c159 c160 c161 c162 c163 c164 c165 c166 c167 c168 c169 c170 c171 c172 c173 c174 c175 c176 c177 c178 c179 c180 c181 c182 c183 c184 c185 c186 c187 c188 c189 c190 c191 c192 c193 c194 c195 c196 c197 c198 c199 c200 c201 c202 c203 c204 c205 c206 c207 c208 c209 c210 c211 c212 c213 c214 c215 c216 c217 c218 c219 c220 c221 c222 c223 c224 c225 c226 c227 c228 c229 c230 c231 c232 c233 c234 c235 c236 c237 c238 c239 c240 c241 c242 c243 c244 c245 c246 c247 c248 c249 c250 c251 c252 c253 c254 c255 c256 c257 c258 c259 c260 c261 c262 : Value} (hM : MC o m S es G vals ns (fun i => decide (i ∈ ns)) vals ov W) (hR : RowI S es ov ns W)
    (hend : ∀ {u175 u176 u177 u178 u179 : Value} (W2 : World), MC o m S es G vals ns (fun i => decide (i ∈ ns)) vals ov W2 → RowI S es ov ns W2 → Q .normal ⟨List.toArray [.slice (some ⟨b, f, none⟩) L cp, c1, .pointer (some ⟨o.heap.size, 0, none⟩), c3, .pointer (some ⟨m, 0, none⟩), .slice (some ⟨S, 0, none⟩) 900 900, .pointer (some ⟨S + 2, 0, none⟩), .pointer (some ⟨S + 3, 0, none⟩), .int .i64 (j : Nat), .int .i64 (n : Nat), c10, c11, c12, c13, c14, c15, c16, c17, c18, c19, c20, c21, c22, c23, c24, c25, c26, c27, c28, c29, c30, c31, c32, c33, c34, c35, c36, c37, c38, c39, c40, c41, c42, c43, c44, c45, c46, c47, c48, c49, c50, c51, c52, c53, c54, c55, c56, c57, c58, c59, c60, c61, c62, c63, c64, c65, c66, c67, c68, c69, c70, c71, c72, c73, c74, c75, c76, c77, c78, c79, c80, c81, c82, c83, c84, c85, c86, c87, c88, c89, c90, c91, c92, c93, c94, c95, c96, c97, c98, c99, c100, c101, c102, c103, c104, c105, c106, c107, c108, c109, c110, c111, c112, c113, c114, c115, c116, c117, c118, c119, c120, c121, c122, c123, c124, c125, c126, c127, c128, c129, c130, c131, c132, c133, c134, c135, c136, c137, c138, c139, c140, c141, c142, c143, c144, c145, c146, c147, c148, c149, c150, c151, c152, c153, c154, c155, c156, c157, c158, c159, c160, c161, c162, c163, c164, c165, c166, c167, c168, c169, c170, c171, c172, c173, c174, u175, u176, u177, u178, u179, c180, c181, c182, c183, c184, c185, c186, c187, c188, c189, c190, c191, c192, c193, c194, c195, c196, c197, c198, c199, c200, c201, c202, c203, c204, c205, c206, c207, c208, c209, c210, c211, c212, c213, c214, c215, c216, c217, c218, c219, c220, c221, c222, c223, c224, c225, c226, c227, c228, c229, c230, c231, c232, c233, c234, c235, c236, c237, c238, c239, c240, c241, c242, c243, c244, c245, c246, c247, c248, c249, c250, c251, c252, c253, c254, c255, c256, c257, c258, c259, c260, c261, c262], []⟩ W2) : C.wpIn Fence.wide 6 Tryd.prog Q ⟨List.toArray [.slice (some ⟨b, f, none⟩) L cp, c1, .pointer (some ⟨o.heap.size, 0, none⟩), c3, .pointer (some ⟨m, 0, none⟩), .slice (some ⟨S, 0, none⟩) 900 900, .pointer (some ⟨S + 2, 0, none⟩), .pointer (some ⟨S + 3, 0, none⟩), .int .i64 (j : Nat), .int .i64 (n : Nat), c10, c11, c12, c13, c14, c15, c16, c17, c18, c19, c20, c21, c22, c23, c24, c25, c26, c27, c28, c29, c30, c31, c32, c33, c34, c35, c36, c37, c38, c39, c40, c41, c42, c43, c44, c45, c46, c47, c48, c49, c50, c51, c52, c53, c54, c55, c56, c57, c58, c59, c60, c61, c62, c63, c64, c65, c66, c67, c68, c69, c70, c71, c72, c73, c74, c75, c76, c77, c78, c79, c80, c81, c82, c83, c84, c85, c86, c87, c88, c89, c90, c91, c92, c93, c94, c95, c96, c97, c98, c99, c100, c101, c102, c103, c104, c105, c106, c107, c108, c109, c110, c111, c112, c113, c114, c115, c116, c117, c118, c119, c120, c121, c122, c123, c124, c125, c126, c127, c128, c129, c130, c131, c132, c133, c134, c135, c136, c137, c138, c139, c140, c141, c142, c143, c144, c145, c146, c147, c148, c149, c150, c151, c152, c153, c154, c155, c156, c157, c158, c159, c160, c161, c162, c163, c164, c165, c166, c167, c168, c169, c170, c171, c172, c173, c174, c175, c176, c177, c178, c179, c180, c181, c182, c183, c184, c185, c186, c187, c188, c189, c190, c191, c192, c193, c194, c195, c196, c197, c198, c199, c200, c201, c202, c203, c204, c205, c206, c207, c208, c209, c210, c211, c212, c213, c214, c215, c216, c217, c218, c219, c220, c221, c222, c223, c224, c225, c226, c227, c228, c229, c230, c231, c232, c233, c234, c235, c236, c237, c238, c239, c240, c241, c242, c243, c244, c245, c246, c247, c248, c249, c250, c251, c252, c253, c254, c255, c256, c257, c258, c259, c260, c261, c262], []⟩ W := by
  subst hC
  obtain ⟨op, oc, rfl⟩ := hR.form
  have HM : Hid (MC o m S es G vals ns (fun i => decide (i ∈ ns)) vals (.slice op ns.length oc) W ∧ RowI S es (.slice op ns.length oc) ns W) := ⟨hM, hR⟩
  have HEN : Hid (∀ {u175 u176 u177 u178 u179 : Value} (W2 : World), MC o m S es G vals ns (fun i => decide (i ∈ ns)) vals (.slice op ns.length oc) W2 → RowI S es (.slice op ns.length oc) ns W2 → Q .normal ⟨List.toArray [.slice (some ⟨b, f, none⟩) L cp, c1, .pointer (some ⟨o.heap.size, 0, none⟩), c3, .pointer (some ⟨m, 0, none⟩), .slice (some ⟨S, 0, none⟩) 900 900, .pointer (some ⟨S + 2, 0, none⟩), .pointer (some ⟨S + 3, 0, none⟩), .int .i64 (j : Nat), .int .i64 (n : Nat), c10, c11, c12, c13, c14, c15, c16, c17, c18, c19, c20, c21, c22, c23, c24, c25, c26, c27, c28, c29, c30, c31, c32, c33, c34, c35, c36, c37, c38, c39, c40, c41, c42, c43, c44, c45, c46, c47, c48, c49, c50, c51, c52, c53, c54, c55, c56, c57, c58, c59, c60, c61, c62, c63, c64, c65, c66, c67, c68, c69, c70, c71, c72, c73, c74, c75, c76, c77, c78, c79, c80, c81, c82, c83, c84, c85, c86, c87, c88, c89, c90, c91, c92, c93, c94, c95, c96, c97, c98, c99, c100, c101, c102, c103, c104, c105, c106, c107, c108, c109, c110, c111, c112, c113, c114, c115, c116, c117, c118, c119, c120, c121, c122, c123, c124, c125, c126, c127, c128, c129, c130, c131, c132, c133, c134, c135, c136, c137, c138, c139, c140, c141, c142, c143, c144, c145, c146, c147, c148, c149, c150, c151, c152, c153, c154, c155, c156, c157, c158, c159, c160, c161, c162, c163, c164, c165, c166, c167, c168, c169, c170, c171, c172, c173, c174, u175, u176, u177, u178, u179, c180, c181, c182, c183, c184, c185, c186, c187, c188, c189, c190, c191, c192, c193, c194, c195, c196, c197, c198, c199, c200, c201, c202, c203, c204, c205, c206, c207, c208, c209, c210, c211, c212, c213, c214, c215, c216, c217, c218, c219, c220, c221, c222, c223, c224, c225, c226, c227, c228, c229, c230, c231, c232, c233, c234, c235, c236, c237, c238, c239, c240, c241, c242, c243, c244, c245, c246, c247, c248, c249, c250, c251, c252, c253, c254, c255, c256, c257, c258, c259, c260, c261, c262], []⟩ W2) := hend
  clear hM hR hend
  unfold lenC
  simp only [Tryd.f3, Option.getD, sub]
  gi_wp2_with fail
  refine wpIn_wide.2 ?_
  refine wp_region_noPanic ?_
  refine wp_region_held (S := fun W => W.cell? ⟨S + 3, 0, none⟩ = some (.slice op ns.length oc)) (by kernel_rfl) ?_
  obtain ⟨W4, hW4⟩ : ∃ W4, W4 = (W).drew := ⟨_, rfl⟩
  have e4 : ({ W with drawn := (W).drawn + 1 } : World) = W4 := hW4.symm
  rw [e4]
  have hB4 : Below (W).heap.size (W) W4 := by rw [hW4]; exact (Below.refl _ _).drew
  have hS : W4.cell? ⟨S + 3, 0, none⟩ = some (.slice op ns.length oc) := (hB4.cell (p := ⟨S + 3, 0, none⟩) (row_ltT HM.out.1.obox)).trans (row_at HM.out.1.obox 0)
  have HW4 : Hid (W4 = (W).drew) := hW4
  clear e4 hW4
  have HM4 : Hid (MC o m S es G vals ns (fun i => decide (i ∈ ns)) vals (.slice op ns.length oc) W4 ∧ RowI S es (.slice op ns.length oc) ns W4) := ⟨HM.out.1.below hB4, HM.out.2.below hB4⟩
  clear hB4 HW4
  refine wpAnyH_take (i := 0) (v := .pointer (some ⟨m, 0, none⟩)) rfl (by kernel_rfl) (by kernel_rfl) (by kernel_rfl) (fun _ _ _ h => h) (Or.inl ⟨by rfl, ?r⟩) hS ?_
  case r => intro W hW; simp [go_sem, execOp, Act.eval]
  simp only [List.getElem_toArray, List.getElem_cons_zero, Act.put, List.setIfInBounds_toArray, List.set_cons_succ, List.set_cons_zero]
  refine wpAnyH_take (i := 2) (v := .slice op ns.length oc) rfl (by kernel_rfl) (by kernel_rfl) (by kernel_rfl) (fun _ _ _ h => h) (Or.inl ⟨by rfl, ?r⟩) hS ?_
  case r => intro W hW; simp [go_sem, execOp, Act.eval, hW]
  simp only [List.getElem_toArray, List.getElem_cons_zero, List.getElem_cons_succ, Act.put, List.setIfInBounds_toArray, List.set_cons_succ, List.set_cons_zero]
  refine wpAnyH_take (i := 3) (v := .int .i64 (ns.length : Nat)) rfl (by kernel_rfl) (by kernel_rfl) (by kernel_rfl) (fun _ _ _ h => h) (Or.inl ⟨by rfl, ?r⟩) hS ?_
  case r => intro W hW; simp [go_sem, execOp, Act.eval]
  simp only [List.getElem_toArray, List.getElem_cons_zero, List.getElem_cons_succ, Act.put, List.setIfInBounds_toArray, List.set_cons_succ, List.set_cons_zero]
  refine wpAnyH_all (rs := [1]) (by kernel_rfl) (by simp) (fun i2 hi2 => ?_)
  obtain rfl : i2 = 1 := by simpa using hi2
  clear hi2
  refine wpOp_step rfl (fun K hK => ite_yes rfl ?_)
  simp only [List.getElem_toArray, List.getElem_cons_zero, List.getElem_cons_succ]
  go_simp
  refine HM4.out.1.len.mono ?_
  rintro r W5 ⟨rfl, rfl⟩
  go_simp
  refine hK _ _ ⟨hS, ?_⟩
  clear hK K
  try simp only [Act.put, List.setIfInBounds_toArray, List.set_cons_succ, List.set_cons_zero]
  refine wpAnyH_take (i := 4) (v := .bool false) rfl (by kernel_rfl) (by kernel_rfl) (by kernel_rfl) (fun _ _ _ h => h) (Or.inl ⟨by rfl, ?r⟩) hS ?_
  case r => intro W hW; simp [go_sem, execOp, Act.eval]
  simp only [List.getElem_toArray, List.getElem_cons_zero, List.getElem_cons_succ, Act.put, List.setIfInBounds_toArray, List.set_cons_succ, List.set_cons_zero]
  refine wpAnyH_done (by kernel_rfl) ?_ _
  refine NoPanic.normal ?_
  try simp only [Act.put]
  gi_wp2_with fail
  exact HEN.out _ HM4.out.1 HM4.out.2
set_option maxRecDepth 100000 in
set_option maxHeartbeats 16000000 in
theorem sw_any {C : Code} (hC : C = swC) {Q : Exit → Act → World → Prop} {c1 c3 c10 c11 c12 c13 c14 c15 c16 c17 c18 c19 c20 c21 c22 c23 c24 c25 c26 c27 c28 c29 c30 c31 c32 c33 c34 c35 c36 c37 c38 c39 c40 c41 c42 c43 c44 c45 c46 c47 c48 c49 c50 c51 c52 c53 c54 c55 c56 c57 c59 c60 c61 c62 c63 c64 c65 c66 c67 c68 c69 c70 c71 c72 c73 c74 c75 c76 c77 c78 c79 c80 c81 c82 c83 c84 c85 c86 c87 c88 c89 c90 c91 c92 c93 c94 c95 c96 c97 c98 c99 c100 c101 c102 c103 c104 c105 c106 c107 c108 c109 c110 c111 c112 c113 c114 c115 c116 c117 c118 c119 c120 c121 c122 c123 c124 c125 c126 c127 c128 c129 c130 c131 c132 c133 c134 c135 c136 c137 c138 c139 c140 c141 c142 c143 c144 c145 c146 c147 c148 c149 c150 c151 c152 c153 c154 c155 c156 c157 c158 c159 c160 c161 c162 c163 c164 c165 c166 c167 c168 c169 c170 c171 c172 c173 c174 c175 c176 c177 c178 c179 c180 c181 c182 c183 c184 c185 c186 c187 c188 c189 c190 c191 c192 c193 c194 c195 c196 c197 c198 c199 c200 c201 c202 c203 c204 c205 c206 c207 c208 c209 c210 c211 c212 c213 c214 c215 c216 c217 c218 c219 c220 c221 c222 c223 c224 c225 c226 c227 c228 c229 c230 c231 c232 c233 c234 c235 c236 c237 c238 c239 c240 c241 c242 c243 c244 c245 c246 c247 c248 c249 c250 c251 c252 c253 c254 c255 c256 c257 c258 c259 c260 c261 c262 : Value} (hM : MC o m S es G vals ns (fun i => decide (i ∈ ns)) vals ov W) (hR : RowI S es ov ns W)
    (ho : NamesAt o) (hn : n < 900) (hj : j < L) (hb : b < o.heap.size) (hz : o.cell? ⟨b, f + j * 3 + 2, none⟩ = some (.int .i64 z)) (hzb : -9223372036854775808 ≤ z ∧ z ≤ 9223372036854775807) (hl : ns.length < 1000) (hk : kd < 4)
    (hend : ∀ {u10 u11 u12 u13 u14 u15 u16 u17 u59 u60 u61 u62 u63 u64 u65 u66 u67 u68 u69 u70 u71 u72 u73 u74 u75 u76 u77 u78 u79 u80 u81 u82 u83 u84 u85 u86 u87 u88 u89 u90 u91 u92 u93 u94 u95 u96 u97 u98 u99 u100 u101 u102 u103 u104 u105 u106 u107 u108 u109 u110 u111 u112 u113 u114 u115 u116 u117 u118 u119 u120 u121 u122 u123 u124 u125 u126 u127 u128 u129 u130 u131 u132 u133 u134 u135 u136 u137 u138 u139 u140 u141 u142 u143 u144 u145 u146 u147 u148 u149 u150 u151 u152 u153 u154 u155 u156 u157 u158 u159 u160 u161 u162 u163 u164 u165 u166 u167 u168 u169 u170 u171 u172 u173 u174 : Value} (es2 : List Ent) (G2 : KG) (vals2 : Nat → Int) (ns2 : List Nat) (ov2 : Value) (W2 : World), MC o m S es2 G2 vals2 ns2 (fun i => decide (i ∈ ns2)) vals2 ov2 W2 → RowI S es2 ov2 ns2 W2 → ns2.length ≤ ns.length + 1 → Q .normal ⟨List.toArray [.slice (some ⟨b, f, none⟩) L cp, c1, .pointer (some ⟨o.heap.size, 0, none⟩), c3, .pointer (some ⟨m, 0, none⟩), .slice (some ⟨S, 0, none⟩) 900 900, .pointer (some ⟨S + 2, 0, none⟩), .pointer (some ⟨S + 3, 0, none⟩), .int .i64 (j : Nat), .int .i64 (n : Nat), u10, u11, u12, u13, u14, u15, u16, u17, c18, c19, c20, c21, c22, c23, c24, c25, c26, c27, c28, c29, c30, c31, c32, c33, c34, c35, c36, c37, c38, c39, c40, c41, c42, c43, c44, c45, c46, c47, c48, c49, c50, c51, c52, c53, c54, c55, c56, c57, .int .i64 (kd : Nat), u59, u60, u61, u62, u63, u64, u65, u66, u67, u68, u69, u70, u71, u72, u73, u74, u75, u76, u77, u78, u79, u80, u81, u82, u83, u84, u85, u86, u87, u88, u89, u90, u91, u92, u93, u94, u95, u96, u97, u98, u99, u100, u101, u102, u103, u104, u105, u106, u107, u108, u109, u110, u111, u112, u113, u114, u115, u116, u117, u118, u119, u120, u121, u122, u123, u124, u125, u126, u127, u128, u129, u130, u131, u132, u133, u134, u135, u136, u137, u138, u139, u140, u141, u142, u143, u144, u145, u146, u147, u148, u149, u150, u151, u152, u153, u154, u155, u156, u157, u158, u159, u160, u161, u162, u163, u164, u165, u166, u167, u168, u169, u170, u171, u172, u173, u174, c175, c176, c177, c178, c179, c180, c181, c182, c183, c184, c185, c186, c187, c188, c189, c190, c191, c192, c193, c194, c195, c196, c197, c198, c199, c200, c201, c202, c203, c204, c205, c206, c207, c208, c209, c210, c211, c212, c213, c214, c215, c216, c217, c218, c219, c220, c221, c222, c223, c224, c225, c226, c227, c228, c229, c230, c231, c232, c233, c234, c235, c236, c237, c238, c239, c240, c241, c242, c243, c244, c245, c246, c247, c248, c249, c250, c251, c252, c253, c254, c255, c256, c257, c258, c259, c260, c261, c262], []⟩ W2) : C.wpIn Fence.wide 6 Tryd.prog Q ⟨List.toArray [.slice (some ⟨b, f, none⟩) L cp, c1, .pointer (some ⟨o.heap.size, 0, none⟩), c3, .pointer (some ⟨m, 0, none⟩), .slice (some ⟨S, 0, none⟩) 900 900, .pointer (some ⟨S + 2, 0, none⟩), .pointer (some ⟨S + 3, 0, none⟩), .int .i64 (j : Nat), .int .i64 (n : Nat), c10, c11, c12, c13, c14, c15, c16, c17, c18, c19, c20, c21, c22, c23, c24, c25, c26, c27, c28, c29, c30, c31, c32, c33, c34, c35, c36, c37, c38, c39, c40, c41, c42, c43, c44, c45, c46, c47, c48, c49, c50, c51, c52, c53, c54, c55, c56, c57, .int .i64 (kd : Nat), c59, c60, c61, c62, c63, c64, c65, c66, c67, c68, c69, c70, c71, c72, c73, c74, c75, c76, c77, c78, c79, c80, c81, c82, c83, c84, c85, c86, c87, c88, c89, c90, c91, c92, c93, c94, c95, c96, c97, c98, c99, c100, c101, c102, c103, c104, c105, c106, c107, c108, c109, c110, c111, c112, c113, c114, c115, c116, c117, c118, c119, c120, c121, c122, c123, c124, c125, c126, c127, c128, c129, c130, c131, c132, c133, c134, c135, c136, c137, c138, c139, c140, c141, c142, c143, c144, c145, c146, c147, c148, c149, c150, c151, c152, c153, c154, c155, c156, c157, c158, c159, c160, c161, c162, c163, c164, c165, c166, c167, c168, c169, c170, c171, c172, c173, c174, c175, c176, c177, c178, c179, c180, c181, c182, c183, c184, c185, c186, c187, c188, c189, c190, c191, c192, c193, c194, c195, c196, c197, c198, c199, c200, c201, c202, c203, c204, c205, c206, c207, c208, c209, c210, c211, c212, c213, c214, c215, c216, c217, c218, c219, c220, c221, c222, c223, c224, c225, c226, c227, c228, c229, c230, c231, c232, c233, c234, c235, c236, c237, c238, c239, c240, c241, c242, c243, c244, c245, c246, c247, c248, c249, c250, c251, c252, c253, c254, c255, c256, c257, c258, c259, c260, c261, c262], []⟩ W := by
  subst hC
  unfold swC
  simp only [Tryd.f3, Option.getD, sub]
  have HP : Hid (NamesAt o ∧ n < 900 ∧ j < L ∧ b < o.heap.size ∧ o.cell? ⟨b, f + j * 3 + 2, none⟩ = some (.int .i64 z) ∧ (-9223372036854775808 ≤ z ∧ z ≤ 9223372036854775807) ∧ ns.length < 1000) := ⟨ho, hn, hj, hb, hz, hzb, hl⟩
  have HM : Hid (MC o m S es G vals ns (fun i => decide (i ∈ ns)) vals ov W ∧ RowI S es ov ns W) := ⟨hM, hR⟩
  have HEN : Hid (∀ {u10 u11 u12 u13 u14 u15 u16 u17 u59 u60 u61 u62 u63 u64 u65 u66 u67 u68 u69 u70 u71 u72 u73 u74 u75 u76 u77 u78 u79 u80 u81 u82 u83 u84 u85 u86 u87 u88 u89 u90 u91 u92 u93 u94 u95 u96 u97 u98 u99 u100 u101 u102 u103 u104 u105 u106 u107 u108 u109 u110 u111 u112 u113 u114 u115 u116 u117 u118 u119 u120 u121 u122 u123 u124 u125 u126 u127 u128 u129 u130 u131 u132 u133 u134 u135 u136 u137 u138 u139 u140 u141 u142 u143 u144 u145 u146 u147 u148 u149 u150 u151 u152 u153 u154 u155 u156 u157 u158 u159 u160 u161 u162 u163 u164 u165 u166 u167 u168 u169 u170 u171 u172 u173 u174 : Value} (es2 : List Ent) (G2 : KG) (vals2 : Nat → Int) (ns2 : List Nat) (ov2 : Value) (W2 : World), MC o m S es2 G2 vals2 ns2 (fun i => decide (i ∈ ns2)) vals2 ov2 W2 → RowI S es2 ov2 ns2 W2 → ns2.length ≤ ns.length + 1 → Q .normal ⟨List.toArray [.slice (some ⟨b, f, none⟩) L cp, c1, .pointer (some ⟨o.heap.size, 0, none⟩), c3, .pointer (some ⟨m, 0, none⟩), .slice (some ⟨S, 0, none⟩) 900 900, .pointer (some ⟨S + 2, 0, none⟩), .pointer (some ⟨S + 3, 0, none⟩), .int .i64 (j : Nat), .int .i64 (n : Nat), u10, u11, u12, u13, u14, u15, u16, u17, c18, c19, c20, c21, c22, c23, c24, c25, c26, c27, c28, c29, c30, c31, c32, c33, c34, c35, c36, c37, c38, c39, c40, c41, c42, c43, c44, c45, c46, c47, c48, c49, c50, c51, c52, c53, c54, c55, c56, c57, .int .i64 (kd : Nat), u59, u60, u61, u62, u63, u64, u65, u66, u67, u68, u69, u70, u71, u72, u73, u74, u75, u76, u77, u78, u79, u80, u81, u82, u83, u84, u85, u86, u87, u88, u89, u90, u91, u92, u93, u94, u95, u96, u97, u98, u99, u100, u101, u102, u103, u104, u105, u106, u107, u108, u109, u110, u111, u112, u113, u114, u115, u116, u117, u118, u119, u120, u121, u122, u123, u124, u125, u126, u127, u128, u129, u130, u131, u132, u133, u134, u135, u136, u137, u138, u139, u140, u141, u142, u143, u144, u145, u146, u147, u148, u149, u150, u151, u152, u153, u154, u155, u156, u157, u158, u159, u160, u161, u162, u163, u164, u165, u166, u167, u168, u169, u170, u171, u172, u173, u174, c175, c176, c177, c178, c179, c180, c181, c182, c183, c184, c185, c186, c187, c188, c189, c190, c191, c192, c193, c194, c195, c196, c197, c198, c199, c200, c201, c202, c203, c204, c205, c206, c207, c208, c209, c210, c211, c212, c213, c214, c215, c216, c217, c218, c219, c220, c221, c222, c223, c224, c225, c226, c227, c228, c229, c230, c231, c232, c233, c234, c235, c236, c237, c238, c239, c240, c241, c242, c243, c244, c245, c246, c247, c248, c249, c250, c251, c252, c253, c254, c255, c256, c257, c258, c259, c260, c261, c262], []⟩ W2) := hend
  clear hM hR ho hn hj hb hz hzb hl hend
  refine wpIn_block ?_
  refine wpIn_seq_k ?_
  intro K hK
  have HK : Hid _ := hK
  clear hK
  rcases (by omega : kd = 0 ∨ kd = 1 ∨ kd = 2 ∨ kd = 3) with rfl | rfl | rfl | rfl
  · gi_wp2_with fail
    refine HK.out _ _ ?_
    refine wpIn_cond_true rfl ?_
    exact put_any (by kernel_rfl) HM.out.1 HM.out.2 HP.out.1 HP.out.2.1 HP.out.2.2.1 HP.out.2.2.2.1 HP.out.2.2.2.2.1 HP.out.2.2.2.2.2.1 HP.out.2.2.2.2.2.2 (fun es2 G2 vals2 ns2 ov2 W2 h1 h2 h3 => HEN.out es2 G2 vals2 ns2 ov2 W2 h1 h2 h3)
  · gi_wp2_with fail
    refine HK.out _ _ ?_
    refine wpIn_cond_true rfl ?_
    exact put_any (by kernel_rfl) HM.out.1 HM.out.2 HP.out.1 HP.out.2.1 HP.out.2.2.1 HP.out.2.2.2.1 HP.out.2.2.2.2.1 HP.out.2.2.2.2.2.1 HP.out.2.2.2.2.2.2 (fun es2 G2 vals2 ns2 ov2 W2 h1 h2 h3 => HEN.out es2 G2 vals2 ns2 ov2 W2 h1 h2 h3)
  · gi_wp2_with fail
    refine HK.out _ _ ?_
    refine wpIn_cond_false rfl ?_
    refine wpIn_seq_k ?_
    intro K2 hK2
    have HK2 : Hid _ := hK2
    clear hK2
    gi_wp2_with fail
    refine HK2.out _ _ ?_
    refine wpIn_cond_true rfl ?_
    exact drop_any (by kernel_rfl) HM.out.1 HM.out.2 HP.out.1 HP.out.2.1 HP.out.2.2.2.2.2.2 (fun es2 G2 ns2 ov2 W2 h1 h2 h3 => HEN.out es2 G2 vals ns2 ov2 W2 h1 h2 (Nat.le_succ_of_le h3))
  · gi_wp2_with fail
    refine HK.out _ _ ?_
    refine wpIn_cond_false rfl ?_
    refine wpIn_seq_k ?_
    intro K2 hK2
    have HK2 : Hid _ := hK2
    clear hK2
    gi_wp2_with fail
    refine HK2.out _ _ ?_
    refine wpIn_cond_false rfl ?_
    exact get_any (by kernel_rfl) HM.out.1 HM.out.2 HP.out.1 HP.out.2.1 (fun W2 h1 h2 => HEN.out es G vals ns ov W2 h1 h2 (Nat.le_succ _))
end Go.Proofs.YtflonmlnedkmjaaDoor
