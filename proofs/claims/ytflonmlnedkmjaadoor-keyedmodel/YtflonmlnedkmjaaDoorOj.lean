/-
  KeyedModel: put.
-/
import Derived.Test.YtflonmlnedkmjaaDoorNdJ
import Derived.Test.YtflonmlnedkmjaaDoorOiJ
namespace Go.Proofs.YtflonmlnedkmjaaDoor
open Go.RowKit Go.Shelf
def sub : List Bool → Code → Code
  | [], c => c
  | false :: p, .seq a _ => sub p a
  | true :: p, .seq _ b => sub p b
  | false :: p, .cond _ a _ => sub p a
  | true :: p, .cond _ _ b => sub p b
  | _ :: p, .block _ c => sub p c
  | _ :: p, .loop c => sub p c
  | _ :: _, c => c
noncomputable def putC : Code := sub [true, true, true, true, true, true, true, false, true, false, false, true, false, false, true, false, true, false, true, false] (Tryd.f3.body.getD .skip)
noncomputable def putT : Code := sub [true, true, true, true, true, true, true, false, true, false, false, true, false, false, true, false, true, false, true, false, true] (Tryd.f3.body.getD .skip)
noncomputable def valC : Code := sub [true, true, true, true, true, true, true, false, true, false, false, true, false, false, true, false, true, false, true, false, true, true, true, true] (Tryd.f3.body.getD .skip)
variable {o W : World} {m S n j b f L cp : Nat} {es : List Ent} {G : KG} {vals rv : Nat → Int} {ns xs : List Nat} {tn : Nat → Bool} {ov : Value} {z : Int}
/-- What is there behind a put. -/
theorem there_put (ns : List Nat) (n : Nat) : updB (fun i => decide (i ∈ ns)) n true = fun i => decide (i ∈ (if n ∈ ns then ns else ns ++ [n])) := by
  funext i
  unfold updB
  by_cases hi : i = n
  · subst hi
    by_cases h : i ∈ ns <;> simp [h]
  · by_cases h : n ∈ ns <;> simp [h, hi]
theorem app_boxN {V w6 : World} {o : Obj} {v u : Value} {b i : Nat} (h : (V.alloc o).grownBy w6 v.ownBlock) (hc : V.cell? ⟨b, i, none⟩ = some u) (hz : b < V.heap.size) (hb : ∀ g', v.ownBlock = some g' → g' < V.heap.size ∧ g' ≠ b) : w6.cell? ⟨b, i, none⟩ = some u :=
  (World.cell?_of_block (a := ⟨b, i, none⟩) ((h.block b (by simp; omega) (fun q => (hb b q.symm).2 rfl)).trans (Below.heap_alloc V _ b hz))).trans hc
theorem app_frozenN {V w6 : World} {o : Obj} {v : Value} {b i : Nat} (h : (V.alloc o).grownBy w6 v.ownBlock) (hc : V.frozen? ⟨b, i, none⟩ = false) (hz : b < V.heap.size) (hb : ∀ g', v.ownBlock = some g' → g' < V.heap.size ∧ g' ≠ b) : w6.frozen? ⟨b, i, none⟩ = false :=
  (World.frozen?_of_block (a := ⟨b, i, none⟩) ((h.block b (by simp; omega) (fun q => (hb b q.symm).2 rfl)).trans (Below.heap_alloc V _ b hz))).trans hc
theorem info3 : (Tryd.prog.info? 3).map (fun i => (i.zero, i.size, i.bytes)) = some (some (.int .i64 0), 1, 8) := by kernel_rfl
theorem info3_parts : ∃ i, Tryd.prog.info? 3 = some i ∧ i.zero = some (.int .i64 0) ∧ i.size = 1 ∧ i.bytes = 8 := by
  have h := info3
  cases hi : Tryd.prog.info? 3 with
  | none => rw [hi] at h; cases h
  | some i => rw [hi] at h; simp at h; exact ⟨i, rfl, h.1, h.2.1, h.2.2⟩
attribute [local go_sem] Oper.semAt_some
set_option maxRecDepth 100000 in
set_option maxHeartbeats 16000000 in
theorem val_any {C : Code} (hC : C = valC) {Q : Exit → Act → World → Prop} {c1 c3 c10 c11 c12 c13 c14 c15 c16 c17 c18 c19 c20 c21 c22 c23 c24 c25 c26 c27 c28 c29 c30 c31 c32 c33 c34 c35 c36 c37 c38 c39 c40 c41 c42 c43 c44 c45 c46 c47 c48 c49 c50 c51 c52 c53 c54 c55 c56 c57 c58 c59 c60 c61 c62 c63 c64 c65 c66 c67 c68 c69 c70 c71 c72 c73 c74 c75 c76 c77 c78 c79 c80 c81 c82 c83 c84 c85 c86 c87 c88 c89 c90 c91 c92 c93 c94 c95 c96 c97 c98 c99 c100 c101 c102 c103 c104 c105 c106 c107 c108 c109 c110 c111 c112 c113 c114 c115 c116 c117 c118 c119 c120 c121 c122 c123 c124 c125 c126 c127 c128 c129 c130 c131 c132 c133 c134 c135 c136 c137 c138 c139 c140 c141 c142 c143 c144 c145 c146 c147 c148 c149 c150 c151 c152 c153 c154 c155 c156 c157 c158 c159 c160 c161 c162 c163 c164 c165 c166 c167 c168 c169 c170 c171 c172 c173 c174 c175 c176 c177 c178 c179 c180 c181 c182 c183 c184 c185 c186 c187 c188 c189 c190 c191 c192 c193 c194 c195 c196 c197 c198 c199 c200 c201 c202 c203 c204 c205 c206 c207 c208 c209 c210 c211 c212 c213 c214 c215 c216 c217 c218 c219 c220 c221 c222 c223 c224 c225 c226 c227 c228 c229 c230 c231 c232 c233 c234 c235 c236 c237 c238 c239 c240 c241 c242 c243 c244 c245 c246 c247 c248 c249 c250 c251 c252 c253 c254 c255 c256 c257 c258 c259 c260 c261 c262 : Value} (hM : MC o m S es G vals ns tn rv ov W) (hR : RowI S es ov xs W)
    (hn : n < 900) (hj : j < L) (hb : b < o.heap.size) (hz : o.cell? ⟨b, f + j * 3 + 2, none⟩ = some (.int .i64 z))
    (hend : ∀ {u125 u126 u127 u128 u129 u130 u131 u132 : Value} (W2 : World), MC o m S es G vals ns tn (upd rv n z) ov W2 → RowI S es ov xs W2 → Q .normal ⟨List.toArray [.slice (some ⟨b, f, none⟩) L cp, c1, .pointer (some ⟨o.heap.size, 0, none⟩), c3, .pointer (some ⟨m, 0, none⟩), .slice (some ⟨S, 0, none⟩) 900 900, .pointer (some ⟨S + 2, 0, none⟩), .pointer (some ⟨S + 3, 0, none⟩), .int .i64 (j : Nat), .int .i64 (n : Nat), c10, c11, c12, c13, c14, c15, c16, c17, c18, c19, c20, c21, c22, c23, c24, c25, c26, c27, c28, c29, c30, c31, c32, c33, c34, c35, c36, c37, c38, c39, c40, c41, c42, c43, c44, c45, c46, c47, c48, c49, c50, c51, c52, c53, c54, c55, c56, c57, c58, c59, c60, c61, c62, c63, c64, c65, c66, c67, c68, c69, c70, c71, c72, c73, c74, c75, c76, c77, c78, c79, c80, c81, c82, c83, c84, c85, c86, c87, c88, c89, c90, c91, c92, c93, c94, c95, c96, c97, c98, c99, c100, c101, c102, c103, c104, c105, c106, c107, c108, c109, c110, c111, c112, c113, c114, c115, c116, c117, c118, c119, c120, c121, c122, c123, c124, u125, u126, u127, u128, u129, u130, u131, u132, c133, c134, c135, c136, c137, c138, c139, c140, c141, c142, c143, c144, c145, c146, c147, c148, c149, c150, c151, c152, c153, c154, c155, c156, c157, c158, c159, c160, c161, c162, c163, c164, c165, c166, c167, c168, c169, c170, c171, c172, c173, c174, c175, c176, c177, c178, c179, c180, c181, c182, c183, c184, c185, c186, c187, c188, c189, c190, c191, c192, c193, c194, c195, c196, c197, c198, c199, c200, c201, c202, c203, c204, c205, c206, c207, c208, c209, c210, c211, c212, c213, c214, c215, c216, c217, c218, c219, c220, c221, c222, c223, c224, c225, c226, c227, c228, c229, c230, c231, c232, c233, c234, c235, c236, c237, c238, c239, c240, c241, c242, c243, c244, c245, c246, c247, c248, c249, c250, c251, c252, c253, c254, c255, c256, c257, c258, c259, c260, c261, c262], []⟩ W2) : C.wpIn Fence.wide 6 Tryd.prog Q ⟨List.toArray [.slice (some ⟨b, f, none⟩) L cp, c1, .pointer (some ⟨o.heap.size, 0, none⟩), c3, .pointer (some ⟨m, 0, none⟩), .slice (some ⟨S, 0, none⟩) 900 900, .pointer (some ⟨S + 2, 0, none⟩), .pointer (some ⟨S + 3, 0, none⟩), .int .i64 (j : Nat), .int .i64 (n : Nat), c10, c11, c12, c13, c14, c15, c16, c17, c18, c19, c20, c21, c22, c23, c24, c25, c26, c27, c28, c29, c30, c31, c32, c33, c34, c35, c36, c37, c38, c39, c40, c41, c42, c43, c44, c45, c46, c47, c48, c49, c50, c51, c52, c53, c54, c55, c56, c57, c58, c59, c60, c61, c62, c63, c64, c65, c66, c67, c68, c69, c70, c71, c72, c73, c74, c75, c76, c77, c78, c79, c80, c81, c82, c83, c84, c85, c86, c87, c88, c89, c90, c91, c92, c93, c94, c95, c96, c97, c98, c99, c100, c101, c102, c103, c104, c105, c106, c107, c108, c109, c110, c111, c112, c113, c114, c115, c116, c117, c118, c119, c120, c121, c122, c123, c124, c125, c126, c127, c128, c129, c130, c131, c132, c133, c134, c135, c136, c137, c138, c139, c140, c141, c142, c143, c144, c145, c146, c147, c148, c149, c150, c151, c152, c153, c154, c155, c156, c157, c158, c159, c160, c161, c162, c163, c164, c165, c166, c167, c168, c169, c170, c171, c172, c173, c174, c175, c176, c177, c178, c179, c180, c181, c182, c183, c184, c185, c186, c187, c188, c189, c190, c191, c192, c193, c194, c195, c196, c197, c198, c199, c200, c201, c202, c203, c204, c205, c206, c207, c208, c209, c210, c211, c212, c213, c214, c215, c216, c217, c218, c219, c220, c221, c222, c223, c224, c225, c226, c227, c228, c229, c230, c231, c232, c233, c234, c235, c236, c237, c238, c239, c240, c241, c242, c243, c244, c245, c246, c247, c248, c249, c250, c251, c252, c253, c254, c255, c256, c257, c258, c259, c260, c261, c262], []⟩ W := by
  subst hC
  have hj1 : (j : Int) < L := by omega
  have hn1 : (n : Int) < 900 := by omega
  have hz0 : W.cell? ⟨b, f + j * 3 + 2, none⟩ = some (.int .i64 z) := (hM.st.old.cell (p := ⟨b, f + j * 3 + 2, none⟩) hb).trans hz
  have HA : Hid (b < o.heap.size ∧ o.cell? ⟨b, f + j * 3 + 2, none⟩ = some (.int .i64 z)) := ⟨hb, hz⟩
  have HN : Hid (n < 900) := hn
  have HM0 : Hid (MC o m S es G vals ns tn rv ov W ∧ RowI S es ov xs W) := ⟨hM, hR⟩
  have HEN : Hid (∀ {u125 u126 u127 u128 u129 u130 u131 u132 : Value} (W2 : World), MC o m S es G vals ns tn (upd rv n z) ov W2 → RowI S es ov xs W2 → Q .normal ⟨List.toArray [.slice (some ⟨b, f, none⟩) L cp, c1, .pointer (some ⟨o.heap.size, 0, none⟩), c3, .pointer (some ⟨m, 0, none⟩), .slice (some ⟨S, 0, none⟩) 900 900, .pointer (some ⟨S + 2, 0, none⟩), .pointer (some ⟨S + 3, 0, none⟩), .int .i64 (j : Nat), .int .i64 (n : Nat), c10, c11, c12, c13, c14, c15, c16, c17, c18, c19, c20, c21, c22, c23, c24, c25, c26, c27, c28, c29, c30, c31, c32, c33, c34, c35, c36, c37, c38, c39, c40, c41, c42, c43, c44, c45, c46, c47, c48, c49, c50, c51, c52, c53, c54, c55, c56, c57, c58, c59, c60, c61, c62, c63, c64, c65, c66, c67, c68, c69, c70, c71, c72, c73, c74, c75, c76, c77, c78, c79, c80, c81, c82, c83, c84, c85, c86, c87, c88, c89, c90, c91, c92, c93, c94, c95, c96, c97, c98, c99, c100, c101, c102, c103, c104, c105, c106, c107, c108, c109, c110, c111, c112, c113, c114, c115, c116, c117, c118, c119, c120, c121, c122, c123, c124, u125, u126, u127, u128, u129, u130, u131, u132, c133, c134, c135, c136, c137, c138, c139, c140, c141, c142, c143, c144, c145, c146, c147, c148, c149, c150, c151, c152, c153, c154, c155, c156, c157, c158, c159, c160, c161, c162, c163, c164, c165, c166, c167, c168, c169, c170, c171, c172, c173, c174, c175, c176, c177, c178, c179, c180, c181, c182, c183, c184, c185, c186, c187, c188, c189, c190, c191, c192, c193, c194, c195, c196, c197, c198, c199, c200, c201, c202, c203, c204, c205, c206, c207, c208, c209, c210, c211, c212, c213, c214, c215, c216, c217, c218, c219, c220, c221, c222, c223, c224, c225, c226, c227, c228, c229, c230, c231, c232, c233, c234, c235, c236, c237, c238, c239, c240, c241, c242, c243, c244, c245, c246, c247, c248, c249, c250, c251, c252, c253, c254, c255, c256, c257, c258, c259, c260, c261, c262], []⟩ W2) := hend
  clear hM hR hn hb hz hend
  unfold valC
  simp only [Tryd.f3, Option.getD, sub]
  refine wpIn_wide.2 ?_
  refine wp_region_noPanic ?_
  refine wp_region_held (S := fun W => W.cell? ⟨b, f + j * 3 + 2, none⟩ = some (.int .i64 z) ∧ W.cell? ⟨S + 2, 0, none⟩ = some (.slice (some ⟨S + 1, 0, none⟩) 900 900)) (by kernel_rfl) ?_
  obtain ⟨W4, hW4⟩ : ∃ W4, W4 = (W).drew := ⟨_, rfl⟩
  have e4 : ({ W with drawn := (W).drawn + 1 } : World) = W4 := hW4.symm
  rw [e4]
  have hB4 : Below (W).heap.size (W) W4 := by rw [hW4]; exact (Below.refl _ _).drew
  have hS : W4.cell? ⟨b, f + j * 3 + 2, none⟩ = some (.int .i64 z) ∧ W4.cell? ⟨S + 2, 0, none⟩ = some (.slice (some ⟨S + 1, 0, none⟩) 900 900) := ⟨((hB4.mono HM0.out.1.st.old.size).cell (p := ⟨b, f + j * 3 + 2, none⟩) HA.out.1).trans hz0, (hB4.cell (p := ⟨S + 2, 0, none⟩) (row_ltT HM0.out.1.vbox)).trans (row_at HM0.out.1.vbox 0)⟩
  have HW4 : Hid (W4 = (W).drew) := hW4
  clear e4 hW4
  have HMW4 : Hid (MC o m S es G vals ns tn rv ov W4 ∧ RowI S es ov xs W4) := ⟨HM0.out.1.below hB4, HM0.out.2.below hB4⟩
  clear hB4 HW4
  refine wpAnyH_take (i := 0) (v := .slice (some ⟨S + 1, 0, none⟩) 900 900) rfl (by kernel_rfl) (by kernel_rfl) (by kernel_rfl) (fun _ _ _ h => h) (Or.inl ⟨by rfl, ?r⟩) hS ?_
  case r => intro W hW; simp [go_sem, execOp, Act.eval, hW.2]
  simp only [List.getElem_toArray, List.getElem_cons_zero, Act.put, List.setIfInBounds_toArray, List.set_cons_succ, List.set_cons_zero]
  refine wpAnyH_take (i := 1) (v := .int .i64 (n : Nat)) rfl (by kernel_rfl) (by kernel_rfl) (by kernel_rfl) (fun _ _ _ h => h) (Or.inl ⟨by rfl, ?r⟩) hS ?_
  case r => intro W hW; simp [go_sem, execOp, Act.eval]
  simp only [List.getElem_toArray, List.getElem_cons_zero, List.getElem_cons_succ, Act.put, List.setIfInBounds_toArray, List.set_cons_succ, List.set_cons_zero]
  refine wpAnyH_take (i := 2) (v := .slice (some ⟨b, f, none⟩) L cp) rfl (by kernel_rfl) (by kernel_rfl) (by kernel_rfl) (fun _ _ _ h => h) (Or.inl ⟨by rfl, ?r⟩) hS ?_
  case r => intro W hW; simp [go_sem, execOp, Act.eval]
  simp only [List.getElem_toArray, List.getElem_cons_zero, List.getElem_cons_succ, Act.put, List.setIfInBounds_toArray, List.set_cons_succ, List.set_cons_zero]
  refine wpAnyH_take (i := 3) (v := .int .i64 (j : Nat)) rfl (by kernel_rfl) (by kernel_rfl) (by kernel_rfl) (fun _ _ _ h => h) (Or.inl ⟨by rfl, ?r⟩) hS ?_
  case r => intro W hW; simp [go_sem, execOp, Act.eval]
  simp only [List.getElem_toArray, List.getElem_cons_zero, List.getElem_cons_succ, Act.put, List.setIfInBounds_toArray, List.set_cons_succ, List.set_cons_zero]
  refine wpAnyH_take (i := 4) (v := .pointer (some ⟨b, f + j * 3, none⟩)) rfl (by kernel_rfl) (by kernel_rfl) (by kernel_rfl) (fun _ _ _ h => h) (Or.inl ⟨by rfl, ?r⟩) hS ?_
  case r => intro W hW; simp [go_sem, execOp, Act.eval, hj1]
  simp only [List.getElem_toArray, List.getElem_cons_zero, List.getElem_cons_succ, Act.put, List.setIfInBounds_toArray, List.set_cons_succ, List.set_cons_zero]
  refine wpAnyH_take (i := 5) (v := .pointer (some ⟨b, f + j * 3 + 2, none⟩)) rfl (by kernel_rfl) (by kernel_rfl) (by kernel_rfl) (fun _ _ _ h => h) (Or.inl ⟨by rfl, ?r⟩) hS ?_
  case r => intro W hW; simp [go_sem, execOp, Act.eval]
  simp only [List.getElem_toArray, List.getElem_cons_zero, List.getElem_cons_succ, Act.put, List.setIfInBounds_toArray, List.set_cons_succ, List.set_cons_zero]
  refine wpAnyH_take (i := 6) (v := .int .i64 z) rfl (by kernel_rfl) (by kernel_rfl) (by kernel_rfl) (fun _ _ _ h => h) (Or.inl ⟨by rfl, ?r⟩) hS ?_
  case r => intro W hW; simp [go_sem, execOp, Act.eval, hW.1]
  simp only [List.getElem_toArray, List.getElem_cons_zero, List.getElem_cons_succ, Act.put, List.setIfInBounds_toArray, List.set_cons_succ, List.set_cons_zero]
  refine wpAnyH_take (i := 7) (v := .pointer (some ⟨S + 1, n, none⟩)) rfl (by kernel_rfl) (by kernel_rfl) (by kernel_rfl) (fun _ _ _ h => h) (Or.inl ⟨by rfl, ?r⟩) hS ?_
  case r => intro W hW; simp [go_sem, execOp, Act.eval, hn1]
  simp only [List.getElem_toArray, List.getElem_cons_zero, List.getElem_cons_succ, Act.put, List.setIfInBounds_toArray, List.set_cons_succ, List.set_cons_zero]
  obtain ⟨cv, v1, v2⟩ := HMW4.out.1.values
  have hcv : W4.cell? ⟨S + 1, n, none⟩ = some (.int .i64 (rv n)) := (row_at v1 n).trans (v2 n HN.out)
  have hfv := fz _ _ _ _ n v1
  have hzv := row_ltT v1
  clear v1 v2
  refine wpAnyH_all (rs := [8]) (by kernel_rfl) (by simp) (fun i2 hi2 => ?_)
  obtain rfl : i2 = 8 := by simpa using hi2
  clear hi2
  refine wpOp_step rfl (fun K hK => ite_yes rfl ?_)
  simp only [List.getElem_toArray, List.getElem_cons_zero, List.getElem_cons_succ]
  go_simp
  obtain ⟨W5, h5⟩ : ∃ X, X = W4.setCell ⟨S + 1, n, none⟩ (.int .i64 z) := ⟨_, rfl⟩
  have HM5 : Hid (MC o m S es G vals ns tn (upd rv n z) ov W5 ∧ RowI S es ov xs W5) := by rw [h5]; exact ⟨HMW4.out.1.setVal HN.out z, HMW4.out.2.set (by omega)⟩
  rw [← h5]
  clear h5 hcv hfv hzv
  have hS5 : W5.cell? ⟨b, f + j * 3 + 2, none⟩ = some (.int .i64 z) ∧ W5.cell? ⟨S + 2, 0, none⟩ = some (.slice (some ⟨S + 1, 0, none⟩) 900 900) := ⟨(HM5.out.1.st.old.cell (p := ⟨b, f + j * 3 + 2, none⟩) HA.out.1).trans HA.out.2, row_at HM5.out.1.vbox 0⟩
  refine hK _ _ ⟨hS5, ?_⟩
  clear hK K hS
  have hS := hS5
  clear hS5
  try simp only [Act.put, List.setIfInBounds_toArray, List.set_cons_succ, List.set_cons_zero]
  refine wpAnyH_done (by kernel_rfl) ?_ _
  refine NoPanic.normal ?_
  try simp only [Act.put]
  exact HEN.out _ HM5.out.1 HM5.out.2
set_option maxRecDepth 100000 in
set_option maxHeartbeats 16000000 in
theorem putT_any {C : Code} (hC : C = putT) {Q : Exit → Act → World → Prop} {es2 : List Ent} {G2 : KG} {c1 c3 c11 c12 c13 c14 c15 c16 c17 c18 c19 c20 c21 c22 c23 c24 c25 c26 c27 c28 c29 c30 c31 c32 c33 c34 c35 c36 c37 c38 c39 c40 c41 c42 c43 c44 c45 c46 c47 c48 c49 c50 c51 c52 c53 c54 c55 c56 c57 c58 c59 c60 c61 c62 c63 c64 c65 c66 c67 c68 c69 c70 c71 c72 c73 c74 c75 c76 c77 c78 c79 c80 c81 c82 c83 c84 c85 c86 c87 c88 c89 c90 c91 c92 c93 c94 c95 c96 c97 c98 c99 c100 c101 c102 c103 c104 c105 c106 c107 c108 c109 c110 c111 c112 c113 c114 c115 c116 c117 c118 c119 c120 c121 c122 c123 c124 c125 c126 c127 c128 c129 c130 c131 c132 c133 c134 c135 c136 c137 c138 c139 c140 c141 c142 c143 c144 c145 c146 c147 c148 c149 c150 c151 c152 c153 c154 c155 c156 c157 c158 c159 c160 c161 c162 c163 c164 c165 c166 c167 c168 c169 c170 c171 c172 c173 c174 c175 c176 c177 c178 c179 c180 c181 c182 c183 c184 c185 c186 c187 c188 c189 c190 c191 c192 c193 c194 c195 c196 c197 c198 c199 c200 c201 c202 c203 c204 c205 c206 c207 c208 c209 c210 c211 c212 c213 c214 c215 c216 c217 c218 c219 c220 c221 c222 c223 c224 c225 c226 c227 c228 c229 c230 c231 c232 c233 c234 c235 c236 c237 c238 c239 c240 c241 c242 c243 c244 c245 c246 c247 c248 c249 c250 c251 c252 c253 c254 c255 c256 c257 c258 c259 c260 c261 c262 : Value} (hM : MC o m S es2 G2 (upd vals n z) (if n ∈ ns then ns else ns ++ [n]) (fun i => decide (i ∈ ns)) vals ov W) (hR : RowI S es2 ov ns W)
    (hn : n < 900) (hj : j < L) (hb : b < o.heap.size) (hz : o.cell? ⟨b, f + j * 3 + 2, none⟩ = some (.int .i64 z)) (hl : ns.length < 1000)
    (hend : ∀ {u10 u11 u12 u13 u14 u15 u16 u17 u59 u60 u61 u62 u63 u64 u65 u66 u67 u68 u69 u70 u71 u72 u73 u74 u75 u76 u77 u78 u79 u80 u81 u82 u83 u84 u85 u86 u87 u88 u89 u90 u91 u92 u93 u94 u95 u96 u97 u98 u99 u100 u101 u102 u103 u104 u105 u106 u107 u108 u109 u110 u111 u112 u113 u114 u115 u116 u117 u118 u119 u120 u121 u122 u123 u124 u125 u126 u127 u128 u129 u130 u131 u132 u133 u134 u135 u136 u137 u138 u139 u140 u141 u142 u143 u144 u145 u146 u147 u148 u149 u150 u151 u152 u153 u154 u155 u156 u157 u158 u159 u160 u161 u162 u163 u164 u165 u166 u167 u168 u169 u170 u171 u172 u173 u174 : Value} (es2 : List Ent) (G2 : KG) (vals2 : Nat → Int) (ns2 : List Nat) (ov2 : Value) (W2 : World), MC o m S es2 G2 vals2 ns2 (fun i => decide (i ∈ ns2)) vals2 ov2 W2 → RowI S es2 ov2 ns2 W2 → ns2.length ≤ ns.length + 1 → Q .normal ⟨List.toArray [.slice (some ⟨b, f, none⟩) L cp, c1, .pointer (some ⟨o.heap.size, 0, none⟩), c3, .pointer (some ⟨m, 0, none⟩), .slice (some ⟨S, 0, none⟩) 900 900, .pointer (some ⟨S + 2, 0, none⟩), .pointer (some ⟨S + 3, 0, none⟩), .int .i64 (j : Nat), .int .i64 (n : Nat), u10, u11, u12, u13, u14, u15, u16, u17, c18, c19, c20, c21, c22, c23, c24, c25, c26, c27, c28, c29, c30, c31, c32, c33, c34, c35, c36, c37, c38, c39, c40, c41, c42, c43, c44, c45, c46, c47, c48, c49, c50, c51, c52, c53, c54, c55, c56, c57, c58, u59, u60, u61, u62, u63, u64, u65, u66, u67, u68, u69, u70, u71, u72, u73, u74, u75, u76, u77, u78, u79, u80, u81, u82, u83, u84, u85, u86, u87, u88, u89, u90, u91, u92, u93, u94, u95, u96, u97, u98, u99, u100, u101, u102, u103, u104, u105, u106, u107, u108, u109, u110, u111, u112, u113, u114, u115, u116, u117, u118, u119, u120, u121, u122, u123, u124, u125, u126, u127, u128, u129, u130, u131, u132, u133, u134, u135, u136, u137, u138, u139, u140, u141, u142, u143, u144, u145, u146, u147, u148, u149, u150, u151, u152, u153, u154, u155, u156, u157, u158, u159, u160, u161, u162, u163, u164, u165, u166, u167, u168, u169, u170, u171, u172, u173, u174, c175, c176, c177, c178, c179, c180, c181, c182, c183, c184, c185, c186, c187, c188, c189, c190, c191, c192, c193, c194, c195, c196, c197, c198, c199, c200, c201, c202, c203, c204, c205, c206, c207, c208, c209, c210, c211, c212, c213, c214, c215, c216, c217, c218, c219, c220, c221, c222, c223, c224, c225, c226, c227, c228, c229, c230, c231, c232, c233, c234, c235, c236, c237, c238, c239, c240, c241, c242, c243, c244, c245, c246, c247, c248, c249, c250, c251, c252, c253, c254, c255, c256, c257, c258, c259, c260, c261, c262], []⟩ W2) : C.wpIn Fence.wide 6 Tryd.prog Q ⟨List.toArray [.slice (some ⟨b, f, none⟩) L cp, c1, .pointer (some ⟨o.heap.size, 0, none⟩), c3, .pointer (some ⟨m, 0, none⟩), .slice (some ⟨S, 0, none⟩) 900 900, .pointer (some ⟨S + 2, 0, none⟩), .pointer (some ⟨S + 3, 0, none⟩), .int .i64 (j : Nat), .int .i64 (n : Nat), .nilIface, c11, c12, c13, c14, c15, c16, c17, c18, c19, c20, c21, c22, c23, c24, c25, c26, c27, c28, c29, c30, c31, c32, c33, c34, c35, c36, c37, c38, c39, c40, c41, c42, c43, c44, c45, c46, c47, c48, c49, c50, c51, c52, c53, c54, c55, c56, c57, c58, c59, c60, c61, c62, c63, c64, c65, c66, c67, c68, c69, c70, c71, c72, c73, c74, c75, c76, c77, c78, c79, c80, c81, c82, c83, c84, c85, c86, c87, c88, c89, c90, c91, c92, c93, c94, c95, c96, c97, c98, c99, c100, c101, c102, c103, c104, c105, c106, c107, c108, c109, c110, c111, c112, c113, c114, c115, c116, c117, c118, c119, c120, c121, c122, c123, c124, c125, c126, c127, c128, c129, c130, c131, c132, c133, c134, c135, c136, c137, c138, c139, c140, c141, c142, c143, c144, c145, c146, c147, c148, c149, c150, c151, c152, c153, c154, c155, c156, c157, c158, c159, c160, c161, c162, c163, c164, c165, c166, c167, c168, c169, c170, c171, c172, c173, c174, c175, c176, c177, c178, c179, c180, c181, c182, c183, c184, c185, c186, c187, c188, c189, c190, c191, c192, c193, c194, c195, c196, c197, c198, c199, c200, c201, c202, c203, c204, c205, c206, c207, c208, c209, c210, c211, c212, c213, c214, c215, c216, c217, c218, c219, c220, c221, c222, c223, c224, c225, c226, c227, c228, c229, c230, c231, c232, c233, c234, c235, c236, c237, c238, c239, c240, c241, c242, c243, c244, c245, c246, c247, c248, c249, c250, c251, c252, c253, c254, c255, c256, c257, c258, c259, c260, c261, c262], []⟩ W := by
  subst hC
  have hn1 : (n : Int) < 900 := by omega
  have HN : Hid (n < 900 ∧ j < L ∧ b < o.heap.size ∧ o.cell? ⟨b, f + j * 3 + 2, none⟩ = some (.int .i64 z) ∧ ns.length < 1000) := ⟨hn, hj, hb, hz, hl⟩
  have HEN : Hid (∀ {u10 u11 u12 u13 u14 u15 u16 u17 u59 u60 u61 u62 u63 u64 u65 u66 u67 u68 u69 u70 u71 u72 u73 u74 u75 u76 u77 u78 u79 u80 u81 u82 u83 u84 u85 u86 u87 u88 u89 u90 u91 u92 u93 u94 u95 u96 u97 u98 u99 u100 u101 u102 u103 u104 u105 u106 u107 u108 u109 u110 u111 u112 u113 u114 u115 u116 u117 u118 u119 u120 u121 u122 u123 u124 u125 u126 u127 u128 u129 u130 u131 u132 u133 u134 u135 u136 u137 u138 u139 u140 u141 u142 u143 u144 u145 u146 u147 u148 u149 u150 u151 u152 u153 u154 u155 u156 u157 u158 u159 u160 u161 u162 u163 u164 u165 u166 u167 u168 u169 u170 u171 u172 u173 u174 : Value} (es2 : List Ent) (G2 : KG) (vals2 : Nat → Int) (ns2 : List Nat) (ov2 : Value) (W2 : World), MC o m S es2 G2 vals2 ns2 (fun i => decide (i ∈ ns2)) vals2 ov2 W2 → RowI S es2 ov2 ns2 W2 → ns2.length ≤ ns.length + 1 → Q .normal ⟨List.toArray [.slice (some ⟨b, f, none⟩) L cp, c1, .pointer (some ⟨o.heap.size, 0, none⟩), c3, .pointer (some ⟨m, 0, none⟩), .slice (some ⟨S, 0, none⟩) 900 900, .pointer (some ⟨S + 2, 0, none⟩), .pointer (some ⟨S + 3, 0, none⟩), .int .i64 (j : Nat), .int .i64 (n : Nat), u10, u11, u12, u13, u14, u15, u16, u17, c18, c19, c20, c21, c22, c23, c24, c25, c26, c27, c28, c29, c30, c31, c32, c33, c34, c35, c36, c37, c38, c39, c40, c41, c42, c43, c44, c45, c46, c47, c48, c49, c50, c51, c52, c53, c54, c55, c56, c57, c58, u59, u60, u61, u62, u63, u64, u65, u66, u67, u68, u69, u70, u71, u72, u73, u74, u75, u76, u77, u78, u79, u80, u81, u82, u83, u84, u85, u86, u87, u88, u89, u90, u91, u92, u93, u94, u95, u96, u97, u98, u99, u100, u101, u102, u103, u104, u105, u106, u107, u108, u109, u110, u111, u112, u113, u114, u115, u116, u117, u118, u119, u120, u121, u122, u123, u124, u125, u126, u127, u128, u129, u130, u131, u132, u133, u134, u135, u136, u137, u138, u139, u140, u141, u142, u143, u144, u145, u146, u147, u148, u149, u150, u151, u152, u153, u154, u155, u156, u157, u158, u159, u160, u161, u162, u163, u164, u165, u166, u167, u168, u169, u170, u171, u172, u173, u174, c175, c176, c177, c178, c179, c180, c181, c182, c183, c184, c185, c186, c187, c188, c189, c190, c191, c192, c193, c194, c195, c196, c197, c198, c199, c200, c201, c202, c203, c204, c205, c206, c207, c208, c209, c210, c211, c212, c213, c214, c215, c216, c217, c218, c219, c220, c221, c222, c223, c224, c225, c226, c227, c228, c229, c230, c231, c232, c233, c234, c235, c236, c237, c238, c239, c240, c241, c242, c243, c244, c245, c246, c247, c248, c249, c250, c251, c252, c253, c254, c255, c256, c257, c258, c259, c260, c261, c262], []⟩ W2) := hend
  obtain ⟨ct, t1, t2⟩ := hM.there
  have hct : W.cell? ⟨S, n, none⟩ = some (.bool (decide (n ∈ ns))) := (row_at t1 n).trans (t2 n hn)
  have hft := fz _ _ _ _ n t1
  have hzt := row_ltT t1
  have hco := row_at hM.obox 0
  have hfo := fz _ _ _ _ 0 hM.obox
  have hzo := row_ltT hM.obox
  have HM : Hid (MC o m S es2 G2 (upd vals n z) (if n ∈ ns then ns else ns ++ [n]) (fun i => decide (i ∈ ns)) vals ov W ∧ RowI S es2 ov ns W) := ⟨hM, hR⟩
  clear t1 t2 hM hR hn hb hz hend hj hl
  unfold putT
  simp only [Tryd.f3, Option.getD, sub]
  by_cases hm : n ∈ ns
  · have HMM : Hid (n ∈ ns) := hm
    simp only [hm, decide_true] at hct
    clear hm hco hfo hzo
    gi_wp2_with fail
    refine val_any (by kernel_rfl) (HM.out.1.setThere HN.out.1 true) (HM.out.2.set (by omega)) HN.out.1 HN.out.2.1 HN.out.2.2.1 HN.out.2.2.2.1 ?_
    intros
    rename_i W2 hm2 hr2
    rw [there_put] at hm2
    rw [if_pos HMM.out] at hm2
    exact HEN.out _ _ _ _ _ _ hm2 hr2 (by omega)
  · have HMM : Hid (n ∉ ns) := hm
    simp only [hm, decide_false] at hct
    clear hm
    obtain ⟨i0, hi, hz0', hz1, hz2⟩ := info3_parts
    have hvs : ∃ a b c, ov = .slice a b c := by
      rcases HM.out.2.1.2 with ⟨q, _⟩ | ⟨g2, cap', cur, hv, _⟩
      · exact ⟨_, _, _, q⟩
      · exact ⟨_, _, _, hv⟩
    obtain ⟨va, vl, vc, rfl⟩ := hvs
    have hown := HM.out.2.1
    have hl := HN.out.2.2.2.2
    have hbs : S + 4 ≤ (W.alloc (.cells #[.int .i64 (n : Nat)] 3)).heap.size := by simp; omega
    have HB : Hid (∀ g', (Value.slice va vl vc).ownBlock = some g' → g' < W.heap.size ∧ g' ≠ S + 3) := fun g' hg' => by
      obtain ⟨q1, q2, _⟩ := HM.out.2.at hg'
      exact ⟨q2, by omega⟩
    have HB2 : Hid (∀ g', (Value.slice va vl vc).ownBlock = some g' → g' < W.heap.size ∧ g' ≠ S) := fun g' hg' => by
      obtain ⟨q1, q2, _⟩ := HM.out.2.at hg'
      exact ⟨q2, by omega⟩
    gi_wp2_with (gi_at_builtin; refine wpListIn_append_there _ rfl _ _ 27 rfl (S + 4) 3 i0 (.int .i64 0) 1 8 Tryd.underlying27 hi hz0' hz1 hz2 rfl (by decide) (.slice va vl vc) ns.length (natV ns) rfl (hown.alloc _) ⟨W.heap.size, 0, none⟩ 1 1 [.int .i64 (n : Nat)] rfl rfl ?_ (by simp [Value.oneCell']) (by unfold maxLen; omega) (by omega) hbs ?_; exact one_new _ _ _ _ rfl; intro v' w6 hown6 hgr6 hthere; obtain ⟨g6, c6, rfl⟩ := slice_of hown6 (Nat.succ_pos _); have hc6 := app_box hgr6 hco hzo HB.out; have hf6 := app_frozen hgr6 hfo hzo HB.out; have hz6 := app_size hgr6 hzo; have hct6 := app_boxN hgr6 hct hzt HB2.out; have hft6 := app_frozenN hgr6 hft hzt HB2.out; have hzt6 := app_size hgr6 hzt)
    have hma := HM.out.1.below (below1 W (.cells #[.int .i64 (n : Nat)] 3))
    have hra := HM.out.2.below (below1 W (.cells #[.int .i64 (n : Nat)] 3))
    have hm6 := hma.grown hra hgr6
    have hr6 := RowI.grown (n := n) hma.st.map hra hown6 (fun g hg => by
      rcases hthere with q | q
      · exact .inl (q ▸ hg)
      · rw [q] at hg; exact .inr (Nat.le_of_eq (Option.some.inj hg)))
    refine val_any (by kernel_rfl) ((hm6.setOrder _).setThere HN.out.1 true) ((hr6.set (by omega)).set (by omega)) HN.out.1 HN.out.2.1 HN.out.2.2.1 HN.out.2.2.2.1 ?_
    intros
    rename_i W2 hm2 hr2
    rw [there_put] at hm2
    rw [if_neg HMM.out] at hm2
    exact HEN.out _ _ _ _ _ _ hm2 hr2 (by simp)
set_option maxRecDepth 100000 in
set_option maxHeartbeats 16000000 in
theorem put_any {C : Code} (hC : C = putC) {Q : Exit → Act → World → Prop} {c1 c3 c10 c11 c12 c13 c14 c15 c16 c17 c18 c19 c20 c21 c22 c23 c24 c25 c26 c27 c28 c29 c30 c31 c32 c33 c34 c35 c36 c37 c38 c39 c40 c41 c42 c43 c44 c45 c46 c47 c48 c49 c50 c51 c52 c53 c54 c55 c56 c57 c58 c59 c60 c61 c62 c63 c64 c65 c66 c67 c68 c69 c70 c71 c72 c73 c74 c75 c76 c77 c78 c79 c80 c81 c82 c83 c84 c85 c86 c87 c88 c89 c90 c91 c92 c93 c94 c95 c96 c97 c98 c99 c100 c101 c102 c103 c104 c105 c106 c107 c108 c109 c110 c111 c112 c113 c114 c115 c116 c117 c118 c119 c120 c121 c122 c123 c124 c125 c126 c127 c128 c129 c130 c131 c132 c133 c134 c135 c136 c137 c138 c139 c140 c141 c142 c143 c144 c145 c146 c147 c148 c149 c150 c151 c152 c153 c154 c155 c156 c157 c158 c159 c160 c161 c162 c163 c164 c165 c166 c167 c168 c169 c170 c171 c172 c173 c174 c175 c176 c177 c178 c179 c180 c181 c182 c183 c184 c185 c186 c187 c188 c189 c190 c191 c192 c193 c194 c195 c196 c197 c198 c199 c200 c201 c202 c203 c204 c205 c206 c207 c208 c209 c210 c211 c212 c213 c214 c215 c216 c217 c218 c219 c220 c221 c222 c223 c224 c225 c226 c227 c228 c229 c230 c231 c232 c233 c234 c235 c236 c237 c238 c239 c240 c241 c242 c243 c244 c245 c246 c247 c248 c249 c250 c251 c252 c253 c254 c255 c256 c257 c258 c259 c260 c261 c262 : Value} (hM : MC o m S es G vals ns (fun i => decide (i ∈ ns)) vals ov W) (hR : RowI S es ov ns W)
    (ho : NamesAt o) (hn : n < 900) (hj : j < L) (hb : b < o.heap.size) (hz : o.cell? ⟨b, f + j * 3 + 2, none⟩ = some (.int .i64 z)) (hzb : -9223372036854775808 ≤ z ∧ z ≤ 9223372036854775807) (hl : ns.length < 1000)
    (hend : ∀ {u10 u11 u12 u13 u14 u15 u16 u17 u59 u60 u61 u62 u63 u64 u65 u66 u67 u68 u69 u70 u71 u72 u73 u74 u75 u76 u77 u78 u79 u80 u81 u82 u83 u84 u85 u86 u87 u88 u89 u90 u91 u92 u93 u94 u95 u96 u97 u98 u99 u100 u101 u102 u103 u104 u105 u106 u107 u108 u109 u110 u111 u112 u113 u114 u115 u116 u117 u118 u119 u120 u121 u122 u123 u124 u125 u126 u127 u128 u129 u130 u131 u132 u133 u134 u135 u136 u137 u138 u139 u140 u141 u142 u143 u144 u145 u146 u147 u148 u149 u150 u151 u152 u153 u154 u155 u156 u157 u158 u159 u160 u161 u162 u163 u164 u165 u166 u167 u168 u169 u170 u171 u172 u173 u174 : Value} (es2 : List Ent) (G2 : KG) (vals2 : Nat → Int) (ns2 : List Nat) (ov2 : Value) (W2 : World), MC o m S es2 G2 vals2 ns2 (fun i => decide (i ∈ ns2)) vals2 ov2 W2 → RowI S es2 ov2 ns2 W2 → ns2.length ≤ ns.length + 1 → Q .normal ⟨List.toArray [.slice (some ⟨b, f, none⟩) L cp, c1, .pointer (some ⟨o.heap.size, 0, none⟩), c3, .pointer (some ⟨m, 0, none⟩), .slice (some ⟨S, 0, none⟩) 900 900, .pointer (some ⟨S + 2, 0, none⟩), .pointer (some ⟨S + 3, 0, none⟩), .int .i64 (j : Nat), .int .i64 (n : Nat), u10, u11, u12, u13, u14, u15, u16, u17, c18, c19, c20, c21, c22, c23, c24, c25, c26, c27, c28, c29, c30, c31, c32, c33, c34, c35, c36, c37, c38, c39, c40, c41, c42, c43, c44, c45, c46, c47, c48, c49, c50, c51, c52, c53, c54, c55, c56, c57, c58, u59, u60, u61, u62, u63, u64, u65, u66, u67, u68, u69, u70, u71, u72, u73, u74, u75, u76, u77, u78, u79, u80, u81, u82, u83, u84, u85, u86, u87, u88, u89, u90, u91, u92, u93, u94, u95, u96, u97, u98, u99, u100, u101, u102, u103, u104, u105, u106, u107, u108, u109, u110, u111, u112, u113, u114, u115, u116, u117, u118, u119, u120, u121, u122, u123, u124, u125, u126, u127, u128, u129, u130, u131, u132, u133, u134, u135, u136, u137, u138, u139, u140, u141, u142, u143, u144, u145, u146, u147, u148, u149, u150, u151, u152, u153, u154, u155, u156, u157, u158, u159, u160, u161, u162, u163, u164, u165, u166, u167, u168, u169, u170, u171, u172, u173, u174, c175, c176, c177, c178, c179, c180, c181, c182, c183, c184, c185, c186, c187, c188, c189, c190, c191, c192, c193, c194, c195, c196, c197, c198, c199, c200, c201, c202, c203, c204, c205, c206, c207, c208, c209, c210, c211, c212, c213, c214, c215, c216, c217, c218, c219, c220, c221, c222, c223, c224, c225, c226, c227, c228, c229, c230, c231, c232, c233, c234, c235, c236, c237, c238, c239, c240, c241, c242, c243, c244, c245, c246, c247, c248, c249, c250, c251, c252, c253, c254, c255, c256, c257, c258, c259, c260, c261, c262], []⟩ W2) : C.wpIn Fence.wide 6 Tryd.prog Q ⟨List.toArray [.slice (some ⟨b, f, none⟩) L cp, c1, .pointer (some ⟨o.heap.size, 0, none⟩), c3, .pointer (some ⟨m, 0, none⟩), .slice (some ⟨S, 0, none⟩) 900 900, .pointer (some ⟨S + 2, 0, none⟩), .pointer (some ⟨S + 3, 0, none⟩), .int .i64 (j : Nat), .int .i64 (n : Nat), c10, c11, c12, c13, c14, c15, c16, c17, c18, c19, c20, c21, c22, c23, c24, c25, c26, c27, c28, c29, c30, c31, c32, c33, c34, c35, c36, c37, c38, c39, c40, c41, c42, c43, c44, c45, c46, c47, c48, c49, c50, c51, c52, c53, c54, c55, c56, c57, c58, c59, c60, c61, c62, c63, c64, c65, c66, c67, c68, c69, c70, c71, c72, c73, c74, c75, c76, c77, c78, c79, c80, c81, c82, c83, c84, c85, c86, c87, c88, c89, c90, c91, c92, c93, c94, c95, c96, c97, c98, c99, c100, c101, c102, c103, c104, c105, c106, c107, c108, c109, c110, c111, c112, c113, c114, c115, c116, c117, c118, c119, c120, c121, c122, c123, c124, c125, c126, c127, c128, c129, c130, c131, c132, c133, c134, c135, c136, c137, c138, c139, c140, c141, c142, c143, c144, c145, c146, c147, c148, c149, c150, c151, c152, c153, c154, c155, c156, c157, c158, c159, c160, c161, c162, c163, c164, c165, c166, c167, c168, c169, c170, c171, c172, c173, c174, c175, c176, c177, c178, c179, c180, c181, c182, c183, c184, c185, c186, c187, c188, c189, c190, c191, c192, c193, c194, c195, c196, c197, c198, c199, c200, c201, c202, c203, c204, c205, c206, c207, c208, c209, c210, c211, c212, c213, c214, c215, c216, c217, c218, c219, c220, c221, c222, c223, c224, c225, c226, c227, c228, c229, c230, c231, c232, c233, c234, c235, c236, c237, c238, c239, c240, c241, c242, c243, c244, c245, c246, c247, c248, c249, c250, c251, c252, c253, c254, c255, c256, c257, c258, c259, c260, c261, c262], []⟩ W := by
  subst hC
  have hj1 : (j : Int) < L := by omega
  have hz0 : W.cell? ⟨b, f + j * 3 + 2, none⟩ = some (.int .i64 z) := (hM.st.old.cell (p := ⟨b, f + j * 3 + 2, none⟩) hb).trans hz
  have HA : Hid (b < o.heap.size ∧ o.cell? ⟨b, f + j * 3 + 2, none⟩ = some (.int .i64 z)) := ⟨hb, hz⟩
  have HN : Hid (n < 900 ∧ (-9223372036854775808 ≤ z ∧ z ≤ 9223372036854775807) ∧ NamesAt o ∧ ns.length < 1099511627776) := ⟨hn, hzb, ho, by omega⟩
  have HM0 : Hid (MC o m S es G vals ns (fun i => decide (i ∈ ns)) vals ov W ∧ RowI S es ov ns W) := ⟨hM, hR⟩
  have HTAIL : Hid (∀ {t101 t102 t103 t104 t105 t106 t107 t108 t109 t110 : Value} (C : Code), C = putT → ∀ (es2 : List Ent) (G2 : KG) (W : World), MC o m S es2 G2 (upd vals n z) (if n ∈ ns then ns else ns ++ [n]) (fun i => decide (i ∈ ns)) vals ov W → RowI S es2 ov ns W → C.wpIn Fence.wide 6 Tryd.prog Q ⟨List.toArray [.slice (some ⟨b, f, none⟩) L cp, c1, .pointer (some ⟨o.heap.size, 0, none⟩), c3, .pointer (some ⟨m, 0, none⟩), .slice (some ⟨S, 0, none⟩) 900 900, .pointer (some ⟨S + 2, 0, none⟩), .pointer (some ⟨S + 3, 0, none⟩), .int .i64 (j : Nat), .int .i64 (n : Nat), .nilIface, c11, c12, c13, c14, c15, c16, c17, c18, c19, c20, c21, c22, c23, c24, c25, c26, c27, c28, c29, c30, c31, c32, c33, c34, c35, c36, c37, c38, c39, c40, c41, c42, c43, c44, c45, c46, c47, c48, c49, c50, c51, c52, c53, c54, c55, c56, c57, c58, c59, c60, c61, c62, c63, c64, c65, c66, c67, c68, c69, c70, c71, c72, c73, c74, c75, c76, c77, c78, c79, c80, c81, c82, c83, c84, c85, c86, c87, c88, c89, c90, c91, c92, c93, c94, c95, c96, c97, c98, c99, c100, t101, t102, t103, t104, t105, t106, t107, t108, t109, t110, c111, c112, c113, c114, c115, c116, c117, c118, c119, c120, c121, c122, c123, c124, c125, c126, c127, c128, c129, c130, c131, c132, c133, c134, c135, c136, c137, c138, c139, c140, c141, c142, c143, c144, c145, c146, c147, c148, c149, c150, c151, c152, c153, c154, c155, c156, c157, c158, c159, c160, c161, c162, c163, c164, c165, c166, c167, c168, c169, c170, c171, c172, c173, c174, c175, c176, c177, c178, c179, c180, c181, c182, c183, c184, c185, c186, c187, c188, c189, c190, c191, c192, c193, c194, c195, c196, c197, c198, c199, c200, c201, c202, c203, c204, c205, c206, c207, c208, c209, c210, c211, c212, c213, c214, c215, c216, c217, c218, c219, c220, c221, c222, c223, c224, c225, c226, c227, c228, c229, c230, c231, c232, c233, c234, c235, c236, c237, c238, c239, c240, c241, c242, c243, c244, c245, c246, c247, c248, c249, c250, c251, c252, c253, c254, c255, c256, c257, c258, c259, c260, c261, c262], []⟩ W) := fun {t101 t102 t103 t104 t105 t106 t107 t108 t109 t110} C hC es2 G2 W hM hR => putT_any hC hM hR hn hj hb hz hl hend
  have hbW : b < W.heap.size := Nat.lt_of_lt_of_le hb hM.st.old.size
  clear hM hR ho hn hb hz hzb hl hend
  unfold putC
  simp only [Tryd.f3, Option.getD, sub]
  gi_wp2_with fail
  rename_i K0 hK0
  have HK0 : Hid _ := hK0
  clear hK0
  refine wpIn_wide.2 ?_
  refine wp_region_noPanic ?_
  refine wp_region_held (S := fun W => W.cell? ⟨b, f + j * 3 + 2, none⟩ = some (.int .i64 z)) (by kernel_rfl) ?_
  obtain ⟨W4, hW4⟩ : ∃ W4, W4 = (W).drew := ⟨_, rfl⟩
  have e4 : ({ W with drawn := (W).drawn + 1 } : World) = W4 := hW4.symm
  rw [e4]
  have hB4 : Below (W).heap.size (W) W4 := by rw [hW4]; exact (Below.refl _ _).drew
  have hS : W4.cell? ⟨b, f + j * 3 + 2, none⟩ = some (.int .i64 z) := ((hB4.mono (show o.heap.size ≤ W.heap.size from HM0.out.1.st.old.size)).cell (p := ⟨b, f + j * 3 + 2, none⟩) HA.out.1).trans hz0
  have HW4 : Hid (W4 = (W).drew) := hW4
  clear e4 hW4
  have HMW4 : Hid (MC o m S es G vals ns (fun i => decide (i ∈ ns)) vals ov W4 ∧ RowI S es ov ns W4) := ⟨HM0.out.1.below hB4, HM0.out.2.below hB4⟩
  clear hB4 HW4
  refine wpAnyH_take (i := 0) (v := .pointer (some ⟨m, 0, none⟩)) rfl (by kernel_rfl) (by kernel_rfl) (by kernel_rfl) (fun _ _ _ h => h) (Or.inl ⟨by rfl, ?r⟩) hS ?_
  case r => intro W hW; simp [go_sem, execOp, Act.eval]
  simp only [List.getElem_toArray, List.getElem_cons_zero, Act.put, List.setIfInBounds_toArray, List.set_cons_succ, List.set_cons_zero]
  refine wpAnyH_take (i := 1) (v := .int .i64 (n : Nat)) rfl (by kernel_rfl) (by kernel_rfl) (by kernel_rfl) (fun _ _ _ h => h) (Or.inl ⟨by rfl, ?r⟩) hS ?_
  case r => intro W hW; simp [go_sem, execOp, Act.eval]
  simp only [List.getElem_toArray, List.getElem_cons_zero, List.getElem_cons_succ, Act.put, List.setIfInBounds_toArray, List.set_cons_succ, List.set_cons_zero]
  refine wpAnyH_take (i := 3) (v := .slice (some ⟨b, f, none⟩) L cp) rfl (by kernel_rfl) (by kernel_rfl) (by kernel_rfl) (fun _ _ _ h => h) (Or.inl ⟨by rfl, ?r⟩) hS ?_
  case r => intro W hW; simp [go_sem, execOp, Act.eval]
  simp only [List.getElem_toArray, List.getElem_cons_zero, List.getElem_cons_succ, Act.put, List.setIfInBounds_toArray, List.set_cons_succ, List.set_cons_zero]
  refine wpAnyH_take (i := 4) (v := .int .i64 (j : Nat)) rfl (by kernel_rfl) (by kernel_rfl) (by kernel_rfl) (fun _ _ _ h => h) (Or.inl ⟨by rfl, ?r⟩) hS ?_
  case r => intro W hW; simp [go_sem, execOp, Act.eval]
  simp only [List.getElem_toArray, List.getElem_cons_zero, List.getElem_cons_succ, Act.put, List.setIfInBounds_toArray, List.set_cons_succ, List.set_cons_zero]
  refine wpAnyH_take (i := 5) (v := .pointer (some ⟨b, f + j * 3, none⟩)) rfl (by kernel_rfl) (by kernel_rfl) (by kernel_rfl) (fun _ _ _ h => h) (Or.inl ⟨by rfl, ?r⟩) hS ?_
  case r => intro W hW; simp [go_sem, execOp, Act.eval, hj1]
  simp only [List.getElem_toArray, List.getElem_cons_zero, List.getElem_cons_succ, Act.put, List.setIfInBounds_toArray, List.set_cons_succ, List.set_cons_zero]
  refine wpAnyH_take (i := 6) (v := .pointer (some ⟨b, f + j * 3 + 2, none⟩)) rfl (by kernel_rfl) (by kernel_rfl) (by kernel_rfl) (fun _ _ _ h => h) (Or.inl ⟨by rfl, ?r⟩) hS ?_
  case r => intro W hW; simp [go_sem, execOp, Act.eval]
  simp only [List.getElem_toArray, List.getElem_cons_zero, List.getElem_cons_succ, Act.put, List.setIfInBounds_toArray, List.set_cons_succ, List.set_cons_zero]
  refine wpAnyH_take (i := 7) (v := .int .i64 z) rfl (by kernel_rfl) (by kernel_rfl) (by kernel_rfl) (fun _ _ _ h => h) (Or.inl ⟨by rfl, ?r⟩) hS ?_
  case r => intro W hW; simp [go_sem, execOp, Act.eval, hW]
  simp only [List.getElem_toArray, List.getElem_cons_zero, List.getElem_cons_succ, Act.put, List.setIfInBounds_toArray, List.set_cons_succ, List.set_cons_zero]
  refine wpAnyH_all (rs := [2]) (by kernel_rfl) (by simp) (fun i2 hi2 => ?_)
  obtain rfl : i2 = 2 := by simpa using hi2
  clear hi2
  refine wpOp_step rfl (fun K hK => ite_yes rfl ?_)
  simp only [List.getElem_toArray, List.getElem_cons_zero, List.getElem_cons_succ]
  go_simp
  refine (key_any HN.out.1 _).mono ?_
  rintro r W5 ⟨d, rfl, hsd, hdi, bW5⟩
  have HMW5 : Hid (MC o m S es G vals ns (fun i => decide (i ∈ ns)) vals ov W5 ∧ RowI S es ov ns W5) := ⟨HMW4.out.1.below bW5, HMW4.out.2.below bW5⟩
  have HDW5 : Hid (MD.same 4 (keyR n) d = true ∧ MD.In W5.heap.size W5 4 d) := ⟨hsd, hdi⟩
  clear hsd hdi bW5
  have hSW5 : W5.cell? ⟨b, f + j * 3 + 2, none⟩ = some (.int .i64 z) := (HMW5.out.1.st.old.cell (p := ⟨b, f + j * 3 + 2, none⟩) HA.out.1).trans HA.out.2
  go_simp
  refine hK _ _ ⟨hSW5, ?_⟩
  clear hK K hS
  have hS := hSW5
  clear hSW5
  try simp only [Act.put, List.setIfInBounds_toArray, List.set_cons_succ, List.set_cons_zero]
  refine wpAnyH_all (rs := [8]) (by kernel_rfl) (by simp) (fun i2 hi2 => ?_)
  obtain rfl : i2 = 8 := by simpa using hi2
  clear hi2
  refine wpOp_step rfl (fun K hK => ite_yes rfl ?_)
  simp only [List.getElem_toArray, List.getElem_cons_zero, List.getElem_cons_succ]
  go_simp
  refine (whole_val z _).mono ?_
  rintro r W7 ⟨rfl, bW7⟩
  have HMW7 : Hid (MC o m S es G vals ns (fun i => decide (i ∈ ns)) vals ov W7 ∧ RowI S es ov ns W7) := ⟨HMW5.out.1.below bW7, HMW5.out.2.below bW7⟩
  have HDW7 : Hid (MD.same 4 (keyR n) d = true ∧ MD.In W7.heap.size W7 4 d) := ⟨HDW5.out.1, HDW5.out.2.later (Nat.le_refl _) bW7⟩
  clear bW7
  have hSW7 : W7.cell? ⟨b, f + j * 3 + 2, none⟩ = some (.int .i64 z) := (HMW7.out.1.st.old.cell (p := ⟨b, f + j * 3 + 2, none⟩) HA.out.1).trans HA.out.2
  go_simp
  refine hK _ _ ⟨hSW7, ?_⟩
  clear hK K hS
  have hS := hSW7
  clear hSW7
  try simp only [Act.put, List.setIfInBounds_toArray, List.set_cons_succ, List.set_cons_zero]
  refine wpAnyH_all (rs := [9]) (by kernel_rfl) (by simp) (fun i2 hi2 => ?_)
  obtain rfl : i2 = 9 := by simpa using hi2
  clear hi2
  refine wpOp_step rfl (fun K hK => ite_yes rfl ?_)
  simp only [List.getElem_toArray, List.getElem_cons_zero, List.getElem_cons_succ]
  go_simp
  refine (HMW7.out.1.put HN.out.2.2.1 HMW7.out.2 HN.out.1 HDW7.out.1 HDW7.out.2 HN.out.2.1 HN.out.2.2.2).mono ?_
  rintro r W6 ⟨rfl, es2, G2, hm6, hr6⟩
  have HM6 : Hid (MC o m S es2 G2 (upd vals n z) (if n ∈ ns then ns else ns ++ [n]) (fun i => decide (i ∈ ns)) vals ov W6 ∧ RowI S es2 ov ns W6) := ⟨hm6, hr6⟩
  clear hm6 hr6
  have hS6 : W6.cell? ⟨b, f + j * 3 + 2, none⟩ = some (.int .i64 z) := (HM6.out.1.st.old.cell (p := ⟨b, f + j * 3 + 2, none⟩) HA.out.1).trans HA.out.2
  go_simp
  refine hK _ _ ⟨hS6, ?_⟩
  clear hK K hS
  have hS := hS6
  clear hS6
  try simp only [Act.put, List.setIfInBounds_toArray, List.set_cons_succ, List.set_cons_zero]
  refine wpAnyH_take (i := 10) (v := .nilIface) rfl (by kernel_rfl) (by kernel_rfl) (by kernel_rfl) (fun _ _ _ h => h) (Or.inl ⟨by rfl, ?r⟩) hS ?_
  case r => intro W hW; simp [go_sem, execOp, Act.eval]
  simp only [List.getElem_toArray, List.getElem_cons_zero, List.getElem_cons_succ, Act.put, List.setIfInBounds_toArray, List.set_cons_succ, List.set_cons_zero]
  refine wpAnyH_done (by kernel_rfl) ?_ _
  refine NoPanic.normal ?_
  try simp only [Act.put]
  clear hS
  refine HK0.out _ _ ?_
  exact HTAIL.out _ (by kernel_rfl) _ _ _ HM6.out.1 HM6.out.2
end Go.Proofs.YtflonmlnedkmjaaDoor
