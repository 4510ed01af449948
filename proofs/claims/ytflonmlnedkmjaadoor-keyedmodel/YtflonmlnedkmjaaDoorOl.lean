/-
  KeyedModel: drop.
-/
import Derived.Test.YtflonmlnedkmjaaDoorOj
namespace Go.Proofs.YtflonmlnedkmjaaDoor
open Go.RowKit Go.Shelf
noncomputable def dropC : Code := sub [true, true, true, true, true, true, true, false, true, false, false, true, false, false, true, false, true, false, true, true, true, false] (Tryd.f3.body.getD .skip)
noncomputable def dropL : Code := sub [true, true, true, true, true, true, true, false, true, false, false, true, false, false, true, false, true, false, true, true, true, false, true, true, true, true, false, true, false, false] (Tryd.f3.body.getD .skip)
variable {o W : World} {m S n j b f L cp : Nat} {es : List Ent} {G : KG} {vals rv : Nat → Int} {ns xs : List Nat} {tn : Nat → Bool} {ov v : Value} {z : Int}
theorem RowI.form (h : RowI S es v xs W) : ∃ p c, v = .slice p xs.length c := by
  rcases h.1.2 with ⟨q1, q2⟩ | ⟨g, cap, cur, hv, _⟩
  · exact ⟨none, 0, by rw [q1, q2]⟩
  · exact ⟨_, _, hv⟩
theorem RowI.cell {p : Option Addr} {c k : Nat} (h : RowI S es (.slice p xs.length c) xs W) (hk : k < xs.length) : ∃ g, p = some ⟨g, 0, none⟩ ∧ g < W.heap.size ∧ W.cell? ⟨g, k, none⟩ = some (.int .i64 (xs[k] : Nat)) := by
  rcases h.1.2 with ⟨q1, q2⟩ | ⟨g, cap, cur, hv, _, hg, hn, _, _, ht⟩
  · omega
  · cases hv
    refine ⟨g, rfl, row_ltT hg, (row_at hg k).trans ?_⟩
    have h1 : (cur.toList.take (xs.length * 1))[k]? = (natV xs)[k]? := by rw [ht]
    rw [List.getElem?_take_of_lt (by omega)] at h1
    rw [← Array.getElem?_toList, h1]
    simp [natV, hk]
theorem there_drop (ns : List Nat) (n : Nat) : updB (fun i => decide (i ∈ ns)) n false = fun i => decide (i ∈ ns.filter (fun x => decide (x ≠ n))) := by
  funext i
  unfold updB
  by_cases hi : i = n
  · subst hi; simp
  · simp [hi]
theorem filter_take_yes {p : Nat → Bool} {k : Nat} (hk : k < ns.length) (h : p ns[k] = true) : (ns.take (k + 1)).filter p = (ns.take k).filter p ++ [ns[k]] := by
  rw [List.take_add_one, List.getElem?_eq_getElem hk, List.filter_append]
  simp [h]
theorem filter_take_no {p : Nat → Bool} {k : Nat} (hk : k < ns.length) (h : p ns[k] = false) : (ns.take (k + 1)).filter p = (ns.take k).filter p := by
  rw [List.take_add_one, List.getElem?_eq_getElem hk, List.filter_append]
  simp [h]
attribute [local go_sem] Oper.semAt_some
/-- What holds in the loop that leaves n out. -/
def DropI (o : World) (m S n : Nat) (es : List Ent) (G : KG) (vals : Nat → Int) (ms ns : List Nat) (tn : Nat → Bool) (ov r : Value) (k : Nat) (W : World) : Prop :=
  MC o m S es G vals ms tn vals ov W ∧ RowI S es ov ns W ∧ RowI S es r ((ns.take k).filter fun x => decide (x ≠ n)) W ∧ ∀ g, r.ownBlock = some g → ov.ownBlock ≠ some g
set_option maxRecDepth 100000 in
set_option maxHeartbeats 16000000 in
theorem dropL_any {C : Code} (hC : C = Code.loop dropL) {Q : Exit → Act → World → Prop} {ms : List Nat} {c1 c3 c10 c11 c12 c15 c16 c17 c18 c19 c20 c21 c22 c23 c24 c25 c26 c27 c28 c29 c30 c31 c32 c33 c34 c35 c36 c37 c38 c39 c40 c41 c42 c43 c44 c45 c46 c47 c48 c49 c50 c51 c52 c53 c54 c55 c56 c57 c58 c59 c60 c61 c62 c63 c64 c65 c66 c67 c68 c69 c70 c71 c72 c73 c74 c75 c76 c77 c78 c79 c80 c81 c82 c83 c84 c85 c86 c87 c88 c89 c90 c91 c92 c93 c94 c95 c96 c97 c98 c99 c100 c101 c102 c103 c104 c105 c106 c107 c108 c109 c110 c111 c112 c113 c114 c115 c116 c117 c118 c119 c120 c121 c122 c123 c124 c125 c126 c127 c128 c129 c130 c131 c132 c133 c134 c135 c136 c137 c138 c139 c140 c141 c142 c143 c144 c145 c146 c147 c148 c149 c150 c151 c152 c153 c154 c155 c156 c157 c158 c159 c160 c161 c162 c163 c164 c165 c166 c167 c168 c169 c170 c171 c172 c173 c174 c175 c176 c177 c178 c179 c180 c181 c182 c183 c184 c185 c186 c187 c188 c189 c190 c191 c192 c193 c194 c195 c196 c197 c198 c199 c200 c201 c202 c203 c204 c205 c206 c207 c208 c209 c210 c211 c212 c213 c214 c215 c216 c217 c218 c219 c220 c221 c222 c223 c224 c225 c226 c227 c228 c229 c230 c231 c232 c233 c234 c235 c236 c237 c238 c239 c240 c241 c242 c243 c244 c245 c246 c247 c248 c249 c250 c251 c252 c253 c254 c255 c256 c257 c258 c259 c260 c261 c262 : Value} (hl : ns.length < 1000)
    (hI : DropI o m S n es G vals ms ns tn ov (.slice none 0 0) 0 W)
    (hend : ∀ {u14 u155 u156 u157 u158 u159 u160 u161 u162 u163 u164 u165 u166 u167 u168 u169 u170 u171 u172 u173 : Value} (r : Value) (W2 : World), DropI o m S n es G vals ms ns tn ov r ns.length W2 → Q .normal ⟨List.toArray [.slice (some ⟨b, f, none⟩) L cp, c1, .pointer (some ⟨o.heap.size, 0, none⟩), c3, .pointer (some ⟨m, 0, none⟩), .slice (some ⟨S, 0, none⟩) 900 900, .pointer (some ⟨S + 2, 0, none⟩), .pointer (some ⟨S + 3, 0, none⟩), .int .i64 (j : Nat), .int .i64 (n : Nat), c10, c11, c12, r, u14, c15, c16, c17, c18, c19, c20, c21, c22, c23, c24, c25, c26, c27, c28, c29, c30, c31, c32, c33, c34, c35, c36, c37, c38, c39, c40, c41, c42, c43, c44, c45, c46, c47, c48, c49, c50, c51, c52, c53, c54, c55, c56, c57, c58, c59, c60, c61, c62, c63, c64, c65, c66, c67, c68, c69, c70, c71, c72, c73, c74, c75, c76, c77, c78, c79, c80, c81, c82, c83, c84, c85, c86, c87, c88, c89, c90, c91, c92, c93, c94, c95, c96, c97, c98, c99, c100, c101, c102, c103, c104, c105, c106, c107, c108, c109, c110, c111, c112, c113, c114, c115, c116, c117, c118, c119, c120, c121, c122, c123, c124, c125, c126, c127, c128, c129, c130, c131, c132, c133, c134, c135, c136, c137, c138, c139, c140, c141, c142, c143, c144, c145, c146, c147, c148, c149, c150, c151, c152, c153, c154, u155, u156, u157, u158, u159, u160, u161, u162, u163, u164, u165, u166, u167, u168, u169, u170, u171, u172, u173, c174, c175, c176, c177, c178, c179, c180, c181, c182, c183, c184, c185, c186, c187, c188, c189, c190, c191, c192, c193, c194, c195, c196, c197, c198, c199, c200, c201, c202, c203, c204, c205, c206, c207, c208, c209, c210, c211, c212, c213, c214, c215, c216, c217, c218, c219, c220, c221, c222, c223, c224, c225, c226, c227, c228, c229, c230, c231, c232, c233, c234, c235, c236, c237, c238, c239, c240, c241, c242, c243, c244, c245, c246, c247, c248, c249, c250, c251, c252, c253, c254, c255, c256, c257, c258, c259, c260, c261, c262], []⟩ W2) : C.wpIn Fence.wide 6 Tryd.prog (Exit.inBlock 3 Q) ⟨List.toArray [.slice (some ⟨b, f, none⟩) L cp, c1, .pointer (some ⟨o.heap.size, 0, none⟩), c3, .pointer (some ⟨m, 0, none⟩), .slice (some ⟨S, 0, none⟩) 900 900, .pointer (some ⟨S + 2, 0, none⟩), .pointer (some ⟨S + 3, 0, none⟩), .int .i64 (j : Nat), .int .i64 (n : Nat), c10, c11, c12, .slice none 0 0, .int .i64 0, c15, c16, c17, c18, c19, c20, c21, c22, c23, c24, c25, c26, c27, c28, c29, c30, c31, c32, c33, c34, c35, c36, c37, c38, c39, c40, c41, c42, c43, c44, c45, c46, c47, c48, c49, c50, c51, c52, c53, c54, c55, c56, c57, c58, c59, c60, c61, c62, c63, c64, c65, c66, c67, c68, c69, c70, c71, c72, c73, c74, c75, c76, c77, c78, c79, c80, c81, c82, c83, c84, c85, c86, c87, c88, c89, c90, c91, c92, c93, c94, c95, c96, c97, c98, c99, c100, c101, c102, c103, c104, c105, c106, c107, c108, c109, c110, c111, c112, c113, c114, c115, c116, c117, c118, c119, c120, c121, c122, c123, c124, c125, c126, c127, c128, c129, c130, c131, c132, c133, c134, c135, c136, c137, c138, c139, c140, c141, c142, c143, c144, c145, c146, c147, c148, c149, c150, c151, c152, c153, c154, c155, c156, c157, c158, c159, c160, c161, c162, c163, c164, c165, c166, c167, c168, c169, c170, c171, c172, c173, c174, c175, c176, c177, c178, c179, c180, c181, c182, c183, c184, c185, c186, c187, c188, c189, c190, c191, c192, c193, c194, c195, c196, c197, c198, c199, c200, c201, c202, c203, c204, c205, c206, c207, c208, c209, c210, c211, c212, c213, c214, c215, c216, c217, c218, c219, c220, c221, c222, c223, c224, c225, c226, c227, c228, c229, c230, c231, c232, c233, c234, c235, c236, c237, c238, c239, c240, c241, c242, c243, c244, c245, c246, c247, c248, c249, c250, c251, c252, c253, c254, c255, c256, c257, c258, c259, c260, c261, c262], []⟩ W := by
  subst hC
  have HL : Hid (ns.length < 1000) := hl
  have HI0 : Hid (DropI o m S n es G vals ms ns tn ov (.slice none 0 0) 0 W) := hI
  have HEN : Hid (∀ {u14 u155 u156 u157 u158 u159 u160 u161 u162 u163 u164 u165 u166 u167 u168 u169 u170 u171 u172 u173 : Value} (r : Value) (W2 : World), DropI o m S n es G vals ms ns tn ov r ns.length W2 → Q .normal ⟨List.toArray [.slice (some ⟨b, f, none⟩) L cp, c1, .pointer (some ⟨o.heap.size, 0, none⟩), c3, .pointer (some ⟨m, 0, none⟩), .slice (some ⟨S, 0, none⟩) 900 900, .pointer (some ⟨S + 2, 0, none⟩), .pointer (some ⟨S + 3, 0, none⟩), .int .i64 (j : Nat), .int .i64 (n : Nat), c10, c11, c12, r, u14, c15, c16, c17, c18, c19, c20, c21, c22, c23, c24, c25, c26, c27, c28, c29, c30, c31, c32, c33, c34, c35, c36, c37, c38, c39, c40, c41, c42, c43, c44, c45, c46, c47, c48, c49, c50, c51, c52, c53, c54, c55, c56, c57, c58, c59, c60, c61, c62, c63, c64, c65, c66, c67, c68, c69, c70, c71, c72, c73, c74, c75, c76, c77, c78, c79, c80, c81, c82, c83, c84, c85, c86, c87, c88, c89, c90, c91, c92, c93, c94, c95, c96, c97, c98, c99, c100, c101, c102, c103, c104, c105, c106, c107, c108, c109, c110, c111, c112, c113, c114, c115, c116, c117, c118, c119, c120, c121, c122, c123, c124, c125, c126, c127, c128, c129, c130, c131, c132, c133, c134, c135, c136, c137, c138, c139, c140, c141, c142, c143, c144, c145, c146, c147, c148, c149, c150, c151, c152, c153, c154, u155, u156, u157, u158, u159, u160, u161, u162, u163, u164, u165, u166, u167, u168, u169, u170, u171, u172, u173, c174, c175, c176, c177, c178, c179, c180, c181, c182, c183, c184, c185, c186, c187, c188, c189, c190, c191, c192, c193, c194, c195, c196, c197, c198, c199, c200, c201, c202, c203, c204, c205, c206, c207, c208, c209, c210, c211, c212, c213, c214, c215, c216, c217, c218, c219, c220, c221, c222, c223, c224, c225, c226, c227, c228, c229, c230, c231, c232, c233, c234, c235, c236, c237, c238, c239, c240, c241, c242, c243, c244, c245, c246, c247, c248, c249, c250, c251, c252, c253, c254, c255, c256, c257, c258, c259, c260, c261, c262], []⟩ W2) := hend
  obtain ⟨op, oc, rfl⟩ := hI.2.1.form
  clear hl hI hend
  unfold dropL
  simp only [Tryd.f3, Option.getD, sub]
  gi_loopg [13, 14] ns.length (fun gk r i wr => ∃ k : Nat, gk + k = ns.length ∧ i = .int .i64 k ∧ (∃ rp rl rc, r = .slice rp rl rc) ∧ Hid (DropI o m S n es G vals ms ns tn (.slice op ns.length oc) r k wr))
  case atStart => exact ⟨0, by omega, rfl, ⟨_, _, _, rfl⟩, HI0.out⟩
  case round =>
    obtain ⟨k, hk, rfl, ⟨rp, rl, rc, rfl⟩, HR⟩ := hrel
    have hco := row_at HR.out.1.obox 0
    have hzo := row_ltT HR.out.1.obox
    have HK : Hid (gk + k = ns.length) := hk
    have hl := HL.out
    by_cases hlt : k < ns.length
    · have i1 : (k : Int) < ns.length := by omega
      obtain ⟨g, rfl, hgz, hcg⟩ := HR.out.2.1.cell hlt
      obtain ⟨y, hy⟩ : ∃ y, y = ns[k] := ⟨_, rfl⟩
      rw [← hy] at hcg
      have HY : Hid (y = ns[k]) := hy
      clear hk hy
      by_cases hyn : y = n
      · subst hyn
        have HF : Hid ((ns.take (k + 1)).filter (fun x => decide (x ≠ y)) = (ns.take k).filter (fun x => decide (x ≠ y))) := filter_take_no hlt (by rw [← HY.out]; simp)
        gi_wp2_with fail
        gi_roundg (ns.length - (k + 1))
        case measure => have := HK.out; omega
        case rel => exact ⟨k + 1, by omega, by go_num, ⟨_, _, _, rfl⟩, HR.out.1, HR.out.2.1, by rw [HF.out]; exact HR.out.2.2.1, HR.out.2.2.2⟩
      · have hyn' : ¬ (y : Int) = (n : Int) := by omega
        have HF : Hid ((ns.take (k + 1)).filter (fun x => decide (x ≠ n)) = (ns.take k).filter (fun x => decide (x ≠ n)) ++ [y]) := by rw [HY.out]; exact filter_take_yes hlt (by rw [← HY.out]; simp [hyn])
        obtain ⟨i0, hi, hz0', hz1, hz2⟩ := info3_parts
        obtain ⟨fl, hfl⟩ : ∃ fl, fl = (ns.take k).filter (fun x => decide (x ≠ n)) := ⟨_, rfl⟩
        have hr0 := HR.out.2.2.1
        rw [← hfl] at hr0
        have HRF : Hid (RowI S es (.slice rp rl rc) fl wr) := hr0
        have hll : fl.length ≤ ns.length := by
          rw [hfl]; exact Nat.le_trans (List.length_filter_le _ _) (by rw [List.length_take]; omega)
        have hown := hr0.1
        rw [← hfl] at HF
        have hbs : S + 4 ≤ (wr.alloc (.cells #[.int .i64 (y : Nat)] 3)).heap.size := by simp; omega
        clear hr0 hfl
        gi_wp2_with (gi_at_builtin; refine wpListIn_append_there _ rfl _ _ 27 rfl (S + 4) 3 i0 (.int .i64 0) 1 8 Tryd.underlying27 hi hz0' hz1 hz2 rfl (by decide) (.slice rp rl rc) fl.length (natV fl) rfl (hown.alloc _) ⟨wr.heap.size, 0, none⟩ 1 1 [.int .i64 (y : Nat)] rfl rfl ?_ (by simp [Value.oneCell']) (by unfold maxLen; omega) (by omega) hbs ?_; exact one_new _ _ _ _ rfl; intro v' w6 hown6 hgr6 hthere; obtain ⟨g6, c6, rfl⟩ := slice_of hown6 (Nat.succ_pos _))
        gi_roundg (ns.length - (k + 1))
        case measure => have := HK.out; omega
        case rel =>
          have hma := HR.out.1.below (below1 wr (.cells #[.int .i64 (y : Nat)] 3))
          have hra := HRF.out.below (below1 wr (.cells #[.int .i64 (y : Nat)] 3))
          have hoa := HR.out.2.1.below (below1 wr (.cells #[.int .i64 (y : Nat)] 3))
          have hat : ∀ g', (Value.slice (some ⟨g6, 0, none⟩) (fl.length + 1) c6).ownBlock = some g' → (Value.slice rp rl rc).ownBlock = some g' ∨ (wr.alloc (.cells #[.int .i64 (y : Nat)] 3)).heap.size ≤ g' := fun g' hg' => by
            rcases hthere with q | q
            · exact .inl (q ▸ hg')
            · rw [q] at hg'; exact .inr (Nat.le_of_eq (Option.some.inj hg'))
          refine ⟨k + 1, by omega, by go_num, ⟨_, _, _, rfl⟩, hma.grown hra hgr6, hoa.grownO hra HR.out.2.2.2 hgr6, ?_, fun g' hg' q => ?_⟩
          · rw [HF.out]
            exact RowI.grown (n := y) hma.st.map hra hown6 hat
          · rcases hat g' hg' with q2 | q2
            · exact HR.out.2.2.2 g' q2 q
            · have := (HR.out.2.1.at q).2.1
              simp at q2
              omega
    · have i1 : ¬ (k : Int) < ns.length := by omega
      have hkl : k = ns.length := by omega
      have HF : Hid (DropI o m S n es G vals ms ns tn (.slice op ns.length oc) (.slice rp rl rc) ns.length wr) := hkl ▸ HR.out
      gi_wp2_with fail
      exact HEN.out _ _ HF.out

set_option maxRecDepth 100000 in
set_option maxHeartbeats 16000000 in
theorem drop_any {C : Code} (hC : C = dropC) {Q : Exit → Act → World → Prop} {c1 c3 c10 c11 c12 c13 c14 c15 c16 c17 c18 c19 c20 c21 c22 c23 c24 c25 c26 c27 c28 c29 c30 c31 c32 c33 c34 c35 c36 c37 c38 c39 c40 c41 c42 c43 c44 c45 c46 c47 c48 c49 c50 c51 c52 c53 c54 c55 c56 c57 c58 c59 c60 c61 c62 c63 c64 c65 c66 c67 c68 c69 c70 c71 c72 c73 c74 c75 c76 c77 c78 c79 c80 c81 c82 c83 c84 c85 c86 c87 c88 c89 c90 c91 c92 c93 c94 c95 c96 c97 c98 c99 c100 c101 c102 c103 c104 c105 c106 c107 c108 c109 c110 c111 c112 c113 c114 c115 c116 c117 c118 c119 c120 c121 c122 c123 c124 c125 c126 c127 c128 c129 c130 c131 c132 c133 c134 c135 c136 c137 c138 c139 c140 c141 c142 c143 c144 c145 c146 c147 c148 c149 c150 c151 c152 c153 c154 c155 c156 c157 c158 c159 c160 c161 c162 c163 c164 c165 c166 c167 c168 c169 c170 c171 c172 c173 c174 c175 c176 c177 c178 c179 c180 c181 c182 c183 c184 c185 c186 c187 c188 c189 c190 c191 c192 c193 c194 c195 c196 c197 c198 c199 c200 c201 c202 c203 c204 c205 c206 c207 c208 c209 c210 c211 c212 c213 c214 c215 c216 c217 c218 c219 c220 c221 c222 c223 c224 c225 c226 c227 c228 c229 c230 c231 c232 c233 c234 c235 c236 c237 c238 c239 c240 c241 c242 c243 c244 c245 c246 c247 c248 c249 c250 c251 c252 c253 c254 c255 c256 c257 c258 c259 c260 c261 c262 : Value} (hM : MC o m S es G vals ns (fun i => decide (i ∈ ns)) vals ov W) (hR : RowI S es ov ns W)
    (ho : NamesAt o) (hn : n < 900) (hl : ns.length < 1000)
    (hend : ∀ {u11 u12 u13 u14 u135 u136 u137 u138 u139 u140 u141 u142 u143 u144 u145 u146 u147 u148 u149 u150 u151 u152 u153 u154 u155 u156 u157 u158 u159 u160 u161 u162 u163 u164 u165 u166 u167 u168 u169 u170 u171 u172 u173 u174 : Value} (es2 : List Ent) (G2 : KG) (ns2 : List Nat) (ov2 : Value) (W2 : World), MC o m S es2 G2 vals ns2 (fun i => decide (i ∈ ns2)) vals ov2 W2 → RowI S es2 ov2 ns2 W2 → ns2.length ≤ ns.length → Q .normal ⟨List.toArray [.slice (some ⟨b, f, none⟩) L cp, c1, .pointer (some ⟨o.heap.size, 0, none⟩), c3, .pointer (some ⟨m, 0, none⟩), .slice (some ⟨S, 0, none⟩) 900 900, .pointer (some ⟨S + 2, 0, none⟩), .pointer (some ⟨S + 3, 0, none⟩), .int .i64 (j : Nat), .int .i64 (n : Nat), c10, u11, u12, u13, u14, c15, c16, c17, c18, c19, c20, c21, c22, c23, c24, c25, c26, c27, c28, c29, c30, c31, c32, c33, c34, c35, c36, c37, c38, c39, c40, c41, c42, c43, c44, c45, c46, c47, c48, c49, c50, c51, c52, c53, c54, c55, c56, c57, c58, c59, c60, c61, c62, c63, c64, c65, c66, c67, c68, c69, c70, c71, c72, c73, c74, c75, c76, c77, c78, c79, c80, c81, c82, c83, c84, c85, c86, c87, c88, c89, c90, c91, c92, c93, c94, c95, c96, c97, c98, c99, c100, c101, c102, c103, c104, c105, c106, c107, c108, c109, c110, c111, c112, c113, c114, c115, c116, c117, c118, c119, c120, c121, c122, c123, c124, c125, c126, c127, c128, c129, c130, c131, c132, c133, c134, u135, u136, u137, u138, u139, u140, u141, u142, u143, u144, u145, u146, u147, u148, u149, u150, u151, u152, u153, u154, u155, u156, u157, u158, u159, u160, u161, u162, u163, u164, u165, u166, u167, u168, u169, u170, u171, u172, u173, u174, c175, c176, c177, c178, c179, c180, c181, c182, c183, c184, c185, c186, c187, c188, c189, c190, c191, c192, c193, c194, c195, c196, c197, c198, c199, c200, c201, c202, c203, c204, c205, c206, c207, c208, c209, c210, c211, c212, c213, c214, c215, c216, c217, c218, c219, c220, c221, c222, c223, c224, c225, c226, c227, c228, c229, c230, c231, c232, c233, c234, c235, c236, c237, c238, c239, c240, c241, c242, c243, c244, c245, c246, c247, c248, c249, c250, c251, c252, c253, c254, c255, c256, c257, c258, c259, c260, c261, c262], []⟩ W2) : C.wpIn Fence.wide 6 Tryd.prog Q ⟨List.toArray [.slice (some ⟨b, f, none⟩) L cp, c1, .pointer (some ⟨o.heap.size, 0, none⟩), c3, .pointer (some ⟨m, 0, none⟩), .slice (some ⟨S, 0, none⟩) 900 900, .pointer (some ⟨S + 2, 0, none⟩), .pointer (some ⟨S + 3, 0, none⟩), .int .i64 (j : Nat), .int .i64 (n : Nat), c10, c11, c12, c13, c14, c15, c16, c17, c18, c19, c20, c21, c22, c23, c24, c25, c26, c27, c28, c29, c30, c31, c32, c33, c34, c35, c36, c37, c38, c39, c40, c41, c42, c43, c44, c45, c46, c47, c48, c49, c50, c51, c52, c53, c54, c55, c56, c57, c58, c59, c60, c61, c62, c63, c64, c65, c66, c67, c68, c69, c70, c71, c72, c73, c74, c75, c76, c77, c78, c79, c80, c81, c82, c83, c84, c85, c86, c87, c88, c89, c90, c91, c92, c93, c94, c95, c96, c97, c98, c99, c100, c101, c102, c103, c104, c105, c106, c107, c108, c109, c110, c111, c112, c113, c114, c115, c116, c117, c118, c119, c120, c121, c122, c123, c124, c125, c126, c127, c128, c129, c130, c131, c132, c133, c134, c135, c136, c137, c138, c139, c140, c141, c142, c143, c144, c145, c146, c147, c148, c149, c150, c151, c152, c153, c154, c155, c156, c157, c158, c159, c160, c161, c162, c163, c164, c165, c166, c167, c168, c169, c170, c171, c172, c173, c174, c175, c176, c177, c178, c179, c180, c181, c182, c183, c184, c185, c186, c187, c188, c189, c190, c191, c192, c193, c194, c195, c196, c197, c198, c199, c200, c201, c202, c203, c204, c205, c206, c207, c208, c209, c210, c211, c212, c213, c214, c215, c216, c217, c218, c219, c220, c221, c222, c223, c224, c225, c226, c227, c228, c229, c230, c231, c232, c233, c234, c235, c236, c237, c238, c239, c240, c241, c242, c243, c244, c245, c246, c247, c248, c249, c250, c251, c252, c253, c254, c255, c256, c257, c258, c259, c260, c261, c262], []⟩ W := by
  subst hC
  have hn1 : (n : Int) < 900 := by omega
  have HN : Hid (n < 900 ∧ NamesAt o ∧ ns.length < 1000) := ⟨hn, ho, hl⟩
  have HM : Hid (MC o m S es G vals ns (fun i => decide (i ∈ ns)) vals ov W ∧ RowI S es ov ns W) := ⟨hM, hR⟩
  have HEN : Hid (∀ {u11 u12 u13 u14 u135 u136 u137 u138 u139 u140 u141 u142 u143 u144 u145 u146 u147 u148 u149 u150 u151 u152 u153 u154 u155 u156 u157 u158 u159 u160 u161 u162 u163 u164 u165 u166 u167 u168 u169 u170 u171 u172 u173 u174 : Value} (es2 : List Ent) (G2 : KG) (ns2 : List Nat) (ov2 : Value) (W2 : World), MC o m S es2 G2 vals ns2 (fun i => decide (i ∈ ns2)) vals ov2 W2 → RowI S es2 ov2 ns2 W2 → ns2.length ≤ ns.length → Q .normal ⟨List.toArray [.slice (some ⟨b, f, none⟩) L cp, c1, .pointer (some ⟨o.heap.size, 0, none⟩), c3, .pointer (some ⟨m, 0, none⟩), .slice (some ⟨S, 0, none⟩) 900 900, .pointer (some ⟨S + 2, 0, none⟩), .pointer (some ⟨S + 3, 0, none⟩), .int .i64 (j : Nat), .int .i64 (n : Nat), c10, u11, u12, u13, u14, c15, c16, c17, c18, c19, c20, c21, c22, c23, c24, c25, c26, c27, c28, c29, c30, c31, c32, c33, c34, c35, c36, c37, c38, c39, c40, c41, c42, c43, c44, c45, c46, c47, c48, c49, c50, c51, c52, c53, c54, c55, c56, c57, c58, c59, c60, c61, c62, c63, c64, c65, c66, c67, c68, c69, c70, c71, c72, c73, c74, c75, c76, c77, c78, c79, c80, c81, c82, c83, c84, c85, c86, c87, c88, c89, c90, c91, c92, c93, c94, c95, c96, c97, c98, c99, c100, c101, c102, c103, c104, c105, c106, c107, c108, c109, c110, c111, c112, c113, c114, c115, c116, c117, c118, c119, c120, c121, c122, c123, c124, c125, c126, c127, c128, c129, c130, c131, c132, c133, c134, u135, u136, u137, u138, u139, u140, u141, u142, u143, u144, u145, u146, u147, u148, u149, u150, u151, u152, u153, u154, u155, u156, u157, u158, u159, u160, u161, u162, u163, u164, u165, u166, u167, u168, u169, u170, u171, u172, u173, u174, c175, c176, c177, c178, c179, c180, c181, c182, c183, c184, c185, c186, c187, c188, c189, c190, c191, c192, c193, c194, c195, c196, c197, c198, c199, c200, c201, c202, c203, c204, c205, c206, c207, c208, c209, c210, c211, c212, c213, c214, c215, c216, c217, c218, c219, c220, c221, c222, c223, c224, c225, c226, c227, c228, c229, c230, c231, c232, c233, c234, c235, c236, c237, c238, c239, c240, c241, c242, c243, c244, c245, c246, c247, c248, c249, c250, c251, c252, c253, c254, c255, c256, c257, c258, c259, c260, c261, c262], []⟩ W2) := hend
  clear hM hR hn ho hend hl
  unfold dropC
  simp only [Tryd.f3, Option.getD, sub]
  gi_wp2_with fail
  refine ⟨trivial, (callsIn_wide.2 (key_any HN.out.1 _)).mono ?_⟩
  rintro r W1 ⟨d, rfl, hsd, hdi, b1⟩
  have HG : Hid (Calls Tryd.prog 11 #[.pointer (some ⟨m, 0, none⟩), d.val] W1 fun r W' => r = .returned (.tuple #[.bool (decide (n ∈ ns)), .nilIface]) ∧ ∃ es' G', MC o m S es' G' vals (ns.filter (fun x => decide (x ≠ n))) (fun i => decide (i ∈ ns)) vals ov W' ∧ RowI S es' ov ns W') := (HM.out.1.below b1).drop HN.out.2.1 (HM.out.2.below b1) HN.out.1 hsd hdi
  clear hsd hdi b1
  gi_wp2_with fail
  refine ⟨trivial, (callsIn_wide.2 HG.out).mono ?_⟩
  rintro r W2 ⟨rfl, es2, G2, hm2, hr2⟩
  obtain ⟨ct, t1, t2⟩ := hm2.there
  obtain ⟨tb, htb⟩ : ∃ tb, tb = decide (n ∈ ns) := ⟨_, rfl⟩
  have hct : W2.cell? ⟨S, n, none⟩ = some (.bool tb) := by rw [htb]; exact (row_at t1 n).trans (t2 n HN.out.1)
  have hft := fz _ _ _ _ n t1
  have hzt := row_ltT t1
  have HM2 : Hid (MC o m S es2 G2 vals (ns.filter (fun x => decide (x ≠ n))) (fun i => decide (i ∈ ns)) vals ov W2 ∧ RowI S es2 ov ns W2) := ⟨hm2, hr2⟩
  rw [← htb]
  clear htb t1 t2 HG hm2 hr2
  have htt : (!tb == tb) = false := by cases tb <;> rfl
  gi_wp2_with fail
  rename_i K0 hK0
  have HK0 : Hid _ := hK0
  clear hK0
  have hI : DropI o m S n es2 G2 vals (ns.filter (fun x => decide (x ≠ n))) ns (fun i => decide (i ∈ ns.filter (fun x => decide (x ≠ n)))) ov (.slice none 0 0) 0 (W2.setCell ⟨S, n, none⟩ (.bool false)) := by
    have h1 := HM2.out.1.setThere HN.out.1 false
    rw [there_drop] at h1
    exact ⟨h1, HM2.out.2.set (by omega), RowI.nil, fun g hg => by cases hg⟩
  refine dropL_any (by kernel_rfl) HN.out.2.2 hI ?_
  intros
  rename_i r W3 hI3
  obtain ⟨rp, rl, rc, rfl⟩ : ∃ a b c, r = .slice a b c := by
    obtain ⟨p, c, h⟩ := hI3.2.2.1.form
    exact ⟨_, _, _, h⟩
  have hc3 := row_at hI3.1.obox 0
  have hf3 := fz _ _ _ _ 0 hI3.1.obox
  have hz3 := row_ltT hI3.1.obox
  have HI3 : Hid (DropI o m S n es2 G2 vals (ns.filter (fun x => decide (x ≠ n))) ns (fun i => decide (i ∈ ns.filter (fun x => decide (x ≠ n)))) ov (.slice rp rl rc) ns.length W3) := hI3
  clear hI3 hI hct hft hzt
  refine HK0.out _ _ ?_
  dsimp only
  gi_wp2_with fail
  have h4 := HI3.out
  have h5 := h4.2.2.1
  rw [List.take_length] at h5
  exact HEN.out _ _ _ _ _ (h4.1.setOrder _) (h5.set (by omega)) (List.length_filter_le _ _)
end Go.Proofs.YtflonmlnedkmjaaDoor
