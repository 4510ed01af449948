/-
  KeyedModel: the loop over the acts.
  KeyedModel: between two turns.
  KeyedModel: a turn over All.
  KeyedModel: a turn over Walk.
  KeyedModel from the second range on.
  KeyedModel behind the loop over the acts.
  The law KeyedModel.
  From the reading of an argument to acts that lie in memory.
-/
import Derived.Test.YtflonmlnedkmjaaDoorOm
import Derived.Test.YtflonmlnedkmjaaDoorOfJ
import Derived.Test.YtflonmlnedkmjaaDoorNdJ
import Derived.Test.YtflonmlnedkmjaaDoorPh2J
namespace Go.Proofs.YtflonmlnedkmjaaDoor
open Go.RowKit Go.Shelf
noncomputable def loopC : Code := sub [true, true, true, true, true, true, true, false, true, false, false] (Tryd.f3.body.getD .skip)
/-- The acts lie in memory. -/
def ActsAt (o : World) (pp : Option Addr) (acts : List (Int × Int × Int)) : Prop := acts = [] ∨ ∃ b f, pp = some ⟨b, f, none⟩ ∧ b < o.heap.size ∧ ∀ (i : Nat) (hi : i < acts.length),
  o.cell? ⟨b, f + i * 3, none⟩ = some (.int .i64 acts[i].1) ∧ o.cell? ⟨b, f + i * 3 + 1, none⟩ = some (.int .i64 acts[i].2.1) ∧ o.cell? ⟨b, f + i * 3 + 2, none⟩ = some (.int .i64 acts[i].2.2)
def ActsFit (acts : List (Int × Int × Int)) : Prop := ∀ a ∈ acts, (-9223372036854775808 ≤ a.1 ∧ a.1 ≤ 9223372036854775807) ∧ (-9223372036854775808 ≤ a.2.1 ∧ a.2.1 ≤ 9223372036854775807) ∧ (-9223372036854775808 ≤ a.2.2 ∧ a.2.2 ≤ 9223372036854775807)
variable {o W : World} {m S cp : Nat} {es : List Ent} {G : KG} {vals : Nat → Int} {ns : List Nat} {ov : Value} {pp : Option Addr} {acts : List (Int × Int × Int)}
attribute [local go_sem] Oper.semAt_some
set_option maxRecDepth 100000 in
set_option maxHeartbeats 16000000 in
theorem loopM_any {C : Code} (hC : C = Code.loop loopC) {Q : Exit → Act → World → Prop} {c1 c3 c9 c10 c11 c12 c13 c14 c15 c16 c17 c18 c19 c20 c21 c22 c23 c24 c25 c26 c27 c28 c29 c30 c31 c32 c33 c34 c35 c36 c37 c38 c39 c40 c41 c42 c43 c44 c45 c46 c47 c48 c49 c50 c51 c52 c53 c54 c55 c56 c57 c58 c59 c60 c61 c62 c63 c64 c65 c66 c67 c68 c69 c70 c71 c72 c73 c74 c75 c76 c77 c78 c79 c80 c81 c82 c83 c84 c85 c86 c87 c88 c89 c90 c91 c92 c93 c94 c95 c96 c97 c98 c99 c100 c101 c102 c103 c104 c105 c106 c107 c108 c109 c110 c111 c112 c113 c114 c115 c116 c117 c118 c119 c120 c121 c122 c123 c124 c125 c126 c127 c128 c129 c130 c131 c132 c133 c134 c135 c136 c137 c138 c139 c140 c141 c142 c143 c144 c145 c146 c147 c148 c149 c150 c151 c152 c153 c154 c155 c156 c157 c158 c159 c160 c161 c162 c163 c164 c165 c166 c167 c168 c169 c170 c171 c172 c173 c174 c175 c176 c177 c178 c179 c180 c181 c182 c183 c184 c185 c186 c187 c188 c189 c190 c191 c192 c193 c194 c195 c196 c197 c198 c199 c200 c201 c202 c203 c204 c205 c206 c207 c208 c209 c210 c211 c212 c213 c214 c215 c216 c217 c218 c219 c220 c221 c222 c223 c224 c225 c226 c227 c228 c229 c230 c231 c232 c233 c234 c235 c236 c237 c238 c239 c240 c241 c242 c243 c244 c245 c246 c247 c248 c249 c250 c251 c252 c253 c254 c255 c256 c257 c258 c259 c260 c261 c262 : Value} (hM : MC o m S es G vals [] (fun i => decide (i ∈ ([] : List Nat))) vals ov W) (hR : RowI S es ov [] W)
    (ho : NamesAt o) (hA : ActsAt o pp acts) (hF : ActsFit acts) (hL : acts.length ≤ 9223372036854775807)
    (hend : ∀ {u8 u9 u10 u11 u12 u13 u14 u15 u16 u17 u37 u38 u39 u40 u41 u42 u43 u44 u45 u46 u47 u48 u49 u50 u51 u52 u53 u54 u55 u56 u57 u58 u59 u60 u61 u62 u63 u64 u65 u66 u67 u68 u69 u70 u71 u72 u73 u74 u75 u76 u77 u78 u79 u80 u81 u82 u83 u84 u85 u86 u87 u88 u89 u90 u91 u92 u93 u94 u95 u96 u97 u98 u99 u100 u101 u102 u103 u104 u105 u106 u107 u108 u109 u110 u111 u112 u113 u114 u115 u116 u117 u118 u119 u120 u121 u122 u123 u124 u125 u126 u127 u128 u129 u130 u131 u132 u133 u134 u135 u136 u137 u138 u139 u140 u141 u142 u143 u144 u145 u146 u147 u148 u149 u150 u151 u152 u153 u154 u155 u156 u157 u158 u159 u160 u161 u162 u163 u164 u165 u166 u167 u168 u169 u170 u171 u172 u173 u174 u175 u176 u177 u178 u179 : Value} (es2 : List Ent) (G2 : KG) (vals2 : Nat → Int) (ns2 : List Nat) (ov2 : Value) (W2 : World), MC o m S es2 G2 vals2 ns2 (fun i => decide (i ∈ ns2)) vals2 ov2 W2 → RowI S es2 ov2 ns2 W2 → ns2.length ≤ 400 → Q .normal ⟨List.toArray [.slice pp acts.length cp, c1, .pointer (some ⟨o.heap.size, 0, none⟩), c3, .pointer (some ⟨m, 0, none⟩), .slice (some ⟨S, 0, none⟩) 900 900, .pointer (some ⟨S + 2, 0, none⟩), .pointer (some ⟨S + 3, 0, none⟩), u8, u9, u10, u11, u12, u13, u14, u15, u16, u17, c18, c19, c20, c21, c22, c23, c24, c25, c26, c27, c28, c29, c30, c31, c32, c33, c34, c35, c36, u37, u38, u39, u40, u41, u42, u43, u44, u45, u46, u47, u48, u49, u50, u51, u52, u53, u54, u55, u56, u57, u58, u59, u60, u61, u62, u63, u64, u65, u66, u67, u68, u69, u70, u71, u72, u73, u74, u75, u76, u77, u78, u79, u80, u81, u82, u83, u84, u85, u86, u87, u88, u89, u90, u91, u92, u93, u94, u95, u96, u97, u98, u99, u100, u101, u102, u103, u104, u105, u106, u107, u108, u109, u110, u111, u112, u113, u114, u115, u116, u117, u118, u119, u120, u121, u122, u123, u124, u125, u126, u127, u128, u129, u130, u131, u132, u133, u134, u135, u136, u137, u138, u139, u140, u141, u142, u143, u144, u145, u146, u147, u148, u149, u150, u151, u152, u153, u154, u155, u156, u157, u158, u159, u160, u161, u162, u163, u164, u165, u166, u167, u168, u169, u170, u171, u172, u173, u174, u175, u176, u177, u178, u179, c180, c181, c182, c183, c184, c185, c186, c187, c188, c189, c190, c191, c192, c193, c194, c195, c196, c197, c198, c199, c200, c201, c202, c203, c204, c205, c206, c207, c208, c209, c210, c211, c212, c213, c214, c215, c216, c217, c218, c219, c220, c221, c222, c223, c224, c225, c226, c227, c228, c229, c230, c231, c232, c233, c234, c235, c236, c237, c238, c239, c240, c241, c242, c243, c244, c245, c246, c247, c248, c249, c250, c251, c252, c253, c254, c255, c256, c257, c258, c259, c260, c261, c262], []⟩ W2) : C.wpIn Fence.wide 6 Tryd.prog (Exit.inBlock 0 Q) ⟨List.toArray [.slice pp acts.length cp, c1, .pointer (some ⟨o.heap.size, 0, none⟩), c3, .pointer (some ⟨m, 0, none⟩), .slice (some ⟨S, 0, none⟩) 900 900, .pointer (some ⟨S + 2, 0, none⟩), .pointer (some ⟨S + 3, 0, none⟩), .int .i64 0, c9, c10, c11, c12, c13, c14, c15, c16, c17, c18, c19, c20, c21, c22, c23, c24, c25, c26, c27, c28, c29, c30, c31, c32, c33, c34, c35, c36, c37, c38, c39, c40, c41, c42, c43, c44, c45, c46, c47, c48, c49, c50, c51, c52, c53, c54, c55, c56, c57, c58, c59, c60, c61, c62, c63, c64, c65, c66, c67, c68, c69, c70, c71, c72, c73, c74, c75, c76, c77, c78, c79, c80, c81, c82, c83, c84, c85, c86, c87, c88, c89, c90, c91, c92, c93, c94, c95, c96, c97, c98, c99, c100, c101, c102, c103, c104, c105, c106, c107, c108, c109, c110, c111, c112, c113, c114, c115, c116, c117, c118, c119, c120, c121, c122, c123, c124, c125, c126, c127, c128, c129, c130, c131, c132, c133, c134, c135, c136, c137, c138, c139, c140, c141, c142, c143, c144, c145, c146, c147, c148, c149, c150, c151, c152, c153, c154, c155, c156, c157, c158, c159, c160, c161, c162, c163, c164, c165, c166, c167, c168, c169, c170, c171, c172, c173, c174, c175, c176, c177, c178, c179, c180, c181, c182, c183, c184, c185, c186, c187, c188, c189, c190, c191, c192, c193, c194, c195, c196, c197, c198, c199, c200, c201, c202, c203, c204, c205, c206, c207, c208, c209, c210, c211, c212, c213, c214, c215, c216, c217, c218, c219, c220, c221, c222, c223, c224, c225, c226, c227, c228, c229, c230, c231, c232, c233, c234, c235, c236, c237, c238, c239, c240, c241, c242, c243, c244, c245, c246, c247, c248, c249, c250, c251, c252, c253, c254, c255, c256, c257, c258, c259, c260, c261, c262], []⟩ W := by
  subst hC
  have HP : Hid (NamesAt o ∧ ActsAt o pp acts ∧ ActsFit acts) := ⟨ho, hA, hF⟩
  have HM0 : Hid (MC o m S es G vals [] (fun i => decide (i ∈ ([] : List Nat))) vals ov W ∧ RowI S es ov [] W) := ⟨hM, hR⟩
  have HEN : Hid (∀ {u8 u9 u10 u11 u12 u13 u14 u15 u16 u17 u37 u38 u39 u40 u41 u42 u43 u44 u45 u46 u47 u48 u49 u50 u51 u52 u53 u54 u55 u56 u57 u58 u59 u60 u61 u62 u63 u64 u65 u66 u67 u68 u69 u70 u71 u72 u73 u74 u75 u76 u77 u78 u79 u80 u81 u82 u83 u84 u85 u86 u87 u88 u89 u90 u91 u92 u93 u94 u95 u96 u97 u98 u99 u100 u101 u102 u103 u104 u105 u106 u107 u108 u109 u110 u111 u112 u113 u114 u115 u116 u117 u118 u119 u120 u121 u122 u123 u124 u125 u126 u127 u128 u129 u130 u131 u132 u133 u134 u135 u136 u137 u138 u139 u140 u141 u142 u143 u144 u145 u146 u147 u148 u149 u150 u151 u152 u153 u154 u155 u156 u157 u158 u159 u160 u161 u162 u163 u164 u165 u166 u167 u168 u169 u170 u171 u172 u173 u174 u175 u176 u177 u178 u179 : Value} (es2 : List Ent) (G2 : KG) (vals2 : Nat → Int) (ns2 : List Nat) (ov2 : Value) (W2 : World), MC o m S es2 G2 vals2 ns2 (fun i => decide (i ∈ ns2)) vals2 ov2 W2 → RowI S es2 ov2 ns2 W2 → ns2.length ≤ 400 → Q .normal ⟨List.toArray [.slice pp acts.length cp, c1, .pointer (some ⟨o.heap.size, 0, none⟩), c3, .pointer (some ⟨m, 0, none⟩), .slice (some ⟨S, 0, none⟩) 900 900, .pointer (some ⟨S + 2, 0, none⟩), .pointer (some ⟨S + 3, 0, none⟩), u8, u9, u10, u11, u12, u13, u14, u15, u16, u17, c18, c19, c20, c21, c22, c23, c24, c25, c26, c27, c28, c29, c30, c31, c32, c33, c34, c35, c36, u37, u38, u39, u40, u41, u42, u43, u44, u45, u46, u47, u48, u49, u50, u51, u52, u53, u54, u55, u56, u57, u58, u59, u60, u61, u62, u63, u64, u65, u66, u67, u68, u69, u70, u71, u72, u73, u74, u75, u76, u77, u78, u79, u80, u81, u82, u83, u84, u85, u86, u87, u88, u89, u90, u91, u92, u93, u94, u95, u96, u97, u98, u99, u100, u101, u102, u103, u104, u105, u106, u107, u108, u109, u110, u111, u112, u113, u114, u115, u116, u117, u118, u119, u120, u121, u122, u123, u124, u125, u126, u127, u128, u129, u130, u131, u132, u133, u134, u135, u136, u137, u138, u139, u140, u141, u142, u143, u144, u145, u146, u147, u148, u149, u150, u151, u152, u153, u154, u155, u156, u157, u158, u159, u160, u161, u162, u163, u164, u165, u166, u167, u168, u169, u170, u171, u172, u173, u174, u175, u176, u177, u178, u179, c180, c181, c182, c183, c184, c185, c186, c187, c188, c189, c190, c191, c192, c193, c194, c195, c196, c197, c198, c199, c200, c201, c202, c203, c204, c205, c206, c207, c208, c209, c210, c211, c212, c213, c214, c215, c216, c217, c218, c219, c220, c221, c222, c223, c224, c225, c226, c227, c228, c229, c230, c231, c232, c233, c234, c235, c236, c237, c238, c239, c240, c241, c242, c243, c244, c245, c246, c247, c248, c249, c250, c251, c252, c253, c254, c255, c256, c257, c258, c259, c260, c261, c262], []⟩ W2) := hend
  have hT : (acts.take 400).length = min 400 acts.length := List.length_take
  clear hM hR ho hA hF hend
  unfold loopC
  simp only [Tryd.f3, Option.getD, sub]
  gi_loopg [8] (acts.take 400).length (fun gk i wr => ∃ j : Nat, gk + j = (acts.take 400).length ∧ i = .int .i64 j ∧ Hid (∃ es G vals ns ov, MC o m S es G vals ns (fun i => decide (i ∈ ns)) vals ov wr ∧ RowI S es ov ns wr ∧ ns.length ≤ j))
  case atStart => exact ⟨0, by omega, rfl, es, G, vals, [], ov, HM0.out.1, HM0.out.2, Nat.le_refl _⟩
  case round =>
    obtain ⟨j, hj, rfl, HR0⟩ := hrel
    obtain ⟨es, G, vals, ns, ov, hm, hr, hnl⟩ := HR0.out
    have HR : Hid (MC o m S es G vals ns (fun i => decide (i ∈ ns)) vals ov wr ∧ RowI S es ov ns wr ∧ ns.length ≤ j) := ⟨hm, hr, hnl⟩
    have hold := hm.st.old
    clear HR0 hm hr hnl
    by_cases hlt : j < (acts.take 400).length
    · have i0 : j < acts.length := by omega
      have i1 : (j : Int) < acts.length := by omega
      have i2 : (j : Int) < 400 := by omega
      obtain ⟨b, f, rfl, hbo, hcs⟩ : ∃ b f, pp = some ⟨b, f, none⟩ ∧ b < o.heap.size ∧ ∀ (i : Nat) (hi : i < acts.length),
          o.cell? ⟨b, f + i * 3, none⟩ = some (.int .i64 acts[i].1) ∧ o.cell? ⟨b, f + i * 3 + 1, none⟩ = some (.int .i64 acts[i].2.1) ∧ o.cell? ⟨b, f + i * 3 + 2, none⟩ = some (.int .i64 acts[i].2.2) := by
        rcases HP.out.2.1 with q | q
        · rw [q] at i0; cases i0
        · exact q
      obtain ⟨c0, c1, c2⟩ := hcs j i0
      obtain ⟨f0, f1, f2⟩ := HP.out.2.2 acts[j] (List.getElem_mem i0)
      obtain ⟨x0, hx0⟩ : ∃ x, x = acts[j].1 := ⟨_, rfl⟩
      obtain ⟨x1, hx1⟩ : ∃ x, x = acts[j].2.1 := ⟨_, rfl⟩
      obtain ⟨z, hx2⟩ : ∃ x, x = acts[j].2.2 := ⟨_, rfl⟩
      rw [← hx0] at c0 f0
      rw [← hx1] at c1 f1
      rw [← hx2] at c2 f2
      have d0 := (hold.cell (p := ⟨b, f + j * 3, none⟩) hbo).trans c0
      have d1 := (hold.cell (p := ⟨b, f + j * 3 + 1, none⟩) hbo).trans c1
      have hbw : b < wr.heap.size := Nat.lt_of_lt_of_le hbo hold.size
      have HC : Hid (gk + j = (acts.take 400).length ∧ j < acts.length ∧ j < 400 ∧ b < o.heap.size ∧ o.cell? ⟨b, f + j * 3 + 2, none⟩ = some (.int .i64 z) ∧ (-9223372036854775808 ≤ z ∧ z ≤ 9223372036854775807)) := ⟨hj, i0, by omega, hbo, c2, f2⟩
      have H9 : Hid (∀ W, Calls Tryd.prog 7 #[.int .i64 x1, .int .i64 900] W fun r w' => r = .returned (.int .i64 (pickN x1 900 : Nat)) ∧ w' = W) := fun W => pick900 x1 W f1.1 f1.2
      have H4 : Hid (∀ W, Calls Tryd.prog 7 #[.int .i64 x0, .int .i64 4] W fun r w' => r = .returned (.int .i64 (pickN x0 4 : Nat)) ∧ w' = W) := fun W => pick4 x0 W f0.1 f0.2
      obtain ⟨n, hn⟩ : ∃ n, n = pickN x1 900 := ⟨_, rfl⟩
      obtain ⟨kd, hkd⟩ : ∃ kd, kd = pickN x0 4 := ⟨_, rfl⟩
      have HNK : Hid (n < 900 ∧ kd < 4) := ⟨by rw [hn]; unfold pickN; omega, by rw [hkd]; unfold pickN; omega⟩
      rw [← hn] at H9
      rw [← hkd] at H4
      clear hx0 hx1 hx2 c0 c1 c2 f0 f1 f2 hcs hbo hold hn hkd hj hT
      gi_wp2_with fail
      refine ⟨trivial, (callsIn_wide.2 (H9.out _)).mono ?_⟩
      rintro r w1 ⟨rfl, rfl⟩
      gi_wp2_with fail
      refine ⟨trivial, (callsIn_wide.2 (H4.out _)).mono ?_⟩
      rintro r w2 ⟨rfl, rfl⟩
      rename_i K0 hK0 K1 hK1 K2 hK2 K3 hK3
      have HK0 : Hid _ := hK0
      have HK1 : Hid _ := hK1
      have HK2 : Hid _ := hK2
      clear hK0 hK1 hK2
      gi_wp2_with fail
      refine HK2.out _ _ ?_
      refine sw_any (by kernel_rfl) HR.out.1 HR.out.2.1 HP.out.1 HNK.out.1 HC.out.2.1 HC.out.2.2.2.1 HC.out.2.2.2.2.1 HC.out.2.2.2.2.2 (by have := HR.out.2.2; have := HC.out.2.2.1; omega) HNK.out.2 ?_
      intros
      rename_i es2 G2 vals2 ns2 ov2 W2 h1 h2 h3
      refine HK1.out _ _ ?_
      refine len_ok (by kernel_rfl) h1 h2 ?_
      intros
      rename_i W3 h4 h5
      have HR3 : Hid (MC o m S es2 G2 vals2 ns2 (fun i => decide (i ∈ ns2)) vals2 ov2 W3 ∧ RowI S es2 ov2 ns2 W3 ∧ ns2.length ≤ j + 1) := ⟨h4, h5, by have := HR.out.2.2; omega⟩
      clear h1 h2 h3 h4 h5 d0 d1
      refine HK0.out _ _ ?_
      dsimp only
      gi_wp2_with fail
      gi_roundg ((acts.take 400).length - (j + 1))
      case measure => have := HC.out.1; omega
      case rel => exact ⟨j + 1, by omega, by go_num, es2, G2, vals2, ns2, ov2, HR3.out.1, HR3.out.2.1, HR3.out.2.2⟩
    · have hjl : j = (acts.take 400).length := by omega
      have hj4 : j ≤ 400 := by omega
      have HJ : Hid (j ≤ 400) := hj4
      by_cases hl2 : (j : Int) < acts.length
      · have i2 : ¬ (j : Int) < 400 := by omega
        gi_wp2_with fail
        exact HEN.out _ _ _ _ _ _ HR.out.1 HR.out.2.1 (Nat.le_trans HR.out.2.2 HJ.out)
      · gi_wp2_with fail
        exact HEN.out _ _ _ _ _ _ HR.out.1 HR.out.2.1 (Nat.le_trans HR.out.2.2 HJ.out)
end Go.Proofs.YtflonmlnedkmjaaDoor
namespace Go.Proofs.YtflonmlnedkmjaaDoor
open Go.RowKit Go.Shelf
def rbody : Code → Code
  | .rangeFunc _ _ _ b => b
  | c => c
noncomputable def turnAC : Code := rbody (sub [true, true, true, true, true, true, true, true, true, true, true, true, false, true, false] (Tryd.f3.body.getD .skip))
noncomputable def turnWC : Code := rbody (sub [true, true, true, true, true, true, true, true, true, true, true, true, true, true, true, false, true, false] (Tryd.f3.body.getD .skip))
variable {o w0 V W : World} {m S nb : Nat} {es : List Ent} {G : KG} {vals : Nat → Int} {ns : List Nat} {ov : Value}
theorem all2_sym {p : MD → MD → Bool} (h : ∀ x y, p x y = true → p y x = true) : ∀ (xs ys : List MD), all2 p xs ys = true → all2 p ys xs = true
  | [], [], _ => rfl
  | [], _ :: _, _ => rfl
  | _ :: _, [], _ => rfl
  | x :: xs, y :: ys, hh => by
    simp only [all2, Bool.and_eq_true] at hh ⊢
    exact ⟨h x y hh.1, all2_sym h xs ys hh.2⟩
theorem same_sym : ∀ (n : Nat) (x d : MD), MD.same n x d = true → MD.same n d x = true
  | 0, _, _, _ => rfl
  | n + 1, x, d, h => by
    obtain ⟨e0, e1, e2, e3, e4, e5, e6, e7, e8, e9, ep, ea⟩ := same_parts h
    show (sameH d.h x.h d.items.length x.items.length && decide (d.h.path = x.h.path) && all2 (MD.same n) d.items x.items) = true
    rw [decide_eq_true ep, all2_sym (same_sym n) _ _ ea]
    have : sameH d.h x.h d.items.length x.items.length = true := decide_eq_true ⟨e0, e1, e2, e3, e4, e5, e6, e7, e8, congrArg List.length ep, e9⟩
    rw [this]
    rfl
theorem same_two {a k d : MD} (h : MD.same 4 a k = true) (h' : MD.same 4 a d = true) : MD.same 4 k d = true := same_trans 4 _ _ _ (same_sym 4 _ _ h) h'
/-- The box of the counter, beside the map and its rows. -/
structure NBox (S : Nat) (es : List Ent) (ov : Value) (nb : Nat) (w0 : World) : Prop where
  box : ∃ c, w0.heap[nb]? = some (.cells c 3 (0, 0))
  off : OffE nb es
  ne : ∀ g, ov.ownBlock = some g → g ≠ nb
  hi : S + 3 < nb
theorem NBox.lt (h : NBox S es ov nb w0) : nb < w0.heap.size := by
  obtain ⟨c, hc⟩ := h.box
  exact row_ltT hc
/-- Between two turns: nothing has changed but the counter. -/
def NI (w0 : World) (nb i : Nat) (W : World) : Prop := KeepS (fun b => b = nb) w0 W ∧ W.heap[nb]? = some (.cells #[.int .i64 (i : Nat)] 3 (0, 0))
theorem NI.stable {i : Nat} (h : NI w0 nb i V) (hb : Below V.heap.size V W) : NI w0 nb i W := ⟨h.1.below hb, (hb.block _ (row_ltT h.2)).trans h.2⟩
theorem NI.step {i : Nat} (h : NI w0 nb i V) (hb : Below V.heap.size V W) (hn : W.heap[nb]? = some (.cells #[.int .i64 (i : Nat)] 3 (0, 0))) (_hl : nb < w0.heap.size) : NI w0 nb (i + 1) (W.setCell ⟨nb, 0, none⟩ (.int .i64 ((i : Int) + 1))) :=
  ⟨(h.1.below hb).set _ (fun _ => rfl), row_set hn 0 _⟩
theorem NI.put {i l : Nat} {x : Obj} (h : NI w0 nb i W) (hl : w0.heap.size ≤ l) (hn : nb < w0.heap.size) : NI w0 nb i (W.putObj l x) :=
  ⟨⟨h.1.os, h.1.tape, h.1.output, by simpa using h.1.size, fun b hb hne => (World.putObj_heap_other (by omega)).trans (h.1.block b hb hne)⟩, (World.putObj_heap_other (by omega)).trans h.2⟩
theorem NI.mc {i : Nat} (h0 : MC o m S es G vals ns (fun i => decide (i ∈ ns)) vals ov w0) (hx : NBox S es ov nb w0) (h : NI w0 nb i V) : MC o m S es G vals ns (fun i => decide (i ∈ ns)) vals ov V := by
  have hb := h0.base
  have hh := hx.hi
  have hold : Below o.heap.size o V := h0.st.old.trans (h.1.out h0.st.old.size fun b hb' q => by omega)
  obtain ⟨c, hc⟩ := hx.box
  refine h0.of (h0.st.off h.1.size (fun b hz hne => h.1.block b hz hne) ⟨c, 3, hc, by decide, by decide, by decide, by decide⟩ hx.off hold) fun b hb' => ?_
  have hl := h0.lt
  exact h.1.block b (by omega) (by omega)
theorem NI.row {i : Nat} (hr : RowI S es ov ns w0) (hx : NBox S es ov nb w0) (h : NI w0 nb i V) : RowI S es ov ns V := hr.keep fun g hg => h.1.block g (hr.at hg).2.1 (hx.ne g hg)
attribute [local go_sem] Oper.semAt_some
end Go.Proofs.YtflonmlnedkmjaaDoor
namespace Go.Proofs.YtflonmlnedkmjaaDoor
open Go.RowKit Go.Shelf
variable {o w0 V W : World} {m S nb : Nat} {es : List Ent} {G : KG} {vals : Nat → Int} {ns : List Nat} {ov : Value}
attribute [local go_sem] Oper.semAt_some
set_option maxRecDepth 100000 in
set_option maxHeartbeats 16000000 in
theorem turnA_any {C : Code} (hC : C = turnAC) {V : World} {i l0 kB vB : Nat} {k v : MD} {e : Ent} {c0 c1 c3 c4 c5 c8 c9 c10 c11 c12 c13 c14 c15 c16 c17 c18 c19 c23 c24 c25 c26 c27 c28 c29 c30 c31 c32 c33 c34 c35 c36 c37 c38 c39 c40 c41 c42 c43 c44 c45 c46 c47 c48 c49 c50 c51 c52 c53 c54 c55 c56 c57 c58 c59 c60 c61 c62 c63 c64 c65 c66 c67 c68 c69 c70 c71 c72 c73 c74 c75 c76 c77 c78 c79 c80 c81 c82 c83 c84 c85 c86 c87 c88 c89 c90 c91 c92 c93 c94 c95 c96 c97 c98 c99 c100 c101 c102 c103 c104 c105 c106 c107 c108 c109 c110 c111 c112 c113 c114 c115 c116 c117 c118 c119 c120 c121 c122 c123 c124 c125 c126 c127 c128 c129 c130 c131 c132 c133 c134 c135 c136 c137 c138 c139 c140 c141 c142 c143 c144 c145 c146 c147 c148 c149 c150 c151 c152 c153 c154 c155 c156 c157 c158 c159 c160 c161 c162 c163 c164 c165 c166 c167 c168 c169 c170 c171 c172 c173 c174 c175 c176 c177 c178 c179 c180 c181 c182 c183 c184 c185 c186 c187 c188 c189 c190 c191 c192 c193 c194 c195 c196 c197 c198 c199 c200 c201 c202 c203 c204 c205 c206 c207 c208 c209 c210 c211 c212 c213 c214 c215 c216 c217 c218 c219 c220 c221 c222 c223 c224 c225 c226 c227 c228 c229 c230 c231 c232 c233 c234 c235 c236 c237 c238 c239 c240 c241 c242 c243 c244 c245 c246 c247 c248 c249 c250 c251 c252 c253 c254 c255 c256 c257 c258 c259 c260 c261 c262 : Value}
    (h0 : MC o m S es G vals ns (fun i => decide (i ∈ ns)) vals ov w0) (hr : RowI S es ov ns w0) (hx : NBox S es ov nb w0) (hl : ns.length ≤ 400)
    (hi : es[i]? = some e) (hk : MD.same 4 e.k k = true) (hv : MD.same 4 e.v v = true) (hI : NI w0 nb i V) (hD : w0.heap.size + 1 < V.heap.size)
    (hkB : V.heap[kB]? = some (.cells k.cells 39 (0, 0))) (hvB : V.heap[vB]? = some (.cells v.cells 39 (0, 0))) (hkI : MD.In V.heap.size V 4 k) :
    C.wpIn (Fence.wide.inRound l0) 4 Tryd.prog (jPost w0.heap.size (NI w0 nb) (i + 1) V) ⟨List.toArray [c0, c1, .pointer (some ⟨o.heap.size, 0, none⟩), c3, c4, c5, .pointer (some ⟨S + 2, 0, none⟩), .pointer (some ⟨S + 3, 0, none⟩), c8, c9, c10, c11, c12, c13, c14, c15, c16, c17, c18, c19, .pointer (some ⟨nb, 0, none⟩), .pointer (some ⟨kB, 0, none⟩), .pointer (some ⟨vB, 0, none⟩), c23, c24, c25, c26, c27, c28, c29, c30, c31, c32, c33, c34, c35, c36, c37, c38, c39, c40, c41, c42, c43, c44, c45, c46, c47, c48, c49, c50, c51, c52, c53, c54, c55, c56, c57, c58, c59, c60, c61, c62, c63, c64, c65, c66, c67, c68, c69, c70, c71, c72, c73, c74, c75, c76, c77, c78, c79, c80, c81, c82, c83, c84, c85, c86, c87, c88, c89, c90, c91, c92, c93, c94, c95, c96, c97, c98, c99, c100, c101, c102, c103, c104, c105, c106, c107, c108, c109, c110, c111, c112, c113, c114, c115, c116, c117, c118, c119, c120, c121, c122, c123, c124, c125, c126, c127, c128, c129, c130, c131, c132, c133, c134, c135, c136, c137, c138, c139, c140, c141, c142, c143, c144, c145, c146, c147, c148, c149, c150, c151, c152, c153, c154, c155, c156, c157, c158, c159, c160, c161, c162, c163, c164, c165, c166, c167, c168, c169, c170, c171, c172, c173, c174, c175, c176, c177, c178, c179, c180, c181, c182, c183, c184, c185, c186, c187, c188, c189, c190, c191, c192, c193, c194, c195, c196, c197, c198, c199, c200, c201, c202, c203, c204, c205, c206, c207, c208, c209, c210, c211, c212, c213, c214, c215, c216, c217, c218, c219, c220, c221, c222, c223, c224, c225, c226, c227, c228, c229, c230, c231, c232, c233, c234, c235, c236, c237, c238, c239, c240, c241, c242, c243, c244, c245, c246, c247, c248, c249, c250, c251, c252, c253, c254, c255, c256, c257, c258, c259, c260, c261, c262], []⟩ V := by
  subst hC
  obtain ⟨Q, hQ⟩ : ∃ Q, Q = jPost w0.heap.size (NI w0 nb) (i + 1) V := ⟨_, rfl⟩
  rw [← hQ]
  have HNQ : Hid (¬ LetsOut Q) := by
    show ¬ LetsOut Q
    rw [hQ]; rintro ⟨a, w', h⟩; exact h
  have hmv := NI.mc h0 hx hI
  have hrv := NI.row hr hx hI
  obtain ⟨op, oc, rfl⟩ := hr.form
  have hin : i < es.length := (List.getElem?_eq_some_iff.1 hi).1
  have hin' : i < ns.length := by rw [← h0.mod.len]; exact hin
  obtain ⟨og, rfl, zg, hcg⟩ := hrv.cell hin'
  obtain ⟨x, hxx⟩ : ∃ x, x = ns[i] := ⟨_, rfl⟩
  rw [← hxx] at hcg
  have hko := h0.mod.at i hin' hin
  rw [← hxx, (List.getElem?_eq_some_iff.1 hi).2] at hko
  have i1 : (i : Int) < ns.length := by omega
  have x1 : (x : Int) < 900 := by have := hko.1; omega
  have HX : Hid (x < 900 ∧ MD.same 4 (keyR x) k = true) := ⟨hko.1, same_trans 4 _ _ _ hko.2.1 hk⟩
  have hsv := same_trans 4 _ _ _ hko.2.2 hv
  obtain ⟨q, hq⟩ : ∃ q, q = vals x := ⟨_, rfl⟩
  rw [← hq] at hsv
  have hv2 : V.cell? ⟨vB, 2, none⟩ = some (.int .i64 q) := (row_at hvB 2).trans (by show some (Value.int .i64 v.h.n) = _; rw [(same_parts hsv).2.2.1]; rfl)
  have hv0 : V.cell? ⟨vB, 0, none⟩ = some (.int .i64 2) := (row_at hvB 0).trans (by show some (Value.int .i64 v.h.k) = _; rw [(same_parts hsv).1]; rfl)
  have hco := row_at hmv.obox 0
  have zo := row_ltT hmv.obox
  have hcx := row_at hmv.vbox 0
  have zx := row_ltT hmv.vbox
  obtain ⟨cw, v1, v2⟩ := hmv.values
  have hcw : V.cell? ⟨S + 1, x, none⟩ = some (.int .i64 q) := by rw [hq]; exact (row_at v1 x).trans (v2 x hko.1)
  have zw := row_ltT v1
  have hcn := row_at hI.2 0
  have zn := row_ltT hI.2
  have zk := row_ltT hkB
  have zv := row_ltT hvB
  have hck : ∀ j, V.cell? ⟨kB, j, none⟩ = k.cells[j]? := fun j => row_at hkB j
  have HI : Hid (NI w0 nb i V) := hI
  have HKI : Hid (MD.In V.heap.size V 4 k) := hkI
  have HEN : Hid (∀ a W7, Below V.heap.size V W7 → W7.heap[nb]? = some (.cells #[.int .i64 (i : Nat)] 3 (0, 0)) → Q .normal a (W7.setCell ⟨nb, 0, none⟩ (.int .i64 ((i : Int) + 1)))) := fun a W7 hb hn => by
    rw [hQ]
    have hlt := hx.lt
    refine ⟨(heap_setCell_other _ _ _ _ _ (by omega)).trans (hb.block _ (by omega)), (heap_setCell_other _ _ _ _ _ (by omega)).trans (hb.block _ (by omega)), hI.step hb hn hlt, fun b c t ht hbb => (heap_setCell_other _ _ _ _ _ (fun q => ?_)).trans (hb.block b (row_ltT hbb))⟩
    subst q
    rw [hI.2] at hbb
    cases hbb
    rcases ht with ht | ht <;> exact absurd ht (by decide)
  clear h0 hr hx hi hk hv hI hkB hvB hkI hmv hrv hxx hko hsv hq v1 v2 hQ hin
  obtain ⟨⟨k0, k1, k2, k3, k4, k5, k6, k7, k8, kp, kpath, kpc⟩, kip, kic, kit⟩ := k
  simp only [MD.cells] at hck
  unfold turnAC
  simp only [Tryd.f3, Option.getD, sub, rbody]
  gi_wp2_with fail
  refine wpIn_region_round (S := fun W => (∀ j, W.cell? ⟨kB, j, none⟩ = (#[.int .i64 k0, .string k1, .int .i64 k2, .int .u64 k3, .string k4, .int .i64 k5, .int .i64 k6, .int .i64 k7, .int .i64 k8, .slice kp kpath.length kpc, .slice kip kit.length kic] : Array Value)[j]?) ∧ W.cell? ⟨S + 3, 0, none⟩ = some (.slice (some ⟨og, 0, none⟩) ns.length oc) ∧ W.cell? ⟨nb, 0, none⟩ = some (.int .i64 (i : Nat)) ∧ W.cell? ⟨og, i, none⟩ = some (.int .i64 (x : Nat))) (by kernel_rfl) (by kernel_rfl) (fun q => HNQ.out q) ?_
  obtain ⟨W4, hW4⟩ : ∃ W4, W4 = (V).drew := ⟨_, rfl⟩
  have e4 : ({ V with drawn := (V).drawn + 1 } : World) = W4 := hW4.symm
  rw [e4]
  have hB4 : Below (V).heap.size (V) W4 := by rw [hW4]; exact (Below.refl _ _).drew
  have hS : (∀ j, W4.cell? ⟨kB, j, none⟩ = (#[.int .i64 k0, .string k1, .int .i64 k2, .int .u64 k3, .string k4, .int .i64 k5, .int .i64 k6, .int .i64 k7, .int .i64 k8, .slice kp kpath.length kpc, .slice kip kit.length kic] : Array Value)[j]?) ∧ W4.cell? ⟨S + 3, 0, none⟩ = some (.slice (some ⟨og, 0, none⟩) ns.length oc) ∧ W4.cell? ⟨nb, 0, none⟩ = some (.int .i64 (i : Nat)) ∧ W4.cell? ⟨og, i, none⟩ = some (.int .i64 (x : Nat)) := ⟨fun j => (hB4.cell (p := ⟨kB, j, none⟩) zk).trans (hck j), (hB4.cell (p := ⟨S + 3, 0, none⟩) zo).trans hco, (hB4.cell (p := ⟨nb, 0, none⟩) zn).trans hcn, (hB4.cell (p := ⟨og, i, none⟩) zg).trans hcg⟩
  clear e4 hW4
  have HB4 : Hid (Below V.heap.size V W4) := hB4
  clear hB4
  refine wpAnyH_take (i := 0) (v := .agg #[.int .i64 k0, .string k1, .int .i64 k2, .int .u64 k3, .string k4, .int .i64 k5, .int .i64 k6, .int .i64 k7, .int .i64 k8, .slice kp kpath.length kpc, .slice kip kit.length kic]) rfl (by kernel_rfl) (by kernel_rfl) (by kernel_rfl) (fun _ _ _ h => h) (Or.inl ⟨by rfl, ?r⟩) hS ?_
  case r => intro W hW; simp [go_sem, execOp, Act.eval, hW.1]
  simp only [List.getElem_toArray, List.getElem_cons_zero, Act.put, List.setIfInBounds_toArray, List.set_cons_succ, List.set_cons_zero]
  refine wpAnyH_take (i := 1) (v := .slice (some ⟨og, 0, none⟩) ns.length oc) rfl (by kernel_rfl) (by kernel_rfl) (by kernel_rfl) (fun _ _ _ h => h) (Or.inl ⟨by rfl, ?r⟩) hS ?_
  case r => intro W hW; simp [go_sem, execOp, Act.eval, hW.2.1]
  simp only [List.getElem_toArray, List.getElem_cons_zero, List.getElem_cons_succ, Act.put, List.setIfInBounds_toArray, List.set_cons_succ, List.set_cons_zero]
  refine wpAnyH_take (i := 2) (v := .int .i64 (i : Nat)) rfl (by kernel_rfl) (by kernel_rfl) (by kernel_rfl) (fun _ _ _ h => h) (Or.inl ⟨by rfl, ?r⟩) hS ?_
  case r => intro W hW; simp [go_sem, execOp, Act.eval, hW.2.2.1]
  simp only [List.getElem_toArray, List.getElem_cons_zero, List.getElem_cons_succ, Act.put, List.setIfInBounds_toArray, List.set_cons_succ, List.set_cons_zero]
  refine wpAnyH_take (i := 3) (v := .pointer (some ⟨og, i, none⟩)) rfl (by kernel_rfl) (by kernel_rfl) (by kernel_rfl) (fun _ _ _ h => h) (Or.inl ⟨by rfl, ?r⟩) hS ?_
  case r => intro W hW; simp [go_sem, execOp, Act.eval, i1]
  simp only [List.getElem_toArray, List.getElem_cons_zero, List.getElem_cons_succ, Act.put, List.setIfInBounds_toArray, List.set_cons_succ, List.set_cons_zero]
  refine wpAnyH_take (i := 4) (v := .int .i64 (x : Nat)) rfl (by kernel_rfl) (by kernel_rfl) (by kernel_rfl) (fun _ _ _ h => h) (Or.inl ⟨by rfl, ?r⟩) hS ?_
  case r => intro W hW; simp [go_sem, execOp, Act.eval, hW.2.2.2]
  simp only [List.getElem_toArray, List.getElem_cons_zero, List.getElem_cons_succ, Act.put, List.setIfInBounds_toArray, List.set_cons_succ, List.set_cons_zero]
  refine wpAnyH_all (rs := [5]) (by kernel_rfl) (by simp) (fun i2 hi2 => ?_)
  obtain rfl : i2 = 5 := by simpa using hi2
  clear hi2
  refine wpOp_step rfl (fun K hK => ite_yes rfl ?_)
  simp only [List.getElem_toArray, List.getElem_cons_zero, List.getElem_cons_succ]
  go_simp
  refine (key_any HX.out.1 _).mono ?_
  rintro r W5 ⟨d, rfl, hsd, hdi, b5⟩
  have HB5 : Hid (Below V.heap.size V W5) := HB4.out.trans (b5.mono HB4.out.size)
  have HS5 : Hid (Calls Tryd.prog 16 #[.agg #[.int .i64 k0, .string k1, .int .i64 k2, .int .u64 k3, .string k4, .int .i64 k5, .int .i64 k6, .int .i64 k7, .int .i64 k8, .slice kp kpath.length kpc, .slice kip kit.length kic], d.val] W5 fun r w' => r = .returned (.bool true) ∧ Below W5.heap.size W5 w') := by
    have h1 := same16_any ⟨⟨k0, k1, k2, k3, k4, k5, k6, k7, k8, kp, kpath, kpc⟩, kip, kic, kit⟩ d W5 (HKI.out.later (Nat.le_refl _) HB5.out) hdi
    rw [same_two HX.out.2 hsd] at h1
    exact h1
  have hS5 : (∀ j, W5.cell? ⟨kB, j, none⟩ = (#[.int .i64 k0, .string k1, .int .i64 k2, .int .u64 k3, .string k4, .int .i64 k5, .int .i64 k6, .int .i64 k7, .int .i64 k8, .slice kp kpath.length kpc, .slice kip kit.length kic] : Array Value)[j]?) ∧ W5.cell? ⟨S + 3, 0, none⟩ = some (.slice (some ⟨og, 0, none⟩) ns.length oc) ∧ W5.cell? ⟨nb, 0, none⟩ = some (.int .i64 (i : Nat)) ∧ W5.cell? ⟨og, i, none⟩ = some (.int .i64 (x : Nat)) := ⟨fun j => (HB5.out.cell (p := ⟨kB, j, none⟩) zk).trans (hck j), (HB5.out.cell (p := ⟨S + 3, 0, none⟩) zo).trans hco, (HB5.out.cell (p := ⟨nb, 0, none⟩) zn).trans hcn, (HB5.out.cell (p := ⟨og, i, none⟩) zg).trans hcg⟩
  clear hsd hdi b5
  go_simp
  refine hK _ _ ⟨hS5, ?_⟩
  clear hK K hS
  have hS := hS5
  clear hS5
  try simp only [Act.put, List.setIfInBounds_toArray, List.set_cons_succ, List.set_cons_zero]
  refine wpAnyH_all (rs := [6]) (by kernel_rfl) (by simp) (fun i2 hi2 => ?_)
  obtain rfl : i2 = 6 := by simpa using hi2
  clear hi2
  refine wpOp_step rfl (fun K hK => ite_yes rfl ?_)
  simp only [List.getElem_toArray, List.getElem_cons_zero, List.getElem_cons_succ]
  go_simp
  refine HS5.out.mono ?_
  rintro r W6 ⟨rfl, b6⟩
  have HB6 : Hid (Below V.heap.size V W6) := HB5.out.trans (b6.mono HB5.out.size)
  have hS6 : (∀ j, W6.cell? ⟨kB, j, none⟩ = (#[.int .i64 k0, .string k1, .int .i64 k2, .int .u64 k3, .string k4, .int .i64 k5, .int .i64 k6, .int .i64 k7, .int .i64 k8, .slice kp kpath.length kpc, .slice kip kit.length kic] : Array Value)[j]?) ∧ W6.cell? ⟨S + 3, 0, none⟩ = some (.slice (some ⟨og, 0, none⟩) ns.length oc) ∧ W6.cell? ⟨nb, 0, none⟩ = some (.int .i64 (i : Nat)) ∧ W6.cell? ⟨og, i, none⟩ = some (.int .i64 (x : Nat)) := ⟨fun j => (HB6.out.cell (p := ⟨kB, j, none⟩) zk).trans (hck j), (HB6.out.cell (p := ⟨S + 3, 0, none⟩) zo).trans hco, (HB6.out.cell (p := ⟨nb, 0, none⟩) zn).trans hcn, (HB6.out.cell (p := ⟨og, i, none⟩) zg).trans hcg⟩
  clear b6
  go_simp
  refine hK _ _ ⟨hS6, ?_⟩
  clear hK K hS
  have hS := hS6
  clear hS6
  try simp only [Act.put, List.setIfInBounds_toArray, List.set_cons_succ, List.set_cons_zero]
  refine wpAnyH_take (i := 7) (v := .bool true) rfl (by kernel_rfl) (by kernel_rfl) (by kernel_rfl) (fun _ _ _ h => h) (Or.inl ⟨by rfl, ?r⟩) hS ?_
  case r => intro W hW; simp [go_sem, execOp, Act.eval]
  simp only [List.getElem_toArray, List.getElem_cons_zero, List.getElem_cons_succ, Act.put, List.setIfInBounds_toArray, List.set_cons_succ, List.set_cons_zero]
  refine wpAnyH_done (by kernel_rfl) ?_ _
  refine NoPanic.normal ?_
  try simp only [Act.put]
  clear hS
  have hz6 := HB6.out.size
  gi_wp2_with fail
  refine wpIn_region_round (S := fun W => W.cell? ⟨vB, 2, none⟩ = some (.int .i64 q) ∧ W.cell? ⟨vB, 0, none⟩ = some (.int .i64 2) ∧ W.cell? ⟨S + 2, 0, none⟩ = some (.slice (some ⟨S + 1, 0, none⟩) 900 900) ∧ W.cell? ⟨S + 3, 0, none⟩ = some (.slice (some ⟨og, 0, none⟩) ns.length oc) ∧ W.cell? ⟨nb, 0, none⟩ = some (.int .i64 (i : Nat)) ∧ W.cell? ⟨og, i, none⟩ = some (.int .i64 (x : Nat)) ∧ W.cell? ⟨S + 1, x, none⟩ = some (.int .i64 q)) (by kernel_rfl) (by kernel_rfl) (fun q => HNQ.out q) ?_
  obtain ⟨W7, hW7⟩ : ∃ W4, W4 = (W6).drew := ⟨_, rfl⟩
  have e4 : ({ W6 with drawn := (W6).drawn + 1 } : World) = W7 := hW7.symm
  rw [e4]
  have hB4 : Below (W6).heap.size (W6) W7 := by rw [hW7]; exact (Below.refl _ _).drew
  have hS : W7.cell? ⟨vB, 2, none⟩ = some (.int .i64 q) ∧ W7.cell? ⟨vB, 0, none⟩ = some (.int .i64 2) ∧ W7.cell? ⟨S + 2, 0, none⟩ = some (.slice (some ⟨S + 1, 0, none⟩) 900 900) ∧ W7.cell? ⟨S + 3, 0, none⟩ = some (.slice (some ⟨og, 0, none⟩) ns.length oc) ∧ W7.cell? ⟨nb, 0, none⟩ = some (.int .i64 (i : Nat)) ∧ W7.cell? ⟨og, i, none⟩ = some (.int .i64 (x : Nat)) ∧ W7.cell? ⟨S + 1, x, none⟩ = some (.int .i64 q) := ⟨((HB6.out.trans (hB4.mono HB6.out.size)).cell (p := ⟨vB, 2, none⟩) zv).trans hv2, ((HB6.out.trans (hB4.mono HB6.out.size)).cell (p := ⟨vB, 0, none⟩) zv).trans hv0, ((HB6.out.trans (hB4.mono HB6.out.size)).cell (p := ⟨S + 2, 0, none⟩) zx).trans hcx, ((HB6.out.trans (hB4.mono HB6.out.size)).cell (p := ⟨S + 3, 0, none⟩) zo).trans hco, ((HB6.out.trans (hB4.mono HB6.out.size)).cell (p := ⟨nb, 0, none⟩) zn).trans hcn, ((HB6.out.trans (hB4.mono HB6.out.size)).cell (p := ⟨og, i, none⟩) zg).trans hcg, ((HB6.out.trans (hB4.mono HB6.out.size)).cell (p := ⟨S + 1, x, none⟩) zw).trans hcw⟩
  clear e4 hW7
  have HB7 : Hid (Below V.heap.size V W7) := HB6.out.trans (hB4.mono HB6.out.size)
  clear hB4
  refine wpAnyH_take (i := 0) (v := .bool true) rfl (by kernel_rfl) (by kernel_rfl) (by kernel_rfl) (fun _ _ _ h => h) (Or.inl ⟨by rfl, ?r⟩) hS ?_
  case r => intro W hW; simp [go_sem, execOp, Act.eval]
  simp only [List.getElem_toArray, List.getElem_cons_zero, Act.put, List.setIfInBounds_toArray, List.set_cons_succ, List.set_cons_zero]
  refine wpAnyH_take (i := 1) (v := .bool false) rfl (by kernel_rfl) (by kernel_rfl) (by kernel_rfl) (fun _ _ _ h => h) (Or.inl ⟨by rfl, ?r⟩) hS ?_
  case r => intro W hW; simp [go_sem, execOp, Act.eval]
  simp only [List.getElem_toArray, List.getElem_cons_zero, List.getElem_cons_succ, Act.put, List.setIfInBounds_toArray, List.set_cons_succ, List.set_cons_zero]
  refine wpAnyH_take (i := 2) (v := .bool false) rfl (by kernel_rfl) (by kernel_rfl) (by kernel_rfl) (fun _ _ _ h => h) (Or.inl ⟨by rfl, ?r⟩) hS ?_
  case r => intro W hW; simp [go_sem, execOp, Act.eval]
  simp only [List.getElem_toArray, List.getElem_cons_zero, List.getElem_cons_succ, Act.put, List.setIfInBounds_toArray, List.set_cons_succ, List.set_cons_zero]
  refine wpAnyH_take (i := 3) (v := .pointer (some ⟨vB, 2, none⟩)) rfl (by kernel_rfl) (by kernel_rfl) (by kernel_rfl) (fun _ _ _ h => h) (Or.inl ⟨by rfl, ?r⟩) hS ?_
  case r => intro W hW; simp [go_sem, execOp, Act.eval]
  simp only [List.getElem_toArray, List.getElem_cons_zero, List.getElem_cons_succ, Act.put, List.setIfInBounds_toArray, List.set_cons_succ, List.set_cons_zero]
  refine wpAnyH_take (i := 4) (v := .int .i64 q) rfl (by kernel_rfl) (by kernel_rfl) (by kernel_rfl) (fun _ _ _ h => h) (Or.inl ⟨by rfl, ?r⟩) hS ?_
  case r => intro W hW; simp [go_sem, execOp, Act.eval, hW.1]
  simp only [List.getElem_toArray, List.getElem_cons_zero, List.getElem_cons_succ, Act.put, List.setIfInBounds_toArray, List.set_cons_succ, List.set_cons_zero]
  refine wpAnyH_take (i := 5) (v := .slice (some ⟨S + 1, 0, none⟩) 900 900) rfl (by kernel_rfl) (by kernel_rfl) (by kernel_rfl) (fun _ _ _ h => h) (Or.inl ⟨by rfl, ?r⟩) hS ?_
  case r => intro W hW; simp [go_sem, execOp, Act.eval, hW.2.2.1]
  simp only [List.getElem_toArray, List.getElem_cons_zero, List.getElem_cons_succ, Act.put, List.setIfInBounds_toArray, List.set_cons_succ, List.set_cons_zero]
  refine wpAnyH_take (i := 6) (v := .slice (some ⟨og, 0, none⟩) ns.length oc) rfl (by kernel_rfl) (by kernel_rfl) (by kernel_rfl) (fun _ _ _ h => h) (Or.inl ⟨by rfl, ?r⟩) hS ?_
  case r => intro W hW; simp [go_sem, execOp, Act.eval, hW.2.2.2.1]
  simp only [List.getElem_toArray, List.getElem_cons_zero, List.getElem_cons_succ, Act.put, List.setIfInBounds_toArray, List.set_cons_succ, List.set_cons_zero]
  refine wpAnyH_take (i := 7) (v := .int .i64 (i : Nat)) rfl (by kernel_rfl) (by kernel_rfl) (by kernel_rfl) (fun _ _ _ h => h) (Or.inl ⟨by rfl, ?r⟩) hS ?_
  case r => intro W hW; simp [go_sem, execOp, Act.eval, hW.2.2.2.2.1]
  simp only [List.getElem_toArray, List.getElem_cons_zero, List.getElem_cons_succ, Act.put, List.setIfInBounds_toArray, List.set_cons_succ, List.set_cons_zero]
  refine wpAnyH_take (i := 8) (v := .pointer (some ⟨og, i, none⟩)) rfl (by kernel_rfl) (by kernel_rfl) (by kernel_rfl) (fun _ _ _ h => h) (Or.inl ⟨by rfl, ?r⟩) hS ?_
  case r => intro W hW; simp [go_sem, execOp, Act.eval, i1]
  simp only [List.getElem_toArray, List.getElem_cons_zero, List.getElem_cons_succ, Act.put, List.setIfInBounds_toArray, List.set_cons_succ, List.set_cons_zero]
  refine wpAnyH_take (i := 9) (v := .int .i64 (x : Nat)) rfl (by kernel_rfl) (by kernel_rfl) (by kernel_rfl) (fun _ _ _ h => h) (Or.inl ⟨by rfl, ?r⟩) hS ?_
  case r => intro W hW; simp [go_sem, execOp, Act.eval, hW.2.2.2.2.2.1]
  simp only [List.getElem_toArray, List.getElem_cons_zero, List.getElem_cons_succ, Act.put, List.setIfInBounds_toArray, List.set_cons_succ, List.set_cons_zero]
  refine wpAnyH_take (i := 10) (v := .pointer (some ⟨S + 1, x, none⟩)) rfl (by kernel_rfl) (by kernel_rfl) (by kernel_rfl) (fun _ _ _ h => h) (Or.inl ⟨by rfl, ?r⟩) hS ?_
  case r => intro W hW; simp [go_sem, execOp, Act.eval, x1]
  simp only [List.getElem_toArray, List.getElem_cons_zero, List.getElem_cons_succ, Act.put, List.setIfInBounds_toArray, List.set_cons_succ, List.set_cons_zero]
  refine wpAnyH_take (i := 11) (v := .int .i64 q) rfl (by kernel_rfl) (by kernel_rfl) (by kernel_rfl) (fun _ _ _ h => h) (Or.inl ⟨by rfl, ?r⟩) hS ?_
  case r => intro W hW; simp [go_sem, execOp, Act.eval, hW.2.2.2.2.2.2]
  simp only [List.getElem_toArray, List.getElem_cons_zero, List.getElem_cons_succ, Act.put, List.setIfInBounds_toArray, List.set_cons_succ, List.set_cons_zero]
  refine wpAnyH_take (i := 12) (v := .bool false) rfl (by kernel_rfl) (by kernel_rfl) (by kernel_rfl) (fun _ _ _ h => h) (Or.inl ⟨by rfl, ?r⟩) hS ?_
  case r => intro W hW; simp [go_sem, execOp, Act.eval]
  simp only [List.getElem_toArray, List.getElem_cons_zero, List.getElem_cons_succ, Act.put, List.setIfInBounds_toArray, List.set_cons_succ, List.set_cons_zero]
  refine wpAnyH_take (i := 13) (v := .bool false) rfl (by kernel_rfl) (by kernel_rfl) (by kernel_rfl) (fun _ _ _ h => h) (Or.inl ⟨by rfl, ?r⟩) hS ?_
  case r => intro W hW; simp [go_sem, execOp, Act.eval]
  simp only [List.getElem_toArray, List.getElem_cons_zero, List.getElem_cons_succ, Act.put, List.setIfInBounds_toArray, List.set_cons_succ, List.set_cons_zero]
  refine wpAnyH_take (i := 14) (v := .bool false) rfl (by kernel_rfl) (by kernel_rfl) (by kernel_rfl) (fun _ _ _ h => h) (Or.inl ⟨by rfl, ?r⟩) hS ?_
  case r => intro W hW; simp [go_sem, execOp, Act.eval]
  simp only [List.getElem_toArray, List.getElem_cons_zero, List.getElem_cons_succ, Act.put, List.setIfInBounds_toArray, List.set_cons_succ, List.set_cons_zero]
  refine wpAnyH_take (i := 15) (v := .pointer (some ⟨vB, 0, none⟩)) rfl (by kernel_rfl) (by kernel_rfl) (by kernel_rfl) (fun _ _ _ h => h) (Or.inl ⟨by rfl, ?r⟩) hS ?_
  case r => intro W hW; simp [go_sem, execOp, Act.eval]
  simp only [List.getElem_toArray, List.getElem_cons_zero, List.getElem_cons_succ, Act.put, List.setIfInBounds_toArray, List.set_cons_succ, List.set_cons_zero]
  refine wpAnyH_take (i := 16) (v := .int .i64 2) rfl (by kernel_rfl) (by kernel_rfl) (by kernel_rfl) (fun _ _ _ h => h) (Or.inl ⟨by rfl, ?r⟩) hS ?_
  case r => intro W hW; simp [go_sem, execOp, Act.eval, hW.2.1]
  simp only [List.getElem_toArray, List.getElem_cons_zero, List.getElem_cons_succ, Act.put, List.setIfInBounds_toArray, List.set_cons_succ, List.set_cons_zero]
  refine wpAnyH_take (i := 17) (v := .bool false) rfl (by kernel_rfl) (by kernel_rfl) (by kernel_rfl) (fun _ _ _ h => h) (Or.inl ⟨by rfl, ?r⟩) hS ?_
  case r => intro W hW; simp [go_sem, execOp, Act.eval]
  simp only [List.getElem_toArray, List.getElem_cons_zero, List.getElem_cons_succ, Act.put, List.setIfInBounds_toArray, List.set_cons_succ, List.set_cons_zero]
  refine wpAnyH_take (i := 18) (v := .bool false) rfl (by kernel_rfl) (by kernel_rfl) (by kernel_rfl) (fun _ _ _ h => h) (Or.inl ⟨by rfl, ?r⟩) hS ?_
  case r => intro W hW; simp [go_sem, execOp, Act.eval]
  simp only [List.getElem_toArray, List.getElem_cons_zero, List.getElem_cons_succ, Act.put, List.setIfInBounds_toArray, List.set_cons_succ, List.set_cons_zero]
  refine wpAnyH_done (by kernel_rfl) ?_ _
  refine NoPanic.normal ?_
  try simp only [Act.put]
  clear hS
  have hn7 : W7.heap[nb]? = some (.cells #[.int .i64 (i : Nat)] 3 (0, 0)) := (HB7.out.block nb zn).trans HI.out.2
  have hc7 := row_at hn7 0
  have hf7 := fz _ _ _ _ 0 hn7
  have hz7 := row_ltT hn7
  have HN7 : Hid (W7.heap[nb]? = some (.cells #[.int .i64 (i : Nat)] 3 (0, 0))) := hn7
  clear hn7
  gi_wp2_with fail
  exact HEN.out _ _ HB7.out HN7.out
end Go.Proofs.YtflonmlnedkmjaaDoor
namespace Go.Proofs.YtflonmlnedkmjaaDoor
open Go.RowKit Go.Shelf
variable {o w0 V W : World} {m S nb : Nat} {es : List Ent} {G : KG} {vals : Nat → Int} {ns : List Nat} {ov : Value}
attribute [local go_sem] Oper.semAt_some
set_option maxRecDepth 100000 in
set_option maxHeartbeats 16000000 in
theorem turnW_any {C : Code} (hC : C = turnWC) {V : World} {i l0 kB vB : Nat} {k v : MD} {e : Ent} {c0 c1 c3 c4 c5 c8 c9 c10 c11 c12 c13 c14 c15 c16 c17 c18 c19 c21 c22 c23 c26 c27 c28 c29 c30 c31 c32 c33 c34 c35 c36 c37 c38 c39 c40 c41 c42 c43 c44 c45 c46 c47 c48 c49 c50 c51 c52 c53 c54 c55 c56 c57 c58 c59 c60 c61 c62 c63 c64 c65 c66 c67 c68 c69 c70 c71 c72 c73 c74 c75 c76 c77 c78 c79 c80 c81 c82 c83 c84 c85 c86 c87 c88 c89 c90 c91 c92 c93 c94 c95 c96 c97 c98 c99 c100 c101 c102 c103 c104 c105 c106 c107 c108 c109 c110 c111 c112 c113 c114 c115 c116 c117 c118 c119 c120 c121 c122 c123 c124 c125 c126 c127 c128 c129 c130 c131 c132 c133 c134 c135 c136 c137 c138 c139 c140 c141 c142 c143 c144 c145 c146 c147 c148 c149 c150 c151 c152 c153 c154 c155 c156 c157 c158 c159 c160 c161 c162 c163 c164 c165 c166 c167 c168 c169 c170 c171 c172 c173 c174 c175 c176 c177 c178 c179 c180 c181 c182 c183 c184 c185 c186 c187 c188 c189 c190 c191 c192 c193 c194 c195 c196 c197 c198 c199 c200 c201 c202 c203 c204 c205 c206 c207 c208 c209 c210 c211 c212 c213 c214 c215 c216 c217 c218 c219 c220 c221 c222 c223 c224 c225 c226 c227 c228 c229 c230 c231 c232 c233 c234 c235 c236 c237 c238 c239 c240 c241 c242 c243 c244 c245 c246 c247 c248 c249 c250 c251 c252 c253 c254 c255 c256 c257 c258 c259 c260 c261 c262 : Value}
    (h0 : MC o m S es G vals ns (fun i => decide (i ∈ ns)) vals ov w0) (hr : RowI S es ov ns w0) (hx : NBox S es ov nb w0) (hl : ns.length ≤ 400)
    (hi : es[i]? = some e) (hk : MD.same 4 e.k k = true) (hv : MD.same 4 e.v v = true) (hI : NI w0 nb i V) (hD : w0.heap.size + 1 < V.heap.size)
    (hkB : V.heap[kB]? = some (.cells k.cells 39 (0, 0))) (hvB : V.heap[vB]? = some (.cells v.cells 39 (0, 0))) (hkI : MD.In V.heap.size V 4 k) :
    C.wpIn (Fence.wide.inRound l0) 4 Tryd.prog (jPost w0.heap.size (NI w0 nb) (i + 1) V) ⟨List.toArray [c0, c1, .pointer (some ⟨o.heap.size, 0, none⟩), c3, c4, c5, .pointer (some ⟨S + 2, 0, none⟩), .pointer (some ⟨S + 3, 0, none⟩), c8, c9, c10, c11, c12, c13, c14, c15, c16, c17, c18, c19, .pointer (some ⟨nb, 0, none⟩), c21, c22, c23, .pointer (some ⟨kB, 0, none⟩), .pointer (some ⟨vB, 0, none⟩), c26, c27, c28, c29, c30, c31, c32, c33, c34, c35, c36, c37, c38, c39, c40, c41, c42, c43, c44, c45, c46, c47, c48, c49, c50, c51, c52, c53, c54, c55, c56, c57, c58, c59, c60, c61, c62, c63, c64, c65, c66, c67, c68, c69, c70, c71, c72, c73, c74, c75, c76, c77, c78, c79, c80, c81, c82, c83, c84, c85, c86, c87, c88, c89, c90, c91, c92, c93, c94, c95, c96, c97, c98, c99, c100, c101, c102, c103, c104, c105, c106, c107, c108, c109, c110, c111, c112, c113, c114, c115, c116, c117, c118, c119, c120, c121, c122, c123, c124, c125, c126, c127, c128, c129, c130, c131, c132, c133, c134, c135, c136, c137, c138, c139, c140, c141, c142, c143, c144, c145, c146, c147, c148, c149, c150, c151, c152, c153, c154, c155, c156, c157, c158, c159, c160, c161, c162, c163, c164, c165, c166, c167, c168, c169, c170, c171, c172, c173, c174, c175, c176, c177, c178, c179, c180, c181, c182, c183, c184, c185, c186, c187, c188, c189, c190, c191, c192, c193, c194, c195, c196, c197, c198, c199, c200, c201, c202, c203, c204, c205, c206, c207, c208, c209, c210, c211, c212, c213, c214, c215, c216, c217, c218, c219, c220, c221, c222, c223, c224, c225, c226, c227, c228, c229, c230, c231, c232, c233, c234, c235, c236, c237, c238, c239, c240, c241, c242, c243, c244, c245, c246, c247, c248, c249, c250, c251, c252, c253, c254, c255, c256, c257, c258, c259, c260, c261, c262], []⟩ V := by
  subst hC
  obtain ⟨Q, hQ⟩ : ∃ Q, Q = jPost w0.heap.size (NI w0 nb) (i + 1) V := ⟨_, rfl⟩
  rw [← hQ]
  have HNQ : Hid (¬ LetsOut Q) := by
    show ¬ LetsOut Q
    rw [hQ]; rintro ⟨a, w', h⟩; exact h
  have hmv := NI.mc h0 hx hI
  have hrv := NI.row hr hx hI
  obtain ⟨op, oc, rfl⟩ := hr.form
  have hin : i < es.length := (List.getElem?_eq_some_iff.1 hi).1
  have hin' : i < ns.length := by rw [← h0.mod.len]; exact hin
  obtain ⟨og, rfl, zg, hcg⟩ := hrv.cell hin'
  obtain ⟨x, hxx⟩ : ∃ x, x = ns[i] := ⟨_, rfl⟩
  rw [← hxx] at hcg
  have hko := h0.mod.at i hin' hin
  rw [← hxx, (List.getElem?_eq_some_iff.1 hi).2] at hko
  have i1 : (i : Int) < ns.length := by omega
  have x1 : (x : Int) < 900 := by have := hko.1; omega
  have HX : Hid (x < 900 ∧ MD.same 4 (keyR x) k = true) := ⟨hko.1, same_trans 4 _ _ _ hko.2.1 hk⟩
  have hsv := same_trans 4 _ _ _ hko.2.2 hv
  obtain ⟨q, hq⟩ : ∃ q, q = vals x := ⟨_, rfl⟩
  rw [← hq] at hsv
  have hv2 : V.cell? ⟨vB, 2, none⟩ = some (.int .i64 q) := (row_at hvB 2).trans (by show some (Value.int .i64 v.h.n) = _; rw [(same_parts hsv).2.2.1]; rfl)
  have hv0 : V.cell? ⟨vB, 0, none⟩ = some (.int .i64 2) := (row_at hvB 0).trans (by show some (Value.int .i64 v.h.k) = _; rw [(same_parts hsv).1]; rfl)
  have hco := row_at hmv.obox 0
  have zo := row_ltT hmv.obox
  have hcx := row_at hmv.vbox 0
  have zx := row_ltT hmv.vbox
  obtain ⟨cw, v1, v2⟩ := hmv.values
  have hcw : V.cell? ⟨S + 1, x, none⟩ = some (.int .i64 q) := by rw [hq]; exact (row_at v1 x).trans (v2 x hko.1)
  have zw := row_ltT v1
  have hcn := row_at hI.2 0
  have zn := row_ltT hI.2
  have zk := row_ltT hkB
  have zv := row_ltT hvB
  have hck : ∀ j, V.cell? ⟨kB, j, none⟩ = k.cells[j]? := fun j => row_at hkB j
  have HI : Hid (NI w0 nb i V) := hI
  have HKI : Hid (MD.In V.heap.size V 4 k) := hkI
  have HEN : Hid (∀ a W7, Below V.heap.size V W7 → W7.heap[nb]? = some (.cells #[.int .i64 (i : Nat)] 3 (0, 0)) → Q .normal a (W7.setCell ⟨nb, 0, none⟩ (.int .i64 ((i : Int) + 1)))) := fun a W7 hb hn => by
    rw [hQ]
    have hlt := hx.lt
    refine ⟨(heap_setCell_other _ _ _ _ _ (by omega)).trans (hb.block _ (by omega)), (heap_setCell_other _ _ _ _ _ (by omega)).trans (hb.block _ (by omega)), hI.step hb hn hlt, fun b c t ht hbb => (heap_setCell_other _ _ _ _ _ (fun q => ?_)).trans (hb.block b (row_ltT hbb))⟩
    subst q
    rw [hI.2] at hbb
    cases hbb
    rcases ht with ht | ht <;> exact absurd ht (by decide)
  clear h0 hr hx hi hk hv hI hkB hvB hkI hmv hrv hxx hko hsv hq v1 v2 hQ hin
  obtain ⟨⟨k0, k1, k2, k3, k4, k5, k6, k7, k8, kp, kpath, kpc⟩, kip, kic, kit⟩ := k
  simp only [MD.cells] at hck
  unfold turnWC
  simp only [Tryd.f3, Option.getD, sub, rbody]
  gi_wp2_with fail
  refine wpIn_region_round (S := fun W => (∀ j, W.cell? ⟨kB, j, none⟩ = (#[.int .i64 k0, .string k1, .int .i64 k2, .int .u64 k3, .string k4, .int .i64 k5, .int .i64 k6, .int .i64 k7, .int .i64 k8, .slice kp kpath.length kpc, .slice kip kit.length kic] : Array Value)[j]?) ∧ W.cell? ⟨S + 3, 0, none⟩ = some (.slice (some ⟨og, 0, none⟩) ns.length oc) ∧ W.cell? ⟨nb, 0, none⟩ = some (.int .i64 (i : Nat)) ∧ W.cell? ⟨og, i, none⟩ = some (.int .i64 (x : Nat))) (by kernel_rfl) (by kernel_rfl) (fun q => HNQ.out q) ?_
  obtain ⟨W4, hW4⟩ : ∃ W4, W4 = (V).drew := ⟨_, rfl⟩
  have e4 : ({ V with drawn := (V).drawn + 1 } : World) = W4 := hW4.symm
  rw [e4]
  have hB4 : Below (V).heap.size (V) W4 := by rw [hW4]; exact (Below.refl _ _).drew
  have hS : (∀ j, W4.cell? ⟨kB, j, none⟩ = (#[.int .i64 k0, .string k1, .int .i64 k2, .int .u64 k3, .string k4, .int .i64 k5, .int .i64 k6, .int .i64 k7, .int .i64 k8, .slice kp kpath.length kpc, .slice kip kit.length kic] : Array Value)[j]?) ∧ W4.cell? ⟨S + 3, 0, none⟩ = some (.slice (some ⟨og, 0, none⟩) ns.length oc) ∧ W4.cell? ⟨nb, 0, none⟩ = some (.int .i64 (i : Nat)) ∧ W4.cell? ⟨og, i, none⟩ = some (.int .i64 (x : Nat)) := ⟨fun j => (hB4.cell (p := ⟨kB, j, none⟩) zk).trans (hck j), (hB4.cell (p := ⟨S + 3, 0, none⟩) zo).trans hco, (hB4.cell (p := ⟨nb, 0, none⟩) zn).trans hcn, (hB4.cell (p := ⟨og, i, none⟩) zg).trans hcg⟩
  clear e4 hW4
  have HB4 : Hid (Below V.heap.size V W4) := hB4
  clear hB4
  refine wpAnyH_take (i := 0) (v := .agg #[.int .i64 k0, .string k1, .int .i64 k2, .int .u64 k3, .string k4, .int .i64 k5, .int .i64 k6, .int .i64 k7, .int .i64 k8, .slice kp kpath.length kpc, .slice kip kit.length kic]) rfl (by kernel_rfl) (by kernel_rfl) (by kernel_rfl) (fun _ _ _ h => h) (Or.inl ⟨by rfl, ?r⟩) hS ?_
  case r => intro W hW; simp [go_sem, execOp, Act.eval, hW.1]
  simp only [List.getElem_toArray, List.getElem_cons_zero, Act.put, List.setIfInBounds_toArray, List.set_cons_succ, List.set_cons_zero]
  refine wpAnyH_take (i := 1) (v := .slice (some ⟨og, 0, none⟩) ns.length oc) rfl (by kernel_rfl) (by kernel_rfl) (by kernel_rfl) (fun _ _ _ h => h) (Or.inl ⟨by rfl, ?r⟩) hS ?_
  case r => intro W hW; simp [go_sem, execOp, Act.eval, hW.2.1]
  simp only [List.getElem_toArray, List.getElem_cons_zero, List.getElem_cons_succ, Act.put, List.setIfInBounds_toArray, List.set_cons_succ, List.set_cons_zero]
  refine wpAnyH_take (i := 2) (v := .int .i64 (i : Nat)) rfl (by kernel_rfl) (by kernel_rfl) (by kernel_rfl) (fun _ _ _ h => h) (Or.inl ⟨by rfl, ?r⟩) hS ?_
  case r => intro W hW; simp [go_sem, execOp, Act.eval, hW.2.2.1]
  simp only [List.getElem_toArray, List.getElem_cons_zero, List.getElem_cons_succ, Act.put, List.setIfInBounds_toArray, List.set_cons_succ, List.set_cons_zero]
  refine wpAnyH_take (i := 3) (v := .pointer (some ⟨og, i, none⟩)) rfl (by kernel_rfl) (by kernel_rfl) (by kernel_rfl) (fun _ _ _ h => h) (Or.inl ⟨by rfl, ?r⟩) hS ?_
  case r => intro W hW; simp [go_sem, execOp, Act.eval, i1]
  simp only [List.getElem_toArray, List.getElem_cons_zero, List.getElem_cons_succ, Act.put, List.setIfInBounds_toArray, List.set_cons_succ, List.set_cons_zero]
  refine wpAnyH_take (i := 4) (v := .int .i64 (x : Nat)) rfl (by kernel_rfl) (by kernel_rfl) (by kernel_rfl) (fun _ _ _ h => h) (Or.inl ⟨by rfl, ?r⟩) hS ?_
  case r => intro W hW; simp [go_sem, execOp, Act.eval, hW.2.2.2]
  simp only [List.getElem_toArray, List.getElem_cons_zero, List.getElem_cons_succ, Act.put, List.setIfInBounds_toArray, List.set_cons_succ, List.set_cons_zero]
  refine wpAnyH_all (rs := [5]) (by kernel_rfl) (by simp) (fun i2 hi2 => ?_)
  obtain rfl : i2 = 5 := by simpa using hi2
  clear hi2
  refine wpOp_step rfl (fun K hK => ite_yes rfl ?_)
  simp only [List.getElem_toArray, List.getElem_cons_zero, List.getElem_cons_succ]
  go_simp
  refine (key_any HX.out.1 _).mono ?_
  rintro r W5 ⟨d, rfl, hsd, hdi, b5⟩
  have HB5 : Hid (Below V.heap.size V W5) := HB4.out.trans (b5.mono HB4.out.size)
  have HS5 : Hid (Calls Tryd.prog 16 #[.agg #[.int .i64 k0, .string k1, .int .i64 k2, .int .u64 k3, .string k4, .int .i64 k5, .int .i64 k6, .int .i64 k7, .int .i64 k8, .slice kp kpath.length kpc, .slice kip kit.length kic], d.val] W5 fun r w' => r = .returned (.bool true) ∧ Below W5.heap.size W5 w') := by
    have h1 := same16_any ⟨⟨k0, k1, k2, k3, k4, k5, k6, k7, k8, kp, kpath, kpc⟩, kip, kic, kit⟩ d W5 (HKI.out.later (Nat.le_refl _) HB5.out) hdi
    rw [same_two HX.out.2 hsd] at h1
    exact h1
  have hS5 : (∀ j, W5.cell? ⟨kB, j, none⟩ = (#[.int .i64 k0, .string k1, .int .i64 k2, .int .u64 k3, .string k4, .int .i64 k5, .int .i64 k6, .int .i64 k7, .int .i64 k8, .slice kp kpath.length kpc, .slice kip kit.length kic] : Array Value)[j]?) ∧ W5.cell? ⟨S + 3, 0, none⟩ = some (.slice (some ⟨og, 0, none⟩) ns.length oc) ∧ W5.cell? ⟨nb, 0, none⟩ = some (.int .i64 (i : Nat)) ∧ W5.cell? ⟨og, i, none⟩ = some (.int .i64 (x : Nat)) := ⟨fun j => (HB5.out.cell (p := ⟨kB, j, none⟩) zk).trans (hck j), (HB5.out.cell (p := ⟨S + 3, 0, none⟩) zo).trans hco, (HB5.out.cell (p := ⟨nb, 0, none⟩) zn).trans hcn, (HB5.out.cell (p := ⟨og, i, none⟩) zg).trans hcg⟩
  clear hsd hdi b5
  go_simp
  refine hK _ _ ⟨hS5, ?_⟩
  clear hK K hS
  have hS := hS5
  clear hS5
  try simp only [Act.put, List.setIfInBounds_toArray, List.set_cons_succ, List.set_cons_zero]
  refine wpAnyH_all (rs := [6]) (by kernel_rfl) (by simp) (fun i2 hi2 => ?_)
  obtain rfl : i2 = 6 := by simpa using hi2
  clear hi2
  refine wpOp_step rfl (fun K hK => ite_yes rfl ?_)
  simp only [List.getElem_toArray, List.getElem_cons_zero, List.getElem_cons_succ]
  go_simp
  refine HS5.out.mono ?_
  rintro r W6 ⟨rfl, b6⟩
  have HB6 : Hid (Below V.heap.size V W6) := HB5.out.trans (b6.mono HB5.out.size)
  have hS6 : (∀ j, W6.cell? ⟨kB, j, none⟩ = (#[.int .i64 k0, .string k1, .int .i64 k2, .int .u64 k3, .string k4, .int .i64 k5, .int .i64 k6, .int .i64 k7, .int .i64 k8, .slice kp kpath.length kpc, .slice kip kit.length kic] : Array Value)[j]?) ∧ W6.cell? ⟨S + 3, 0, none⟩ = some (.slice (some ⟨og, 0, none⟩) ns.length oc) ∧ W6.cell? ⟨nb, 0, none⟩ = some (.int .i64 (i : Nat)) ∧ W6.cell? ⟨og, i, none⟩ = some (.int .i64 (x : Nat)) := ⟨fun j => (HB6.out.cell (p := ⟨kB, j, none⟩) zk).trans (hck j), (HB6.out.cell (p := ⟨S + 3, 0, none⟩) zo).trans hco, (HB6.out.cell (p := ⟨nb, 0, none⟩) zn).trans hcn, (HB6.out.cell (p := ⟨og, i, none⟩) zg).trans hcg⟩
  clear b6
  go_simp
  refine hK _ _ ⟨hS6, ?_⟩
  clear hK K hS
  have hS := hS6
  clear hS6
  try simp only [Act.put, List.setIfInBounds_toArray, List.set_cons_succ, List.set_cons_zero]
  refine wpAnyH_take (i := 7) (v := .bool true) rfl (by kernel_rfl) (by kernel_rfl) (by kernel_rfl) (fun _ _ _ h => h) (Or.inl ⟨by rfl, ?r⟩) hS ?_
  case r => intro W hW; simp [go_sem, execOp, Act.eval]
  simp only [List.getElem_toArray, List.getElem_cons_zero, List.getElem_cons_succ, Act.put, List.setIfInBounds_toArray, List.set_cons_succ, List.set_cons_zero]
  refine wpAnyH_done (by kernel_rfl) ?_ _
  refine NoPanic.normal ?_
  try simp only [Act.put]
  clear hS
  have hz6 := HB6.out.size
  gi_wp2_with fail
  refine wpIn_region_round (S := fun W => W.cell? ⟨vB, 2, none⟩ = some (.int .i64 q) ∧ W.cell? ⟨vB, 0, none⟩ = some (.int .i64 2) ∧ W.cell? ⟨S + 2, 0, none⟩ = some (.slice (some ⟨S + 1, 0, none⟩) 900 900) ∧ W.cell? ⟨S + 3, 0, none⟩ = some (.slice (some ⟨og, 0, none⟩) ns.length oc) ∧ W.cell? ⟨nb, 0, none⟩ = some (.int .i64 (i : Nat)) ∧ W.cell? ⟨og, i, none⟩ = some (.int .i64 (x : Nat)) ∧ W.cell? ⟨S + 1, x, none⟩ = some (.int .i64 q)) (by kernel_rfl) (by kernel_rfl) (fun q => HNQ.out q) ?_
  obtain ⟨W7, hW7⟩ : ∃ W4, W4 = (W6).drew := ⟨_, rfl⟩
  have e4 : ({ W6 with drawn := (W6).drawn + 1 } : World) = W7 := hW7.symm
  rw [e4]
  have hB4 : Below (W6).heap.size (W6) W7 := by rw [hW7]; exact (Below.refl _ _).drew
  have hS : W7.cell? ⟨vB, 2, none⟩ = some (.int .i64 q) ∧ W7.cell? ⟨vB, 0, none⟩ = some (.int .i64 2) ∧ W7.cell? ⟨S + 2, 0, none⟩ = some (.slice (some ⟨S + 1, 0, none⟩) 900 900) ∧ W7.cell? ⟨S + 3, 0, none⟩ = some (.slice (some ⟨og, 0, none⟩) ns.length oc) ∧ W7.cell? ⟨nb, 0, none⟩ = some (.int .i64 (i : Nat)) ∧ W7.cell? ⟨og, i, none⟩ = some (.int .i64 (x : Nat)) ∧ W7.cell? ⟨S + 1, x, none⟩ = some (.int .i64 q) := ⟨((HB6.out.trans (hB4.mono HB6.out.size)).cell (p := ⟨vB, 2, none⟩) zv).trans hv2, ((HB6.out.trans (hB4.mono HB6.out.size)).cell (p := ⟨vB, 0, none⟩) zv).trans hv0, ((HB6.out.trans (hB4.mono HB6.out.size)).cell (p := ⟨S + 2, 0, none⟩) zx).trans hcx, ((HB6.out.trans (hB4.mono HB6.out.size)).cell (p := ⟨S + 3, 0, none⟩) zo).trans hco, ((HB6.out.trans (hB4.mono HB6.out.size)).cell (p := ⟨nb, 0, none⟩) zn).trans hcn, ((HB6.out.trans (hB4.mono HB6.out.size)).cell (p := ⟨og, i, none⟩) zg).trans hcg, ((HB6.out.trans (hB4.mono HB6.out.size)).cell (p := ⟨S + 1, x, none⟩) zw).trans hcw⟩
  clear e4 hW7
  have HB7 : Hid (Below V.heap.size V W7) := HB6.out.trans (hB4.mono HB6.out.size)
  clear hB4
  refine wpAnyH_take (i := 0) (v := .bool true) rfl (by kernel_rfl) (by kernel_rfl) (by kernel_rfl) (fun _ _ _ h => h) (Or.inl ⟨by rfl, ?r⟩) hS ?_
  case r => intro W hW; simp [go_sem, execOp, Act.eval]
  simp only [List.getElem_toArray, List.getElem_cons_zero, Act.put, List.setIfInBounds_toArray, List.set_cons_succ, List.set_cons_zero]
  refine wpAnyH_take (i := 1) (v := .bool false) rfl (by kernel_rfl) (by kernel_rfl) (by kernel_rfl) (fun _ _ _ h => h) (Or.inl ⟨by rfl, ?r⟩) hS ?_
  case r => intro W hW; simp [go_sem, execOp, Act.eval]
  simp only [List.getElem_toArray, List.getElem_cons_zero, List.getElem_cons_succ, Act.put, List.setIfInBounds_toArray, List.set_cons_succ, List.set_cons_zero]
  refine wpAnyH_take (i := 2) (v := .bool false) rfl (by kernel_rfl) (by kernel_rfl) (by kernel_rfl) (fun _ _ _ h => h) (Or.inl ⟨by rfl, ?r⟩) hS ?_
  case r => intro W hW; simp [go_sem, execOp, Act.eval]
  simp only [List.getElem_toArray, List.getElem_cons_zero, List.getElem_cons_succ, Act.put, List.setIfInBounds_toArray, List.set_cons_succ, List.set_cons_zero]
  refine wpAnyH_take (i := 3) (v := .pointer (some ⟨vB, 2, none⟩)) rfl (by kernel_rfl) (by kernel_rfl) (by kernel_rfl) (fun _ _ _ h => h) (Or.inl ⟨by rfl, ?r⟩) hS ?_
  case r => intro W hW; simp [go_sem, execOp, Act.eval]
  simp only [List.getElem_toArray, List.getElem_cons_zero, List.getElem_cons_succ, Act.put, List.setIfInBounds_toArray, List.set_cons_succ, List.set_cons_zero]
  refine wpAnyH_take (i := 4) (v := .int .i64 q) rfl (by kernel_rfl) (by kernel_rfl) (by kernel_rfl) (fun _ _ _ h => h) (Or.inl ⟨by rfl, ?r⟩) hS ?_
  case r => intro W hW; simp [go_sem, execOp, Act.eval, hW.1]
  simp only [List.getElem_toArray, List.getElem_cons_zero, List.getElem_cons_succ, Act.put, List.setIfInBounds_toArray, List.set_cons_succ, List.set_cons_zero]
  refine wpAnyH_take (i := 5) (v := .slice (some ⟨S + 1, 0, none⟩) 900 900) rfl (by kernel_rfl) (by kernel_rfl) (by kernel_rfl) (fun _ _ _ h => h) (Or.inl ⟨by rfl, ?r⟩) hS ?_
  case r => intro W hW; simp [go_sem, execOp, Act.eval, hW.2.2.1]
  simp only [List.getElem_toArray, List.getElem_cons_zero, List.getElem_cons_succ, Act.put, List.setIfInBounds_toArray, List.set_cons_succ, List.set_cons_zero]
  refine wpAnyH_take (i := 6) (v := .slice (some ⟨og, 0, none⟩) ns.length oc) rfl (by kernel_rfl) (by kernel_rfl) (by kernel_rfl) (fun _ _ _ h => h) (Or.inl ⟨by rfl, ?r⟩) hS ?_
  case r => intro W hW; simp [go_sem, execOp, Act.eval, hW.2.2.2.1]
  simp only [List.getElem_toArray, List.getElem_cons_zero, List.getElem_cons_succ, Act.put, List.setIfInBounds_toArray, List.set_cons_succ, List.set_cons_zero]
  refine wpAnyH_take (i := 7) (v := .int .i64 (i : Nat)) rfl (by kernel_rfl) (by kernel_rfl) (by kernel_rfl) (fun _ _ _ h => h) (Or.inl ⟨by rfl, ?r⟩) hS ?_
  case r => intro W hW; simp [go_sem, execOp, Act.eval, hW.2.2.2.2.1]
  simp only [List.getElem_toArray, List.getElem_cons_zero, List.getElem_cons_succ, Act.put, List.setIfInBounds_toArray, List.set_cons_succ, List.set_cons_zero]
  refine wpAnyH_take (i := 8) (v := .pointer (some ⟨og, i, none⟩)) rfl (by kernel_rfl) (by kernel_rfl) (by kernel_rfl) (fun _ _ _ h => h) (Or.inl ⟨by rfl, ?r⟩) hS ?_
  case r => intro W hW; simp [go_sem, execOp, Act.eval, i1]
  simp only [List.getElem_toArray, List.getElem_cons_zero, List.getElem_cons_succ, Act.put, List.setIfInBounds_toArray, List.set_cons_succ, List.set_cons_zero]
  refine wpAnyH_take (i := 9) (v := .int .i64 (x : Nat)) rfl (by kernel_rfl) (by kernel_rfl) (by kernel_rfl) (fun _ _ _ h => h) (Or.inl ⟨by rfl, ?r⟩) hS ?_
  case r => intro W hW; simp [go_sem, execOp, Act.eval, hW.2.2.2.2.2.1]
  simp only [List.getElem_toArray, List.getElem_cons_zero, List.getElem_cons_succ, Act.put, List.setIfInBounds_toArray, List.set_cons_succ, List.set_cons_zero]
  refine wpAnyH_take (i := 10) (v := .pointer (some ⟨S + 1, x, none⟩)) rfl (by kernel_rfl) (by kernel_rfl) (by kernel_rfl) (fun _ _ _ h => h) (Or.inl ⟨by rfl, ?r⟩) hS ?_
  case r => intro W hW; simp [go_sem, execOp, Act.eval, x1]
  simp only [List.getElem_toArray, List.getElem_cons_zero, List.getElem_cons_succ, Act.put, List.setIfInBounds_toArray, List.set_cons_succ, List.set_cons_zero]
  refine wpAnyH_take (i := 11) (v := .int .i64 q) rfl (by kernel_rfl) (by kernel_rfl) (by kernel_rfl) (fun _ _ _ h => h) (Or.inl ⟨by rfl, ?r⟩) hS ?_
  case r => intro W hW; simp [go_sem, execOp, Act.eval, hW.2.2.2.2.2.2]
  simp only [List.getElem_toArray, List.getElem_cons_zero, List.getElem_cons_succ, Act.put, List.setIfInBounds_toArray, List.set_cons_succ, List.set_cons_zero]
  refine wpAnyH_take (i := 12) (v := .bool false) rfl (by kernel_rfl) (by kernel_rfl) (by kernel_rfl) (fun _ _ _ h => h) (Or.inl ⟨by rfl, ?r⟩) hS ?_
  case r => intro W hW; simp [go_sem, execOp, Act.eval]
  simp only [List.getElem_toArray, List.getElem_cons_zero, List.getElem_cons_succ, Act.put, List.setIfInBounds_toArray, List.set_cons_succ, List.set_cons_zero]
  refine wpAnyH_take (i := 13) (v := .bool false) rfl (by kernel_rfl) (by kernel_rfl) (by kernel_rfl) (fun _ _ _ h => h) (Or.inl ⟨by rfl, ?r⟩) hS ?_
  case r => intro W hW; simp [go_sem, execOp, Act.eval]
  simp only [List.getElem_toArray, List.getElem_cons_zero, List.getElem_cons_succ, Act.put, List.setIfInBounds_toArray, List.set_cons_succ, List.set_cons_zero]
  refine wpAnyH_done (by kernel_rfl) ?_ _
  refine NoPanic.normal ?_
  try simp only [Act.put]
  clear hS
  have hn7 : W7.heap[nb]? = some (.cells #[.int .i64 (i : Nat)] 3 (0, 0)) := (HB7.out.block nb zn).trans HI.out.2
  have hc7 := row_at hn7 0
  have hf7 := fz _ _ _ _ 0 hn7
  have hz7 := row_ltT hn7
  have HN7 : Hid (W7.heap[nb]? = some (.cells #[.int .i64 (i : Nat)] 3 (0, 0))) := hn7
  clear hn7
  gi_wp2_with fail
  exact HEN.out _ _ HB7.out HN7.out
end Go.Proofs.YtflonmlnedkmjaaDoor
namespace Go.Proofs.YtflonmlnedkmjaaDoor
open Go.RowKit Go.Shelf
noncomputable def tailWC : Code := sub [true, true, true, true, true, true, true, true, true, true, true, true, true] (Tryd.f3.body.getD .skip)
variable {o w0 V W : World} {m S nb mw D1 : Nat} {es : List Ent} {G : KG} {vals : Nat → Int} {ns : List Nat} {ov : Value}
attribute [local go_sem] Oper.semAt_some
/-- What Walk asks of what holds between two turns. -/
theorem NI.turns (h0 : MC o m S es G vals ns (fun i => decide (i ∈ ns)) vals ov w0) (hx : NBox S es ov nb w0) (hm : w0.heap[mw]? = some (.cells #[.pointer (some ⟨m, 0, none⟩)] 24 (0, 0))) : TurnC 4 m mw (es.map Ent.b) (OkE es) (NI w0 nb) := by
  have hne : mw ≠ nb := fun q => by
    obtain ⟨c, hc⟩ := hx.box
    rw [q, hc] at hm
    cases hm
  refine ⟨fun i A B h hb => h.stable hb, fun i W h => ?_, fun i hi W h => .inl ?_, fun i hi W h hg => ?_⟩
  · have := h.1.cells hm hne
    exact ⟨row_at this 0, row_ltT this⟩
  · have hi' : i < es.length := by simpa using hi
    have hmv := NI.mc h0 hx h
    have he : es[i] ∈ es := List.getElem_mem hi'
    rw [List.getElem_map]
    exact ⟨es[i].kb, es[i].vb, es[i].k, es[i].v, es[i].h, _, _, _, hmv.st.map.ent _ he, (hmv.st.map.box _ he).1, (hmv.st.map.box _ he).2, (hmv.st.map.key _ he).1, (hmv.st.map.key _ he).2.2.2.2, es[i], List.getElem?_eq_getElem hi', rfl, rfl⟩
  · have hi' : i < es.length := by simpa using hi
    have hmv := NI.mc h0 hx h
    have he : es[i] ∈ es := List.getElem_mem hi'
    obtain ⟨kb, vp, k, nx, bf, bh, es', G', he', _⟩ := hg
    have h1 := hmv.st.map.ent _ he
    unfold EntAt at h1 he'
    rw [List.getElem_map, h1] at he'
    simp at he'
theorem NI.turnsA (h0 : MC o m S es G vals ns (fun i => decide (i ∈ ns)) vals ov w0) (hx : NBox S es ov nb w0) : TurnA 4 es (NI w0 nb) :=
  ⟨fun _ _ _ h hb => h.stable hb, fun _ hi _ h => (NI.mc h0 hx h).st.map.box _ (List.getElem_mem hi)⟩
set_option maxRecDepth 100000 in
set_option maxHeartbeats 16000000 in
theorem tailW_any {C : Code} (hC : C = tailWC) {R : Ending → World → Prop} {c0 c1 c3 c5 c8 c9 c10 c11 c12 c13 c14 c15 c16 c17 c18 c21 c22 c23 c24 c25 c26 c27 c28 c29 c30 c31 c32 c33 c34 c35 c36 c37 c38 c39 c40 c41 c42 c43 c44 c45 c46 c47 c48 c49 c50 c51 c52 c53 c54 c55 c56 c57 c58 c59 c60 c61 c62 c63 c64 c65 c66 c67 c68 c69 c70 c71 c72 c73 c74 c75 c76 c77 c78 c79 c80 c81 c82 c83 c84 c85 c86 c87 c88 c89 c90 c91 c92 c93 c94 c95 c96 c97 c98 c99 c100 c101 c102 c103 c104 c105 c106 c107 c108 c109 c110 c111 c112 c113 c114 c115 c116 c117 c118 c119 c120 c121 c122 c123 c124 c125 c126 c127 c128 c129 c130 c131 c132 c133 c134 c135 c136 c137 c138 c139 c140 c141 c142 c143 c144 c145 c146 c147 c148 c149 c150 c151 c152 c153 c154 c155 c156 c157 c158 c159 c160 c161 c162 c163 c164 c165 c166 c167 c168 c169 c170 c171 c172 c173 c174 c175 c176 c177 c178 c179 c180 c181 c182 c183 c184 c185 c186 c187 c188 c189 c190 c191 c192 c193 c194 c195 c196 c197 c198 c199 c200 c201 c202 c203 c204 c205 c206 c207 c208 c209 c210 c211 c212 c213 c214 c215 c216 c217 c218 c219 c220 c221 c222 c223 c224 c225 c226 c227 c228 c229 c230 c231 c232 c233 c234 c235 c236 c237 c238 c239 c240 c241 c242 c243 c244 c245 c246 c247 c248 c249 c250 c251 c252 c253 c254 c255 c256 c257 c258 c259 c260 c261 c262 : Value} (hM : MC o m S es G vals ns (fun i => decide (i ∈ ns)) vals ov W) (hR : RowI S es ov ns W) (hl : ns.length ≤ 400)
    (hx : NBox S es ov nb W) (hn : W.heap[nb]? = some (.cells #[.int .i64 (ns.length : Nat)] 3 (0, 0))) (hm : W.heap[mw]? = some (.cells #[.pointer (some ⟨m, 0, none⟩)] 24 (0, 0))) (hD : W.heap[D1]? = some (.deferred (some []))) (hDo : o.heap.size < D1)
    (hRR : ∀ w', Below o.heap.size o w' → R (.returned (.bool true)) w') :
    C.wpIn Fence.wide 6 Tryd.prog (bodyPostM Fence.wide 6 Tryd.prog Tryd.f3 R) ⟨List.toArray [c0, c1, .pointer (some ⟨o.heap.size, 0, none⟩), c3, .pointer (some ⟨m, 0, none⟩), c5, .pointer (some ⟨S + 2, 0, none⟩), .pointer (some ⟨S + 3, 0, none⟩), c8, c9, c10, c11, c12, c13, c14, c15, c16, c17, c18, .func (.func 28) #[] #[.pointer (some ⟨mw, 0, none⟩)], .pointer (some ⟨nb, 0, none⟩), c21, c22, c23, c24, c25, c26, c27, c28, c29, c30, c31, c32, c33, c34, c35, c36, c37, c38, c39, c40, c41, c42, c43, c44, c45, c46, c47, c48, c49, c50, c51, c52, c53, c54, c55, c56, c57, c58, c59, c60, c61, c62, c63, c64, c65, c66, c67, c68, c69, c70, c71, c72, c73, c74, c75, c76, c77, c78, c79, c80, c81, c82, c83, c84, c85, c86, c87, c88, c89, c90, c91, c92, c93, c94, c95, c96, c97, c98, c99, c100, c101, c102, c103, c104, c105, c106, c107, c108, c109, c110, c111, c112, c113, c114, c115, c116, c117, c118, c119, c120, c121, c122, c123, c124, c125, c126, c127, c128, c129, c130, c131, c132, c133, c134, c135, c136, c137, c138, c139, c140, c141, c142, c143, c144, c145, c146, c147, c148, c149, c150, c151, c152, c153, c154, c155, c156, c157, c158, c159, c160, c161, c162, c163, c164, c165, c166, c167, c168, c169, c170, c171, c172, c173, c174, c175, c176, c177, c178, c179, c180, c181, c182, c183, c184, c185, c186, c187, c188, c189, c190, c191, c192, c193, c194, c195, c196, c197, c198, c199, c200, c201, c202, c203, c204, c205, c206, c207, c208, c209, c210, c211, c212, c213, c214, c215, c216, c217, c218, c219, c220, c221, c222, c223, c224, c225, c226, c227, c228, c229, c230, c231, c232, c233, c234, c235, c236, c237, c238, c239, c240, c241, c242, c243, c244, c245, c246, c247, c248, c249, c250, c251, c252, c253, c254, c255, c256, c257, c258, c259, c260, c261, c262], [{ target := .collected D1, args := #[] }]⟩ W := by
  subst hC
  obtain ⟨Q, hQ⟩ : ∃ Q, Q = bodyPostM Fence.wide 6 Tryd.prog Tryd.f3 R := ⟨_, rfl⟩
  rw [← hQ]
  have HQ : Hid (Q = bodyPostM Fence.wide 6 Tryd.prog Tryd.f3 R) := hQ
  obtain ⟨op, oc, rfl⟩ := hR.form
  have hco := row_at hM.obox 0
  have zo := row_ltT hM.obox
  have hcn := row_at hn 0
  have hfn := fz _ _ _ _ 0 hn
  have zn := row_ltT hn
  have HM : Hid (MC o m S es G vals ns (fun i => decide (i ∈ ns)) vals (.slice op ns.length oc) W ∧ RowI S es (.slice op ns.length oc) ns W ∧ NBox S es (.slice op ns.length oc) nb W ∧ W.heap[nb]? = some (.cells #[.int .i64 (ns.length : Nat)] 3 (0, 0)) ∧ W.heap[mw]? = some (.cells #[.pointer (some ⟨m, 0, none⟩)] 24 (0, 0)) ∧ W.heap[D1]? = some (.deferred (some []))) := ⟨hM, hR, hx, hn, hm, hD⟩
  have HRR : Hid (∀ w', Below o.heap.size o w' → R (.returned (.bool true)) w') := hRR
  have HL : Hid (ns.length ≤ 400) := hl
  clear hM hR hl hx hn hm hD hRR hQ
  unfold tailWC
  simp only [Tryd.f3, Option.getD, sub]
  gi_wp2_with fail
  obtain ⟨w0, h0⟩ : ∃ X, X = W.setCell ⟨nb, 0, none⟩ (.int .i64 0) := ⟨_, rfl⟩
  have hz0 : w0.heap.size = W.heap.size := by rw [h0]; simp
  have hni0 : NI W nb 0 w0 := by rw [h0]; exact ⟨(KeepS.refl _ W).set _ (fun _ => rfl), row_set HM.out.2.2.2.1 0 _⟩
  rw [← h0]
  clear h0
  have HM0 : Hid (MC o m S es G vals ns (fun i => decide (i ∈ ns)) vals (.slice op ns.length oc) w0 ∧ RowI S es (.slice op ns.length oc) ns w0 ∧ NBox S es (.slice op ns.length oc) nb w0 ∧ w0.heap[mw]? = some (.cells #[.pointer (some ⟨m, 0, none⟩)] 24 (0, 0)) ∧ w0.heap[D1]? = some (.deferred (some [])) ∧ w0.heap[nb]? = some (.cells #[.int .i64 0] 3 (0, 0))) := by
    have hx := HM.out.2.2.1
    have hm := HM.out.2.2.2.2.1
    have hD := HM.out.2.2.2.2.2
    refine ⟨NI.mc HM.out.1 hx hni0, NI.row HM.out.2.1 hx hni0, ⟨⟨_, hni0.2⟩, hx.off, hx.ne, hx.hi⟩, hni0.1.cells hm (fun q => ?_), (hni0.1.block D1 (Array.getElem?_eq_some_iff.1 hD).1 (fun q => ?_)).trans hD, hni0.2⟩
    · rw [q, HM.out.2.2.2.1] at hm; cases hm
    · rw [q, HM.out.2.2.2.1] at hD; cases hD
  clear hni0 hco zo hcn hfn zn HM hz0
  have hlenE : es.length = ns.length := HM0.out.1.mod.len
  have HLE : Hid (es.length = ns.length) := hlenE
  clear hlenE
  refine wpIn_rangeFunc_J rfl (by omega) (gf := 28) (lb := #[.pointer (some ⟨mw, 0, none⟩)]) rfl trivial (enters_of Tryd.func28 (by kernel_rfl) rfl)
    (walk1_seq 5 (by omega) HM0.out.1.st.map (by have := HLE.out; have := HL.out; omega) (row_at HM0.out.2.2.2.1 0) (row_ltT HM0.out.2.2.2.1)) rfl
    (NI w0 nb) (NI.turns HM0.out.1 HM0.out.2.2.1 HM0.out.2.2.2.1) ?start ?put
    (fun k v X => ⟨List.toArray [c0, c1, .pointer (some ⟨o.heap.size, 0, none⟩), c3, .pointer (some ⟨m, 0, none⟩), c5, .pointer (some ⟨S + 2, 0, none⟩), .pointer (some ⟨S + 3, 0, none⟩), c8, c9, c10, c11, c12, c13, c14, c15, c16, c17, c18, .func (.func 28) #[] #[.pointer (some ⟨mw, 0, none⟩)], .pointer (some ⟨nb, 0, none⟩), c21, c22, c23, .pointer (some ⟨X.heap.size, 0, none⟩), .pointer (some ⟨X.heap.size + 1, 0, none⟩), c26, c27, c28, c29, c30, c31, c32, c33, c34, c35, c36, c37, c38, c39, c40, c41, c42, c43, c44, c45, c46, c47, c48, c49, c50, c51, c52, c53, c54, c55, c56, c57, c58, c59, c60, c61, c62, c63, c64, c65, c66, c67, c68, c69, c70, c71, c72, c73, c74, c75, c76, c77, c78, c79, c80, c81, c82, c83, c84, c85, c86, c87, c88, c89, c90, c91, c92, c93, c94, c95, c96, c97, c98, c99, c100, c101, c102, c103, c104, c105, c106, c107, c108, c109, c110, c111, c112, c113, c114, c115, c116, c117, c118, c119, c120, c121, c122, c123, c124, c125, c126, c127, c128, c129, c130, c131, c132, c133, c134, c135, c136, c137, c138, c139, c140, c141, c142, c143, c144, c145, c146, c147, c148, c149, c150, c151, c152, c153, c154, c155, c156, c157, c158, c159, c160, c161, c162, c163, c164, c165, c166, c167, c168, c169, c170, c171, c172, c173, c174, c175, c176, c177, c178, c179, c180, c181, c182, c183, c184, c185, c186, c187, c188, c189, c190, c191, c192, c193, c194, c195, c196, c197, c198, c199, c200, c201, c202, c203, c204, c205, c206, c207, c208, c209, c210, c211, c212, c213, c214, c215, c216, c217, c218, c219, c220, c221, c222, c223, c224, .int .i64 (ns.length : Nat), .slice op ns.length oc, .int .i64 (ns.length : Nat), .bool false, .func (.func 28) #[] #[.pointer (some ⟨mw, 0, none⟩)], k.val, v.val, c232, c233, c234, c235, c236, c237, c238, c239, c240, c241, c242, c243, c244, c245, c246, c247, c248, c249, c250, c251, c252, c253, c254, c255, c256, c257, c258, c259, c260, c261, c262], []⟩) (fun k v X => (X.alloc (.cells k.cells 39)).alloc (.cells v.cells 39)) (fun k v X => below2 _ _ _) ?assign ?body ?done
  case start => exact ⟨KeepS.refl _ _, HM0.out.2.2.2.2.2⟩
  case put =>
    intro i X oo hz hI
    exact hI.put (by omega) HM0.out.2.2.1.lt
  case assign =>
    intro l k v X K hK
    simp only [MD.val, D] at hK ⊢
    gi_wp2
    exact hK
  case body =>
    intro l i k v X oo hi hH hlt hkI hvI hI
    obtain ⟨k0, v0, ⟨e, he, rfl, rfl⟩, hs1, hs2⟩ := hH
    refine turnW_any (by kernel_rfl) HM0.out.1 HM0.out.2.1 HM0.out.2.2.1 HL.out he hs1 hs2 hI (by simp; omega) ?_ ?_ hkI
    · refine (World.putObj_heap_other (by omega)).trans ?_
      exact (Below.heap_alloc _ _ _ (by simp)).trans (heap_alloc_new _ _)
    · refine (World.putObj_heap_other (by omega)).trans ?_
      have := heap_alloc_new (X.alloc (.cells k.cells 39)) (.cells v.cells 39)
      rwa [World.size_alloc] at this
  case done =>
    intro X hI hK
    rw [List.length_map, HLE.out] at hI
    have hmv := NI.mc HM0.out.1 HM0.out.2.2.1 hI
    have hco := row_at hmv.obox 0
    have zo := row_ltT hmv.obox
    have hcn := row_at hI.2 0
    have zn := row_ltT hI.2
    have hcr := row_at hmv.res 0
    have hfr := fz _ _ _ _ 0 hmv.res
    have zr := row_ltT hmv.res
    have HX : Hid (X.heap[o.heap.size]? = some (.cells #[.bool false] 4 (0, 0)) ∧ Below o.heap.size o X ∧ X.heap[w0.heap.size]? = some (.deferred (some [])) ∧ X.heap[D1]? = some (.deferred (some [])) ∧ D1 < w0.heap.size ∧ o.heap.size < w0.heap.size) := by
      have hD := HM0.out.2.2.2.2.1
      have hlt : D1 < w0.heap.size := (Array.getElem?_eq_some_iff.1 hD).1
      refine ⟨hmv.res, hmv.st.old, hK, (hI.1.block D1 hlt (fun q => ?_)).trans hD, hlt, by have := HM0.out.1.lt; have := HM0.out.1.base; omega⟩
      rw [q, HM0.out.2.2.2.2.2] at hD; cases hD
    clear hmv hI hK
    gi_wp2_with fail
    rw [HQ.out]
    obtain ⟨x1, x2, x3, x4, x5, x6⟩ := HX.out
    obtain ⟨Y, hY⟩ : ∃ Y, Y = X.setCell ⟨o.heap.size, 0, none⟩ (.bool true) := ⟨_, rfl⟩
    have y1 : Y.heap[o.heap.size]? = some (.cells #[.bool true] 4 (0, 0)) := by rw [hY]; exact row_set x1 0 _
    have y2 : Below o.heap.size o Y := by rw [hY]; exact x2.setCell (p := ⟨o.heap.size, 0, none⟩) (Nat.le_refl _) _
    have y3 : Y.heap[w0.heap.size]? = some (.deferred (some [])) := by rw [hY]; exact (heap_setCell_other _ _ _ _ _ (by omega)).trans x3
    have y4 : Y.heap[D1]? = some (.deferred (some [])) := by rw [hY]; exact (heap_setCell_other _ _ _ _ _ (by omega)).trans x4
    rw [← hY]
    clear hY
    have z4 : (Y.putObj w0.heap.size (.deferred none)).heap[D1]? = some (.deferred (some [])) := (World.putObj_heap_other (by omega)).trans y4
    refine ⟨by simp, .inl ⟨_, _, rfl, run_takeDeferred y3, ?_⟩⟩
    refine ⟨by simp, .inl ⟨_, _, rfl, run_takeDeferred z4, ?_⟩⟩
    have hcY : ((Y.putObj w0.heap.size (.deferred none)).putObj D1 (.deferred none)).cell? ⟨o.heap.size, 0, none⟩ = some (.bool true) := by
      refine (World.cell?_of_block (a := ⟨o.heap.size, 0, none⟩) ((World.putObj_heap_other (by show o.heap.size ≠ _; omega)).trans (World.putObj_heap_other (by show o.heap.size ≠ _; omega)))).trans ?_
      exact row_at y1 0
    have hbY : Below o.heap.size o ((Y.putObj w0.heap.size (.deferred none)).putObj D1 (.deferred none)) :=
      ⟨y2.os, y2.tape, y2.output, by simpa using y2.size, fun b hb => (World.putObj_heap_other (by omega)).trans ((World.putObj_heap_other (by omega)).trans (y2.block b hb))⟩
    refine ⟨.bool true, ?_, HRR.out _ hbY⟩
    generalize (Y.putObj w0.heap.size (.deferred none)).putObj D1 (.deferred none) = Z at hcY
    simp [results, Tryd.results3, go_sem, hcY]
end Go.Proofs.YtflonmlnedkmjaaDoor
namespace Go.Proofs.YtflonmlnedkmjaaDoor
open Go.RowKit Go.Shelf
noncomputable def tailAC : Code := sub [true, true, true, true, true, true, true, true] (Tryd.f3.body.getD .skip)
variable {o W : World} {m S : Nat} {es : List Ent} {G : KG} {vals : Nat → Int} {ns : List Nat} {ov : Value}
attribute [local go_sem] Oper.semAt_some
theorem eqFW (p : Value) (w : World) : (Go.binOp .eql 47 (.func (.func 28) #[] #[p]) .nilFunc).run Tryd.prog w = .ok (.bool false) w := by kernel_rfl
theorem eqFA (p : Value) (w : World) : (Go.binOp .eql 47 (.func (.func 25) #[] #[p]) .nilFunc).run Tryd.prog w = .ok (.bool false) w := by kernel_rfl
attribute [local go_sem] eqFW eqFA
set_option maxRecDepth 100000 in
set_option maxHeartbeats 16000000 in
theorem tailA_any {C : Code} (hC : C = tailAC) {R : Ending → World → Prop} {c0 c1 c3 c5 c8 c9 c10 c11 c12 c13 c14 c15 c16 c17 c18 c19 c20 c21 c22 c23 c24 c25 c26 c27 c28 c29 c30 c31 c32 c33 c34 c35 c36 c37 c38 c39 c40 c41 c42 c43 c44 c45 c46 c47 c48 c49 c50 c51 c52 c53 c54 c55 c56 c57 c58 c59 c60 c61 c62 c63 c64 c65 c66 c67 c68 c69 c70 c71 c72 c73 c74 c75 c76 c77 c78 c79 c80 c81 c82 c83 c84 c85 c86 c87 c88 c89 c90 c91 c92 c93 c94 c95 c96 c97 c98 c99 c100 c101 c102 c103 c104 c105 c106 c107 c108 c109 c110 c111 c112 c113 c114 c115 c116 c117 c118 c119 c120 c121 c122 c123 c124 c125 c126 c127 c128 c129 c130 c131 c132 c133 c134 c135 c136 c137 c138 c139 c140 c141 c142 c143 c144 c145 c146 c147 c148 c149 c150 c151 c152 c153 c154 c155 c156 c157 c158 c159 c160 c161 c162 c163 c164 c165 c166 c167 c168 c169 c170 c171 c172 c173 c174 c175 c176 c177 c178 c179 c180 c181 c182 c183 c184 c185 c186 c187 c188 c189 c190 c191 c192 c193 c194 c195 c196 c197 c198 c199 c200 c201 c202 c203 c204 c205 c206 c207 c208 c209 c210 c211 c212 c213 c214 c215 c216 c217 c218 c219 c220 c221 c222 c223 c224 c225 c226 c227 c228 c229 c230 c231 c232 c233 c234 c235 c236 c237 c238 c239 c240 c241 c242 c243 c244 c245 c246 c247 c248 c249 c250 c251 c252 c253 c254 c255 c256 c257 c258 c259 c260 c261 c262 : Value} (hM : MC o m S es G vals ns (fun i => decide (i ∈ ns)) vals ov W) (hR : RowI S es ov ns W) (hl : ns.length ≤ 400)
    (hRR : ∀ w', Below o.heap.size o w' → R (.returned (.bool true)) w') :
    C.wpIn Fence.wide 6 Tryd.prog (bodyPostM Fence.wide 6 Tryd.prog Tryd.f3 R) ⟨List.toArray [c0, c1, .pointer (some ⟨o.heap.size, 0, none⟩), c3, .pointer (some ⟨m, 0, none⟩), c5, .pointer (some ⟨S + 2, 0, none⟩), .pointer (some ⟨S + 3, 0, none⟩), c8, c9, c10, c11, c12, c13, c14, c15, c16, c17, c18, c19, c20, c21, c22, c23, c24, c25, c26, c27, c28, c29, c30, c31, c32, c33, c34, c35, c36, c37, c38, c39, c40, c41, c42, c43, c44, c45, c46, c47, c48, c49, c50, c51, c52, c53, c54, c55, c56, c57, c58, c59, c60, c61, c62, c63, c64, c65, c66, c67, c68, c69, c70, c71, c72, c73, c74, c75, c76, c77, c78, c79, c80, c81, c82, c83, c84, c85, c86, c87, c88, c89, c90, c91, c92, c93, c94, c95, c96, c97, c98, c99, c100, c101, c102, c103, c104, c105, c106, c107, c108, c109, c110, c111, c112, c113, c114, c115, c116, c117, c118, c119, c120, c121, c122, c123, c124, c125, c126, c127, c128, c129, c130, c131, c132, c133, c134, c135, c136, c137, c138, c139, c140, c141, c142, c143, c144, c145, c146, c147, c148, c149, c150, c151, c152, c153, c154, c155, c156, c157, c158, c159, c160, c161, c162, c163, c164, c165, c166, c167, c168, c169, c170, c171, c172, c173, c174, c175, c176, c177, c178, c179, c180, c181, c182, c183, c184, c185, c186, c187, c188, c189, c190, c191, c192, c193, c194, c195, c196, c197, c198, c199, c200, c201, c202, c203, c204, c205, c206, c207, c208, c209, c210, c211, c212, c213, c214, c215, c216, c217, c218, c219, c220, c221, c222, c223, c224, c225, c226, c227, c228, c229, c230, c231, c232, c233, c234, c235, c236, c237, c238, c239, c240, c241, c242, c243, c244, c245, c246, c247, c248, c249, c250, c251, c252, c253, c254, c255, c256, c257, c258, c259, c260, c261, c262], []⟩ W := by
  subst hC
  obtain ⟨Q, hQ⟩ : ∃ Q, Q = bodyPostM Fence.wide 6 Tryd.prog Tryd.f3 R := ⟨_, rfl⟩
  rw [← hQ]
  have HQ : Hid (Q = bodyPostM Fence.wide 6 Tryd.prog Tryd.f3 R) := hQ
  have HM : Hid (MC o m S es G vals ns (fun i => decide (i ∈ ns)) vals ov W ∧ RowI S es ov ns W) := ⟨hM, hR⟩
  have HRR : Hid (∀ w', Below o.heap.size o w' → R (.returned (.bool true)) w') := hRR
  have HL : Hid (ns.length ≤ 400) := hl
  obtain ⟨ma, hma⟩ : ∃ x, W.heap.size = x := ⟨_, rfl⟩
  obtain ⟨Wa, hWa⟩ : ∃ X, X = W.alloc (.cells #[.pointer (some ⟨m, 0, none⟩)] 24) := ⟨_, rfl⟩
  have a1 : Below W.heap.size W Wa := by rw [hWa]; exact below1 _ _
  have a2 : Wa.heap[ma]? = some (.cells #[.pointer (some ⟨m, 0, none⟩)] 24 (0, 0)) := by rw [hWa, ← hma]; exact heap_alloc_new _ _
  have HA : Hid (Calls Tryd.prog 14 #[.pointer (some ⟨m, 0, none⟩)] W fun r w' => r = .returned (.func (.func 25) #[] #[.pointer (some ⟨ma, 0, none⟩)]) ∧ w' = Wa) := by
    have := all_any W m
    rw [hma, ← hWa] at this
    exact this
  obtain ⟨mw, hmw⟩ : ∃ x, Wa.heap.size = x := ⟨_, rfl⟩
  obtain ⟨Wb, hWb⟩ : ∃ X, X = Wa.alloc (.cells #[.pointer (some ⟨m, 0, none⟩)] 24) := ⟨_, rfl⟩
  have b1 : Below Wa.heap.size Wa Wb := by rw [hWb]; exact below1 _ _
  have b2 : Wb.heap[mw]? = some (.cells #[.pointer (some ⟨m, 0, none⟩)] 24 (0, 0)) := by rw [hWb, ← hmw]; exact heap_alloc_new _ _
  have HB : Hid (Calls Tryd.prog 15 #[.pointer (some ⟨m, 0, none⟩)] Wa fun r w' => r = .returned (.func (.func 28) #[] #[.pointer (some ⟨mw, 0, none⟩)]) ∧ w' = Wb) := by
    have := walk_any Wa m
    rw [hmw, ← hWb] at this
    exact this
  obtain ⟨nb, hnb⟩ : ∃ x, Wb.heap.size = x := ⟨_, rfl⟩
  obtain ⟨w0, hw0⟩ : ∃ X, X = Wb.alloc (.cells #[.int .i64 0] 3) := ⟨_, rfl⟩
  have c1 : Below Wb.heap.size Wb w0 := by rw [hw0]; exact below1 _ _
  have c2 : w0.heap[nb]? = some (.cells #[.int .i64 0] 3 (0, 0)) := by rw [hw0, ← hnb]; exact heap_alloc_new _ _
  have HW0 : Hid (w0 = Wb.alloc (.cells #[.int .i64 0] 3) ∧ Wb.heap.size = nb) := ⟨hw0, hnb⟩
  have hab : Below W.heap.size W Wb := a1.trans (b1.mono a1.size)
  have hac : Below W.heap.size W w0 := hab.trans (c1.mono hab.size)
  have HM0 : Hid (MC o m S es G vals ns (fun i => decide (i ∈ ns)) vals ov w0 ∧ RowI S es ov ns w0 ∧ NBox S es ov nb w0 ∧ w0.heap[ma]? = some (.cells #[.pointer (some ⟨m, 0, none⟩)] 24 (0, 0)) ∧ w0.heap[mw]? = some (.cells #[.pointer (some ⟨m, 0, none⟩)] 24 (0, 0)) ∧ w0.heap[nb]? = some (.cells #[.int .i64 0] 3 (0, 0))) := by
    have hs1 := hab.size
    refine ⟨hM.below hac, hR.below hac, ⟨⟨_, c2⟩, OffE.new hM.st.map (by omega), fun g hg q => ?_, by have := hM.lt; omega⟩, ?_, ?_, c2⟩
    · have := (hR.at hg).2.1
      omega
    · exact (c1.block _ (by have := row_ltT a2; have := b1.size; omega)).trans ((b1.block _ (row_ltT a2)).trans a2)
    · exact (c1.block _ (row_ltT b2)).trans b2
  have HLE : Hid (es.length = ns.length) := hM.mod.len
  clear hM hR hl hRR hQ hma hWa a1 a2 hmw hWb b1 b2 hnb hw0 c1 c2 hab hac
  unfold tailAC
  simp only [Tryd.f3, Option.getD, sub]
  gi_wp2_with fail
  refine ⟨trivial, (callsIn_wide.2 HA.out).mono ?_⟩
  rintro r X1 ⟨rfl, rfl⟩
  gi_wp2_with fail
  refine ⟨trivial, (callsIn_wide.2 HB.out).mono ?_⟩
  rintro r X2 ⟨rfl, rfl⟩
  gi_wp2_with fail
  rw [← HW0.out.1, HW0.out.2]
  rename_i K0 hK0
  have HK0 : Hid _ := hK0
  clear hK0
  refine wpIn_rangeFunc_A rfl (by omega) (gf := 25) (lb := #[.pointer (some ⟨ma, 0, none⟩)]) rfl trivial (enters_of Tryd.func25 (by kernel_rfl) rfl)
    (all1_seq 5 (by omega) HM0.out.1.st.map (by have := HLE.out; have := HL.out; omega) (row_at HM0.out.2.2.2.1 0) (row_ltT HM0.out.2.2.2.1)) rfl
    (NI w0 nb) (NI.turnsA HM0.out.1 HM0.out.2.2.1) ?start ?put
    (fun k v X => ⟨List.toArray [c0, c1, .pointer (some ⟨o.heap.size, 0, none⟩), c3, .pointer (some ⟨m, 0, none⟩), c5, .pointer (some ⟨S + 2, 0, none⟩), .pointer (some ⟨S + 3, 0, none⟩), c8, c9, c10, c11, c12, c13, c14, c15, c16, c17, .func (.func 25) #[] #[.pointer (some ⟨ma, 0, none⟩)], .func (.func 28) #[] #[.pointer (some ⟨mw, 0, none⟩)], .pointer (some ⟨nb, 0, none⟩), .pointer (some ⟨X.heap.size, 0, none⟩), .pointer (some ⟨X.heap.size + 1, 0, none⟩), c23, c24, c25, c26, c27, c28, c29, c30, c31, c32, c33, c34, c35, c36, c37, c38, c39, c40, c41, c42, c43, c44, c45, c46, c47, c48, c49, c50, c51, c52, c53, c54, c55, c56, c57, c58, c59, c60, c61, c62, c63, c64, c65, c66, c67, c68, c69, c70, c71, c72, c73, c74, c75, c76, c77, c78, c79, c80, c81, c82, c83, c84, c85, c86, c87, c88, c89, c90, c91, c92, c93, c94, c95, c96, c97, c98, c99, c100, c101, c102, c103, c104, c105, c106, c107, c108, c109, c110, c111, c112, c113, c114, c115, c116, c117, c118, c119, c120, c121, c122, c123, c124, c125, c126, c127, c128, c129, c130, c131, c132, c133, c134, c135, c136, c137, c138, c139, c140, c141, c142, c143, c144, c145, c146, c147, c148, c149, c150, c151, c152, c153, c154, c155, c156, c157, c158, c159, c160, c161, c162, c163, c164, c165, c166, c167, c168, c169, c170, c171, c172, c173, c174, c175, c176, c177, c178, c179, .pointer (some ⟨m, 0, none⟩), .func (.func 25) #[] #[.pointer (some ⟨ma, 0, none⟩)], .pointer (some ⟨m, 0, none⟩), .func (.func 28) #[] #[.pointer (some ⟨mw, 0, none⟩)], .func (.func 25) #[] #[.pointer (some ⟨ma, 0, none⟩)], .bool false, .bool false, .func (.func 28) #[] #[.pointer (some ⟨mw, 0, none⟩)], .bool false, .bool false, .func (.func 25) #[] #[.pointer (some ⟨ma, 0, none⟩)], k.val, v.val, c193, c194, c195, c196, c197, c198, c199, c200, c201, c202, c203, c204, c205, c206, c207, c208, c209, c210, c211, c212, c213, c214, c215, c216, c217, c218, c219, c220, c221, c222, c223, c224, c225, c226, c227, c228, c229, c230, c231, c232, c233, c234, c235, c236, c237, c238, c239, c240, c241, c242, c243, c244, c245, c246, c247, c248, c249, c250, c251, c252, c253, c254, c255, c256, c257, c258, c259, c260, c261, c262], []⟩) (fun k v X => (X.alloc (.cells k.cells 39)).alloc (.cells v.cells 39)) (fun k v X => below2 _ _ _) ?assign ?body ?done
  case start => exact ⟨KeepS.refl _ _, HM0.out.2.2.2.2.2⟩
  case put =>
    intro i X oo hz hI
    exact hI.put (by omega) HM0.out.2.2.1.lt
  case assign =>
    intro l k v X K hK
    simp only [MD.val, D] at hK ⊢
    gi_wp2
    exact hK
  case body =>
    intro l i k v X oo hi hH hlt hkI hvI hI
    obtain ⟨k0, v0, ⟨e, he, rfl, rfl⟩, hs1, hs2⟩ := hH
    refine turnA_any (by kernel_rfl) HM0.out.1 HM0.out.2.1 HM0.out.2.2.1 HL.out he hs1 hs2 hI (by simp; omega) ?_ ?_ hkI
    · refine (World.putObj_heap_other (by omega)).trans ?_
      exact (Below.heap_alloc _ _ _ (by simp)).trans (heap_alloc_new _ _)
    · refine (World.putObj_heap_other (by omega)).trans ?_
      have := heap_alloc_new (X.alloc (.cells k.cells 39)) (.cells v.cells 39)
      rwa [World.size_alloc] at this
  case done =>
    intro X hI hK
    rw [HLE.out] at hI
    have hmv := NI.mc HM0.out.1 HM0.out.2.2.1 hI
    have hrv := NI.row HM0.out.2.1 HM0.out.2.2.1 hI
    have hx := HM0.out.2.2.1
    have hmw := HM0.out.2.2.2.2.1
    refine HK0.out _ _ ?_
    rw [HQ.out]
    refine tailW_any (by kernel_rfl) hmv hrv HL.out ⟨⟨_, hI.2⟩, hx.off, hx.ne, hx.hi⟩ hI.2 (hI.1.cells hmw (fun q => ?_)) hK (by have := HM0.out.1.lt; have := HM0.out.1.base; omega) HRR.out
    rw [q, HM0.out.2.2.2.2.2] at hmw; cases hmw
end Go.Proofs.YtflonmlnedkmjaaDoor
namespace Go.Proofs.YtflonmlnedkmjaaDoor
open Go.RowKit Go.Shelf
variable {o W : World} {m S : Nat} {es : List Ent} {G : KG} {vals : Nat → Int} {ns : List Nat} {ov : Value}
theorem info4 : (Tryd.prog.info? 4).map (fun i => (i.zero, i.size, i.bytes)) = some (some (.bool false), 1, 1) := by kernel_rfl
theorem info4_parts : ∃ i, Tryd.prog.info? 4 = some i ∧ i.zero = some (.bool false) ∧ i.size = 1 ∧ i.bytes = 1 := by
  have h := info4
  cases hi : Tryd.prog.info? 4 with
  | none => rw [hi] at h; cases h
  | some i => rw [hi] at h; simp at h; exact ⟨i, rfl, h.1, h.2.1, h.2.2⟩
theorem mk26 (w : World) : (Instr.makeSlice 26 (.int .i64 900) (.int .i64 900)).run Tryd.prog w = .ok (.slice (some ⟨w.heap.size, 0, none⟩) 900 900) (w.alloc (.cells (madeCells #[.bool false] 900) 4)) := by
  obtain ⟨i0, hi, hz0, hz1, hz2⟩ := info4_parts
  have h := run_make (P := Tryd.prog) w 26 4 i0 (.bool false) Tryd.underlying26 hi hz0 .i64 .i64 900 900 (by omega) (by omega) (by rw [hz2]; omega) (by omega)
  rw [hz1] at h
  exact h
theorem mk27 (w : World) : (Instr.makeSlice 27 (.int .i64 900) (.int .i64 900)).run Tryd.prog w = .ok (.slice (some ⟨w.heap.size, 0, none⟩) 900 900) (w.alloc (.cells (madeCells #[.int .i64 0] 900) 3)) := by
  obtain ⟨i0, hi, hz0, hz1, hz2⟩ := info3_parts
  have h := run_make (P := Tryd.prog) w 27 3 i0 (.int .i64 0) Tryd.underlying27 hi hz0 .i64 .i64 900 900 (by omega) (by omega) (by rw [hz2]; omega) (by omega)
  rw [hz1] at h
  exact h
theorem made_at (z : Value) {i : Nat} (hi : i < 900) : (madeCells #[z] 900)[i]? = some z := by simp [madeCells, hi, Nat.mod_one]
attribute [local go_sem] Oper.semAt_some
set_option maxRecDepth 100000 in
set_option maxHeartbeats 16000000 in
theorem modelLaw_any (pp : Option Addr) (acts : List (Int × Int × Int)) (cp : Nat) (w : World) (ho : NamesAt w) (hA : ActsAt w pp acts) (hF : ActsFit acts) (hL : acts.length ≤ 9223372036854775807) :
    Calls Tryd.prog 3 #[.slice pp acts.length cp] w fun r w' => r = .returned (.bool true) ∧ Below w.heap.size w w' := by
  have HN : Hid (NamesAt w) := ho
  have HP : Hid (ActsAt w pp acts ∧ ActsFit acts ∧ acts.length ≤ 9223372036854775807) := ⟨hA, hF, hL⟩
  clear ho hA hF hL
  refine (callsIn_wide (n := 6)).1 ?_
  refine callsIn_of_wp_marks Tryd.func3 rfl trivial ?_ rfl
  obtain ⟨R, hR⟩ : ∃ R : Ending → World → Prop, R = fun r w' => r = .returned (.bool true) ∧ Below w.heap.size w w' := ⟨_, rfl⟩
  have HR : Hid (∀ w', Below w.heap.size w w' → R (.returned (.bool true)) w') := fun w' h => by rw [hR]; exact ⟨rfl, h⟩
  rw [← hR]
  clear hR
  obtain ⟨Q, hQ⟩ : ∃ Q, Q = bodyPostM Fence.wide 6 Tryd.prog Tryd.f3 R := ⟨_, rfl⟩
  rw [← hQ]
  have HQ : Hid (Q = bodyPostM Fence.wide 6 Tryd.prog Tryd.f3 R) := hQ
  clear hQ
  simp only [Tryd.ntmps3, List.size_toArray, List.length_cons, List.length_nil, Nat.reduceAdd, Nat.reduceSub, Array.replicate_succ, Array.replicate_zero, List.push_toArray, List.append_toArray, List.nil_append, List.cons_append]
  gi_wp2_with fail
  refine ⟨trivial, (callsIn_wide.2 (known_any _ (HN.out.kept (below1 _ _)))).mono ?_⟩
  rintro r W1 ⟨rfl, b1⟩
  have q1 : Below w.heap.size w W1 := (below1 _ _).trans (b1.mono (by simp))
  have hr1 : W1.heap[w.heap.size]? = some (.cells #[.bool false] 4 (0, 0)) := (b1.block w.heap.size (by simp)).trans (heap_alloc_new _ _)
  have H1 : Hid (Below w.heap.size w W1 ∧ W1.heap[w.heap.size]? = some (.cells #[.bool false] 4 (0, 0))) := ⟨q1, hr1⟩
  clear b1 q1 hr1
  gi_wp2_with fail
  refine ⟨trivial, (callsIn_wide.2 (new_any 4 W1)).mono ?_⟩
  rintro r W2 ⟨m, G, rfl, k2, b2, o2⟩
  have H2 : Hid (St w m W2 [] G ∧ W2.heap[w.heap.size]? = some (.cells #[.bool false] 4 (0, 0))) := ⟨⟨H1.out.1.trans (b2.mono H1.out.1.size), k2, fun b hb => Nat.le_trans H1.out.1.size (o2 b hb)⟩, (b2.block _ (row_ltT H1.out.2)).trans H1.out.2⟩
  clear k2 b2 o2 H1
  gi_wp2_with fail
  rw [mk26]
  gi_wp2_with fail
  rw [mk27]
  gi_wp2_with fail
  rename_i K0 hK0
  have HK0 : Hid _ := hK0
  clear hK0
  obtain ⟨S, hS⟩ : ∃ S, W2.heap.size = S := ⟨_, rfl⟩
  obtain ⟨A1, h1⟩ : ∃ X, X = W2.alloc (.cells (madeCells #[.bool false] 900) 4) := ⟨_, rfl⟩
  have s1 : A1.heap.size = S + 1 := by rw [h1, ← hS]; simp
  have b1 : Below W2.heap.size W2 A1 := by rw [h1]; exact below1 _ _
  have r1 : A1.heap[S]? = some (.cells (madeCells #[.bool false] 900) 4 (0, 0)) := by rw [h1, ← hS]; exact heap_alloc_new _ _
  obtain ⟨A2, h2⟩ : ∃ X, X = A1.alloc (.cells (madeCells #[.int .i64 0] 900) 3) := ⟨_, rfl⟩
  have s2 : A2.heap.size = S + 2 := by rw [h2, World.size_alloc, s1]
  have b2 : Below A1.heap.size A1 A2 := by rw [h2]; exact below1 _ _
  have r2 : A2.heap[S + 1]? = some (.cells (madeCells #[.int .i64 0] 900) 3 (0, 0)) := by rw [h2, ← s1]; exact heap_alloc_new _ _
  obtain ⟨A3, h3⟩ : ∃ X, X = A2.alloc (.cells #[.slice (some ⟨S + 1, 0, none⟩) 900 900] 27) := ⟨_, rfl⟩
  have s3 : A3.heap.size = S + 3 := by rw [h3, World.size_alloc, s2]
  have b3 : Below A2.heap.size A2 A3 := by rw [h3]; exact below1 _ _
  have r3 : A3.heap[S + 2]? = some (.cells #[.slice (some ⟨S + 1, 0, none⟩) 900 900] 27 (0, 0)) := by rw [h3, ← s2]; exact heap_alloc_new _ _
  obtain ⟨A4, h4⟩ : ∃ X, X = A3.alloc (.cells #[.slice none 0 0] 27) := ⟨_, rfl⟩
  have b4 : Below A3.heap.size A3 A4 := by rw [h4]; exact below1 _ _
  have r4 : A4.heap[S + 3]? = some (.cells #[.slice none 0 0] 27 (0, 0)) := by rw [h4, ← s3]; exact heap_alloc_new _ _
  have q4 : Below W2.heap.size W2 A4 := b1.trans ((b2.mono (by omega)).trans ((b3.mono (by omega)).trans (b4.mono (by omega))))
  have hz := row_ltT H2.out.2
  have hM : MC w m S [] G (fun _ => 0) [] (fun i => decide (i ∈ ([] : List Nat))) (fun _ => 0) (.slice none 0 0) A4 :=
    ⟨H2.out.1.later q4, trivial, List.nodup_nil, OffE.nil, (q4.block _ hz).trans H2.out.2,
      ⟨_, (b4.block _ (by omega)).trans ((b3.block _ (by omega)).trans ((b2.block _ (by omega)).trans r1)), fun i hi => by rw [made_at _ hi]; simp⟩,
      ⟨_, (b4.block _ (by omega)).trans ((b3.block _ (by omega)).trans r2), fun i hi => made_at _ hi⟩, (b4.block _ (by omega)).trans r3, r4, by omega⟩
  rw [hS, ← h1, ← h2, ← h3, ← h4]
  clear h1 h2 h3 h4 s1 s2 s3 b1 b2 b3 b4 r1 r2 r3 r4 q4 hz hS
  refine loopM_any (by kernel_rfl) hM RowI.nil HN.out HP.out.1 HP.out.2.1 HP.out.2.2 ?_
  intros
  rename_i es2 G2 vals2 ns2 ov2 W3 m1 m2 m3
  refine HK0.out _ _ ?_
  rw [HQ.out]
  exact tailA_any (by kernel_rfl) m1 m2 m3 HR.out
end Go.Proofs.YtflonmlnedkmjaaDoor
namespace Go.Proofs.YtflonmlnedkmjaaDoor
open Go.ChangeShapes Go.WideShapes Go.RowKit Go.Deep
theorem cells30 : Tryd.prog.cellsOf 30 = 3 := by kernel_rfl
set_option maxRecDepth 100000 in
/-- What reads as an act is one. -/
theorem open_act {H : Type} {enc : TypeId × Value → H} {W : World} {base : Nat} {spare : Nat → Bool} {held : Bool} {fuel : Nat} {cs : List Value} {x : DataW H × List MemPlace}
    (h : DataW.trod enc Tryd.prog W base spare held fuel 30 cs = some x) : ∃ a : Int × Int × Int, cs = [.int .i64 a.1, .int .i64 a.2.1, .int .i64 a.2.2] ∧ (-9223372036854775808 ≤ a.1 ∧ a.1 ≤ 9223372036854775807) ∧ (-9223372036854775808 ≤ a.2.1 ∧ a.2.1 ≤ 9223372036854775807) ∧ (-9223372036854775808 ≤ a.2.2 ∧ a.2.2 ≤ 9223372036854775807) := by
  obtain ⟨xs, n, rfl, hxy, hlen, hxl, hfl⟩ := DataW.trod_struct Tryd.underlying30 h
  rw [cells30] at hlen
  have hxl' : xs.length = 3 := hxl
  clear hxl
  match cs, hlen, xs, hxl' with
  | [v0, v1, v2], _, [y0, y1, y2], _ =>
    have g0 := hfl 0 _ rfl
    have g1 := hfl 1 _ rfl
    have g2 := hfl 2 _ rfl
    simp [cells3] at g0 g1 g2
    obtain ⟨a, ha, _, haw⟩ := DataW.trod_int Tryd.underlying3 g0
    obtain ⟨b, hb, _, hbw⟩ := DataW.trod_int Tryd.underlying3 g1
    obtain ⟨c, hc, _, hcw⟩ := DataW.trod_int Tryd.underlying3 g2
    simp only [List.cons.injEq, and_true] at ha hb hc
    subst ha hb hc
    exact ⟨(a, b, c), rfl, wf_i64 haw, wf_i64 hbw, wf_i64 hcw⟩
set_option maxRecDepth 100000 in
/-- What reads as a list of acts is one. -/
theorem open_acts_row {H : Type} {enc : TypeId × Value → H} {W : World} {base : Nat} {spare : Nat → Bool} {held : Bool} {fuel : Nat} {cs : List Value} {x : DataW H × List MemPlace}
    (h : DataW.trod enc Tryd.prog W base spare held fuel 22 cs = some x) : ∃ (pp : Option Addr) (acts : List (Int × Int × Int)) (c : Nat), cs = [.slice pp acts.length c] ∧ acts.length ≤ c ∧ c ≤ maxLen ∧ ActsFit acts ∧ ActsAt W pp acts := by
  rcases DataW.trod_slice Tryd.underlying22 h with ⟨hv, _⟩ | ⟨a, len, cap, elems, rest, m, hm, hcs, _, _, hl, hcap, hel, hall, _, _⟩
  · exact ⟨none, [], 0, hv, Nat.le_refl _, Nat.zero_le _, fun z hz => (by cases hz), .inl rfl⟩
  · have each : ∀ i, i < len → ∃ z : Int × Int × Int, (W.cell? ⟨a.block, a.off + i * 3, none⟩ = some (.int .i64 z.1) ∧ W.cell? ⟨a.block, a.off + i * 3 + 1, none⟩ = some (.int .i64 z.2.1) ∧ W.cell? ⟨a.block, a.off + i * 3 + 2, none⟩ = some (.int .i64 z.2.2)) ∧ ((-9223372036854775808 ≤ z.1 ∧ z.1 ≤ 9223372036854775807) ∧ (-9223372036854775808 ≤ z.2.1 ∧ z.2.1 ≤ 9223372036854775807) ∧ (-9223372036854775808 ≤ z.2.2 ∧ z.2.2 ≤ 9223372036854775807)) ∧ (i = 0 → a = ⟨a.block, a.off, none⟩ ∧ a.block < W.heap.size) := by
      intro i hi
      have key := hall i hi
      rw [List.getElem?_eq_getElem (by omega), cells30] at key
      obtain ⟨cs', h1, h2⟩ := Option.bind_eq_some_iff.1 key
      obtain ⟨z, rfl, hz⟩ := open_act h2
      obtain ⟨_, _, hcell⟩ := World.cells?_some h1
      have e0 := hcell 0 (by omega)
      have e1 := hcell 1 (by omega)
      have e2 := hcell 2 (by omega)
      rw [add_add] at e0 e1 e2
      simp only [Nat.add_zero, List.getElem?_cons_zero, List.getElem?_cons_succ] at e0 e1 e2
      refine ⟨z, ⟨add_flat e0, by have := add_flat e1; rwa [← Nat.add_assoc] at this, by have := add_flat e2; rwa [← Nat.add_assoc] at this⟩, hz, fun h0 => ?_⟩
      subst h0
      have e3 : a.add (0 * 3) = a := by unfold Addr.add; rw [if_pos rfl]
      rw [e3] at e0
      exact ⟨spot_of_cell e0, block_of_cell e0⟩
    obtain ⟨f, hf⟩ := choose_lt each
    refine ⟨some a, (List.range len).map f, cap, by simpa using hcs, by simpa using hl, hcap, fun z hz => ?_, ?_⟩
    · obtain ⟨i, hi, rfl⟩ := List.mem_map.1 hz
      exact (hf i (List.mem_range.1 hi)).2.1
    · rcases Nat.eq_zero_or_pos len with h0 | h0
      · subst h0; exact .inl rfl
      · obtain ⟨hs0, hb0⟩ := (hf 0 h0).2.2 rfl
        refine .inr ⟨a.block, a.off, by rw [← hs0], hb0, fun i hi => ?_⟩
        have hi' : i < len := by simpa using hi
        simpa using (hf i hi').1
set_option maxRecDepth 100000 in
theorem open_acts {H : Type} {enc : TypeId × Value → H} {W : World} {base : Nat} {spare : Nat → Bool} {held : Bool} {v : Value} {x : DataW H} {ps : List MemPlace} {r : Reach} {b0 : Nat} (hval : Value.okWide Tryd.prog W r b0 22 v)
    (h : DataW.Trod enc Tryd.prog W base spare held 22 v x ps) : ∃ (pp : Option Addr) (acts : List (Int × Int × Int)) (c : Nat), v = .slice pp acts.length c ∧ acts.length ≤ c ∧ c ≤ maxLen ∧ ActsFit acts ∧ ActsAt W pp acts := by
  obtain ⟨fuel, hf⟩ := h
  obtain ⟨pp, acts, c, hv, h1, h2, h3, h4⟩ := open_acts_row hf
  refine ⟨pp, acts, c, ?_, h1, h2, h3, h4⟩
  obtain ⟨ad, len, cap, rfl⟩ := okWide_slice Tryd.underlying22 hval
  simpa [Value.cells] using hv
end Go.Proofs.YtflonmlnedkmjaaDoor
