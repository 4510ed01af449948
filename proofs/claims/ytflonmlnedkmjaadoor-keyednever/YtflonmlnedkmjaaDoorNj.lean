/-
  The second loop of KeyedNever.
-/
import Derived.Test.YtflonmlnedkmjaaDoorNi
namespace Go.Proofs.YtflonmlnedkmjaaDoor
open Go.RowKit Go.Shelf
noncomputable def midC : Code := sec 8 (Tryd.f4.body.getD .skip)
noncomputable def loop2C : Code := (firstLoop midC).getD .skip
variable {o W : World} {m : Nat} {es0 : List Ent} {G0 : KG} {N : MD} {l : List Int} {c : Nat}
theorem z_get (hS : St o m W es0 G0) (ho : NamesAt o) (hNaN : NaN N) (hKN : KN N l es0 c) {z : Int} (hz : z ∈ l) (h3 : z % 3 ≠ 0) (z0 : -9223372036854775808 ≤ z) (z1 : z ≤ 9223372036854775807) : Calls Tryd.prog 12 #[.pointer (some ⟨m, 0, none⟩), (wholeD z).val] W fun r W' => (∃ d : MD, r = .returned (.tuple #[d.val, .bool true, .nilIface]) ∧ d.h.n = z) ∧ Below W.heap.size W W' :=
  (get_good hS.map (ho.kept hS.old) (wIn W z z0 z1) (whole_right z) (whole_key z)).mono fun r W' hp => by
    rcases hp with ⟨_, e2, _⟩ | ⟨e, he, e1, d, e2, e3, _, e5⟩
    · obtain ⟨e, he, q⟩ := hKN.has z hz h3
      have := e2 e he
      rw [ek q] at this
      exact absurd this (by simp)
    · exact ⟨⟨d, e2, (same_parts (same_trans 4 _ _ _ (hKN.at hNaN he e1).2 e3)).2.2.1⟩, e5⟩
attribute [local go_sem] Oper.semAt_some
set_option maxRecDepth 100000 in
set_option maxHeartbeats 16000000 in
theorem loop2_any {mb : Nat} {pp : Option Addr} {zs : List Int} {cp : Nat} {Q : Exit → Act → World → Prop} {c0 c1 c3 c4 c5 c7 c8 c9 c10 c11 c12 c13 c14 c15 c16 c18 c19 c20 c21 c22 c23 c24 c25 c26 c27 c28 c29 c30 c31 c32 c33 c34 c35 c36 c37 c38 c39 c40 c41 c42 c43 c44 c45 c46 c47 c48 c49 c50 c51 c52 c53 c54 c55 c56 c57 c58 c59 c60 c61 c62 c63 c64 c65 c66 c67 c68 c69 c70 c71 c72 c73 c74 c75 c76 c77 c78 c79 c80 c81 c82 c83 c84 c85 c86 c87 c88 c89 c90 c91 c92 c93 c94 c95 c96 c97 c98 c99 c100 c101 c102 c103 c104 c105 c106 c107 c108 c109 c110 c111 c112 c113 c114 c115 c116 c117 c118 c119 c120 c121 c122 c123 c124 c125 c126 c127 c128 c129 c130 c131 c132 c133 c134 c135 c136 c137 c138 c139 c140 c141 c142 c143 c144 c145 c146 c147 c148 c149 c150 c151 c152 c153 c154 c155 c156 c157 c158 c159 c160 c161 c162 c163 c164 c165 c166 c167 c168 c169 c170 c171 c172 c173 c174 c175 c176 c177 c178 c179 c180 c181 c182 c183 c184 c185 c186 c187 c188 c189 c190 c191 c192 c193 c194 c195 c196 c197 c198 c199 c200 c201 c202 c203 c204 c205 c206 c207 : Value}
    (hcl : W.cell? ⟨o.heap.size, 0, none⟩ = some (.slice pp zs.length cp)) (hzl0 : o.heap.size < W.heap.size) (hcm : W.cell? ⟨mb, 0, none⟩ = some (.pointer (some ⟨m, 0, none⟩))) (hzm : mb < W.heap.size) (hzl : zs.length ≤ 9223372036854775807)
    (hZ : zs = [] ∨ ∃ b f, pp = some ⟨b, f, none⟩ ∧ b < W.heap.size ∧ ∀ (i : Nat) (hi : i < zs.length), W.cell? ⟨b, f + i, none⟩ = some (.int .i64 zs[i]))
    (hG : ∀ z ∈ zs.take 100, z % 3 ≠ 0 → ∀ W', Below W.heap.size W W' → Calls Tryd.prog 12 #[.pointer (some ⟨m, 0, none⟩), (wholeD z).val] W' fun r W'' => (∃ d : MD, r = .returned (.tuple #[d.val, .bool true, .nilIface]) ∧ d.h.n = z) ∧ Below W'.heap.size W' W'')
    (hend : ∀ {u17 u18 u19 u20 u111 u112 u113 u114 u115 u116 u117 u118 u119 u120 u121 u122 u123 u124 u125 u126 u127 u128 u129 u130 u131 u132 u133 u134 u135 u136 u137 u138 u139 u140 u141 u142 u143 u144 u145 u146 u147 u148 u149 u150 u151 u152 : Value} (W' : World), Below W.heap.size W W' → Q .normal ⟨List.toArray [c0, c1, .pointer (some ⟨o.heap.size, 0, none⟩), c3, c4, c5, .pointer (some ⟨mb, 0, none⟩), c7, c8, c9, c10, c11, c12, c13, c14, c15, c16, u17, u18, u19, u20, c21, c22, c23, c24, c25, c26, c27, c28, c29, c30, c31, c32, c33, c34, c35, c36, c37, c38, c39, c40, c41, c42, c43, c44, c45, c46, c47, c48, c49, c50, c51, c52, c53, c54, c55, c56, c57, c58, c59, c60, c61, c62, c63, c64, c65, c66, c67, c68, c69, c70, c71, c72, c73, c74, c75, c76, c77, c78, c79, c80, c81, c82, c83, c84, c85, c86, c87, c88, c89, c90, c91, c92, c93, c94, c95, c96, c97, c98, c99, c100, c101, c102, c103, c104, c105, c106, c107, c108, c109, c110, u111, u112, u113, u114, u115, u116, u117, u118, u119, u120, u121, u122, u123, u124, u125, u126, u127, u128, u129, u130, u131, u132, u133, u134, u135, u136, u137, u138, u139, u140, u141, u142, u143, u144, u145, u146, u147, u148, u149, u150, u151, u152, c153, c154, c155, c156, c157, c158, c159, c160, c161, c162, c163, c164, c165, c166, c167, c168, c169, c170, c171, c172, c173, c174, c175, c176, c177, c178, c179, c180, c181, c182, c183, c184, c185, c186, c187, c188, c189, c190, c191, c192, c193, c194, c195, c196, c197, c198, c199, c200, c201, c202, c203, c204, c205, c206, c207], []⟩ W') :
    (Code.loop loop2C).wpIn Fence.wide 6 Tryd.prog (Exit.inBlock 2 Q) ⟨List.toArray [c0, c1, .pointer (some ⟨o.heap.size, 0, none⟩), c3, c4, c5, .pointer (some ⟨mb, 0, none⟩), c7, c8, c9, c10, c11, c12, c13, c14, c15, c16, .int .i64 0, c18, c19, c20, c21, c22, c23, c24, c25, c26, c27, c28, c29, c30, c31, c32, c33, c34, c35, c36, c37, c38, c39, c40, c41, c42, c43, c44, c45, c46, c47, c48, c49, c50, c51, c52, c53, c54, c55, c56, c57, c58, c59, c60, c61, c62, c63, c64, c65, c66, c67, c68, c69, c70, c71, c72, c73, c74, c75, c76, c77, c78, c79, c80, c81, c82, c83, c84, c85, c86, c87, c88, c89, c90, c91, c92, c93, c94, c95, c96, c97, c98, c99, c100, c101, c102, c103, c104, c105, c106, c107, c108, c109, c110, c111, c112, c113, c114, c115, c116, c117, c118, c119, c120, c121, c122, c123, c124, c125, c126, c127, c128, c129, c130, c131, c132, c133, c134, c135, c136, c137, c138, c139, c140, c141, c142, c143, c144, c145, c146, c147, c148, c149, c150, c151, c152, c153, c154, c155, c156, c157, c158, c159, c160, c161, c162, c163, c164, c165, c166, c167, c168, c169, c170, c171, c172, c173, c174, c175, c176, c177, c178, c179, c180, c181, c182, c183, c184, c185, c186, c187, c188, c189, c190, c191, c192, c193, c194, c195, c196, c197, c198, c199, c200, c201, c202, c203, c204, c205, c206, c207], []⟩ W := by
  have HZG : Hid (∀ z ∈ zs.take 100, z % 3 ≠ 0 → ∀ W', Below W.heap.size W W' → Calls Tryd.prog 12 #[.pointer (some ⟨m, 0, none⟩), (wholeD z).val] W' fun r W'' => (∃ d : MD, r = .returned (.tuple #[d.val, .bool true, .nilIface]) ∧ d.h.n = z) ∧ Below W'.heap.size W' W'') := hG
  have HZ : Hid (zs = [] ∨ ∃ b f, pp = some ⟨b, f, none⟩ ∧ b < W.heap.size ∧ ∀ (i : Nat) (hi : i < zs.length), W.cell? ⟨b, f + i, none⟩ = some (.int .i64 zs[i])) := hZ
  have HEND : Hid (∀ {u17 u18 u19 u20 u111 u112 u113 u114 u115 u116 u117 u118 u119 u120 u121 u122 u123 u124 u125 u126 u127 u128 u129 u130 u131 u132 u133 u134 u135 u136 u137 u138 u139 u140 u141 u142 u143 u144 u145 u146 u147 u148 u149 u150 u151 u152 : Value} (W' : World), Below W.heap.size W W' → Q .normal ⟨List.toArray [c0, c1, .pointer (some ⟨o.heap.size, 0, none⟩), c3, c4, c5, .pointer (some ⟨mb, 0, none⟩), c7, c8, c9, c10, c11, c12, c13, c14, c15, c16, u17, u18, u19, u20, c21, c22, c23, c24, c25, c26, c27, c28, c29, c30, c31, c32, c33, c34, c35, c36, c37, c38, c39, c40, c41, c42, c43, c44, c45, c46, c47, c48, c49, c50, c51, c52, c53, c54, c55, c56, c57, c58, c59, c60, c61, c62, c63, c64, c65, c66, c67, c68, c69, c70, c71, c72, c73, c74, c75, c76, c77, c78, c79, c80, c81, c82, c83, c84, c85, c86, c87, c88, c89, c90, c91, c92, c93, c94, c95, c96, c97, c98, c99, c100, c101, c102, c103, c104, c105, c106, c107, c108, c109, c110, u111, u112, u113, u114, u115, u116, u117, u118, u119, u120, u121, u122, u123, u124, u125, u126, u127, u128, u129, u130, u131, u132, u133, u134, u135, u136, u137, u138, u139, u140, u141, u142, u143, u144, u145, u146, u147, u148, u149, u150, u151, u152, c153, c154, c155, c156, c157, c158, c159, c160, c161, c162, c163, c164, c165, c166, c167, c168, c169, c170, c171, c172, c173, c174, c175, c176, c177, c178, c179, c180, c181, c182, c183, c184, c185, c186, c187, c188, c189, c190, c191, c192, c193, c194, c195, c196, c197, c198, c199, c200, c201, c202, c203, c204, c205, c206, c207], []⟩ W') := hend
  have hL : (zs.take 100).length = min 100 zs.length := List.length_take
  clear hG hZ hend
  unfold loop2C midC
  simp only [Tryd.f4, Option.getD, sec, firstLoop]
  gi_loopg [17] (zs.take 100).length (fun gk i wr => ∃ j : Nat, gk + j = (zs.take 100).length ∧ i = .int .i64 j ∧ Hid (Below W.heap.size W wr))
  case atStart => exact ⟨0, by omega, rfl, Below.refl _ _⟩
  case round =>
    obtain ⟨j, hj, rfl, HR⟩ := hrel
    have hclr := (HR.out.cell (p := ⟨o.heap.size, 0, none⟩) hzl0).trans hcl
    have hcmr := (HR.out.cell (p := ⟨mb, 0, none⟩) hzm).trans hcm
    have hzr := HR.out.size
    by_cases hlt : j < (zs.take 100).length
    · have i0 : j < zs.length := by omega
      have i1 : (j : Int) < zs.length := by omega
      have i2 : (j : Int) < 100 := by omega
      obtain ⟨b, f, hpp, hbz, hczA⟩ : ∃ b f, pp = some ⟨b, f, none⟩ ∧ b < W.heap.size ∧ ∀ (i : Nat) (hi : i < zs.length), W.cell? ⟨b, f + i, none⟩ = some (.int .i64 zs[i]) := by
        rcases HZ.out with q | q
        · rw [q] at i0; cases i0
        · exact q
      obtain ⟨z, hz⟩ : ∃ z, z = zs[j] := ⟨_, rfl⟩
      have hcz := hczA j i0
      rw [← hz] at hcz
      have hczr := (HR.out.cell (p := ⟨b, f + j, none⟩) hbz).trans hcz
      have HZJ : Hid (z ∈ zs.take 100) := by
        refine List.mem_of_getElem? (i := j) ?_
        rw [List.getElem?_take_of_lt (by omega), List.getElem?_eq_getElem i0, hz]
      have HM : Hid (gk + j = (zs.take 100).length) := hj
      have z0r : o.heap.size < wr.heap.size := by omega
      have zmr : mb < wr.heap.size := by omega
      have zbr : b < wr.heap.size := by omega
      subst hpp
      clear hz hj hL hczA
      by_cases h3 : z.tmod 3 = 0
      · gi_wp2_with fail
        gi_roundg ((zs.take 100).length - (j + 1))
        case measure => have := HM.out; omega
        case rel => exact ⟨j + 1, by omega, by go_num, HR.out⟩
      · have HN3 : Hid (z % 3 ≠ 0) := fun q => h3 ((tmod3 z).2 q)
        have HC : Hid (∀ W', Below W.heap.size W W' → Calls Tryd.prog 12 #[.pointer (some ⟨m, 0, none⟩), (wholeD z).val] W' fun r W'' => (∃ d : MD, r = .returned (.tuple #[d.val, .bool true, .nilIface]) ∧ d.h.n = z) ∧ Below W'.heap.size W' W'') := HZG.out z HZJ.out HN3.out
        gi_wp2_with fail
        refine wpIn_wide.2 ?_
        refine wp_region_noPanic ?_
        refine wp_region_held (S := fun W => W.cell? ⟨o.heap.size, 0, none⟩ = some (.slice (some ⟨b, f, none⟩) zs.length cp) ∧ W.cell? ⟨mb, 0, none⟩ = some (.pointer (some ⟨m, 0, none⟩)) ∧ W.cell? ⟨b, f + j, none⟩ = some (.int .i64 z)) (by kernel_rfl) ?_
        obtain ⟨W4, hW4⟩ : ∃ W4, W4 = (wr).drew := ⟨_, rfl⟩
        have e4 : ({ wr with drawn := (wr).drawn + 1 } : World) = W4 := hW4.symm
        rw [e4]
        have hB4 : Below (wr).heap.size (wr) W4 := by rw [hW4]; exact (Below.refl _ _).drew
        have hS : W4.cell? ⟨o.heap.size, 0, none⟩ = some (.slice (some ⟨b, f, none⟩) zs.length cp) ∧ W4.cell? ⟨mb, 0, none⟩ = some (.pointer (some ⟨m, 0, none⟩)) ∧ W4.cell? ⟨b, f + j, none⟩ = some (.int .i64 z) := ⟨((HR.out.trans (hB4.mono HR.out.size)).cell (p := ⟨o.heap.size, 0, none⟩) hzl0).trans hcl, ((HR.out.trans (hB4.mono HR.out.size)).cell (p := ⟨mb, 0, none⟩) hzm).trans hcm, ((HR.out.trans (hB4.mono HR.out.size)).cell (p := ⟨b, f + j, none⟩) hbz).trans hcz⟩
        have HW4 : Hid (W4 = (wr).drew) := hW4
        clear e4 hW4
        have HBW4 : Hid (Below W.heap.size W W4) := HR.out.trans (hB4.mono HR.out.size)
        clear hB4 HW4
        refine wpAnyH_take (i := 2) (v := .int .i64 (j : Nat)) rfl (by kernel_rfl) (by kernel_rfl) (by kernel_rfl) (fun _ _ _ h => h) (Or.inl ⟨by rfl, ?r⟩) hS ?_
        case r => intro W hW; simp [go_sem, execOp, Act.eval]
        simp only [List.getElem_toArray, List.getElem_cons_zero, List.getElem_cons_succ, Act.put, List.setIfInBounds_toArray, List.set_cons_succ, List.set_cons_zero]
        refine wpAnyH_take (i := 0) (v := .pointer (some ⟨m, 0, none⟩)) rfl (by kernel_rfl) (by kernel_rfl) (by kernel_rfl) (fun _ _ _ h => h) (Or.inl ⟨by rfl, ?r⟩) hS ?_
        case r => intro W hW; simp [go_sem, execOp, Act.eval, hW.2.1]
        simp only [List.getElem_toArray, List.getElem_cons_zero, Act.put, List.setIfInBounds_toArray, List.set_cons_succ, List.set_cons_zero]
        refine wpAnyH_take (i := 1) (v := .slice (some ⟨b, f, none⟩) zs.length cp) rfl (by kernel_rfl) (by kernel_rfl) (by kernel_rfl) (fun _ _ _ h => h) (Or.inl ⟨by rfl, ?r⟩) hS ?_
        case r => intro W hW; simp [go_sem, execOp, Act.eval, hW.1]
        simp only [List.getElem_toArray, List.getElem_cons_zero, List.getElem_cons_succ, Act.put, List.setIfInBounds_toArray, List.set_cons_succ, List.set_cons_zero]
        refine wpAnyH_take (i := 3) (v := .pointer (some ⟨b, f + j, none⟩)) rfl (by kernel_rfl) (by kernel_rfl) (by kernel_rfl) (fun _ _ _ h => h) (Or.inl ⟨by rfl, ?r⟩) hS ?_
        case r => intro W hW; simp [go_sem, execOp, Act.eval, i1]
        simp only [List.getElem_toArray, List.getElem_cons_zero, List.getElem_cons_succ, Act.put, List.setIfInBounds_toArray, List.set_cons_succ, List.set_cons_zero]
        refine wpAnyH_take (i := 4) (v := .int .i64 z) rfl (by kernel_rfl) (by kernel_rfl) (by kernel_rfl) (fun _ _ _ h => h) (Or.inl ⟨by rfl, ?r⟩) hS ?_
        case r => intro W hW; simp [go_sem, execOp, Act.eval, hW.2.2]
        simp only [List.getElem_toArray, List.getElem_cons_zero, List.getElem_cons_succ, Act.put, List.setIfInBounds_toArray, List.set_cons_succ, List.set_cons_zero]
        refine wpAnyH_all (rs := [5, 11]) (by kernel_rfl) (by simp) (fun i2 hi2 => ?_)
        rcases (by simpa using hi2 : i2 = 5 ∨ i2 = 11) with rfl | rfl
        · clear hi2
          refine wpOp_step rfl (fun K hK => ite_yes rfl ?_)
          simp only [List.getElem_toArray, List.getElem_cons_zero, List.getElem_cons_succ]
          go_simp
          refine (whole_val z _).mono ?_
          rintro r W5 ⟨rfl, bW5⟩
          have bbW5 : Below W.heap.size W W5 := HBW4.out.trans (bW5.mono HBW4.out.size)
          go_simp
          have HBW5 : Hid (Below W.heap.size W W5) := bbW5
          have hSW5 : W5.cell? ⟨o.heap.size, 0, none⟩ = some (.slice (some ⟨b, f, none⟩) zs.length cp) ∧ W5.cell? ⟨mb, 0, none⟩ = some (.pointer (some ⟨m, 0, none⟩)) ∧ W5.cell? ⟨b, f + j, none⟩ = some (.int .i64 z) := ⟨(bbW5.cell (p := ⟨o.heap.size, 0, none⟩) hzl0).trans hcl, (bbW5.cell (p := ⟨mb, 0, none⟩) hzm).trans hcm, (bbW5.cell (p := ⟨b, f + j, none⟩) hbz).trans hcz⟩
          refine hK _ _ ⟨hSW5, ?_⟩
          clear hK K hS bbW5
          have hS := hSW5
          clear hSW5
          try simp only [Act.put, List.setIfInBounds_toArray, List.set_cons_succ, List.set_cons_zero]
          refine wpAnyH_all (rs := [6, 11]) (by kernel_rfl) (by simp) (fun i2 hi2 => ?_)
          rcases (by simpa using hi2 : i2 = 6 ∨ i2 = 11) with rfl | rfl
          · clear hi2
            refine wpOp_step rfl (fun K hK => ite_yes rfl ?_)
            simp only [List.getElem_toArray, List.getElem_cons_zero, List.getElem_cons_succ]
            go_simp
            refine (HC.out _ HBW5.out).mono ?_
            rintro r W6 ⟨⟨d, rfl, hd⟩, bW6⟩
            have HD : Hid (d.h.n = z) := hd
            clear hd
            have bbW6 : Below W.heap.size W W6 := HBW5.out.trans (bW6.mono HBW5.out.size)
            go_simp
            have HBW6 : Hid (Below W.heap.size W W6) := bbW6
            have hSW6 : W6.cell? ⟨o.heap.size, 0, none⟩ = some (.slice (some ⟨b, f, none⟩) zs.length cp) ∧ W6.cell? ⟨mb, 0, none⟩ = some (.pointer (some ⟨m, 0, none⟩)) ∧ W6.cell? ⟨b, f + j, none⟩ = some (.int .i64 z) := ⟨(bbW6.cell (p := ⟨o.heap.size, 0, none⟩) hzl0).trans hcl, (bbW6.cell (p := ⟨mb, 0, none⟩) hzm).trans hcm, (bbW6.cell (p := ⟨b, f + j, none⟩) hbz).trans hcz⟩
            refine hK _ _ ⟨hSW6, ?_⟩
            clear hK K hS bbW6
            have hS := hSW6
            clear hSW6
            try simp only [Act.put, List.setIfInBounds_toArray, List.set_cons_succ, List.set_cons_zero]
            refine wpAnyH_take (i := 7) (v := .tuple #[d.val, .bool true, .nilIface]) rfl (by kernel_rfl) (by kernel_rfl) (by kernel_rfl) (fun _ _ _ h => h) (Or.inl ⟨by rfl, ?r⟩) hS ?_
            case r => intro W hW; simp [go_sem, execOp, Act.eval]
            simp only [List.getElem_toArray, List.getElem_cons_zero, List.getElem_cons_succ, Act.put, List.setIfInBounds_toArray, List.set_cons_succ, List.set_cons_zero]
            refine wpAnyH_take (i := 8) (v := d.val) rfl (by kernel_rfl) (by kernel_rfl) (by kernel_rfl) (fun _ _ _ h => h) (Or.inl ⟨by rfl, ?r⟩) hS ?_
            case r => intro W hW; simp [go_sem, execOp, Act.eval]
            simp only [List.getElem_toArray, List.getElem_cons_zero, List.getElem_cons_succ, Act.put, List.setIfInBounds_toArray, List.set_cons_succ, List.set_cons_zero]
            refine wpAnyH_take (i := 9) (v := .bool true) rfl (by kernel_rfl) (by kernel_rfl) (by kernel_rfl) (fun _ _ _ h => h) (Or.inl ⟨by rfl, ?r⟩) hS ?_
            case r => intro W hW; simp [go_sem, execOp, Act.eval]
            simp only [List.getElem_toArray, List.getElem_cons_zero, List.getElem_cons_succ, Act.put, List.setIfInBounds_toArray, List.set_cons_succ, List.set_cons_zero]
            refine wpAnyH_take (i := 10) (v := .nilIface) rfl (by kernel_rfl) (by kernel_rfl) (by kernel_rfl) (fun _ _ _ h => h) (Or.inl ⟨by rfl, ?r⟩) hS ?_
            case r => intro W hW; simp [go_sem, execOp, Act.eval]
            simp only [List.getElem_toArray, List.getElem_cons_zero, List.getElem_cons_succ, Act.put, List.setIfInBounds_toArray, List.set_cons_succ, List.set_cons_zero]
            refine wpAnyH_all (rs := [11]) (by kernel_rfl) (by simp) (fun i2 hi2 => ?_)
            obtain rfl : i2 = 11 := by simpa using hi2
            clear hi2
            refine wpOp_step rfl (fun K hK => ite_yes rfl ?_)
            simp only [List.getElem_toArray, List.getElem_cons_zero, List.getElem_cons_succ]
            go_simp
            obtain ⟨W7, hW7⟩ : ∃ X, X = W6.alloc (.cells #[.int .i64 0, .string ⟨#[]⟩, .int .i64 0, .int .u64 0, .string ⟨#[]⟩, .int .i64 0, .int .i64 0, .int .i64 0, .int .i64 0, .slice none 0 0, .slice none 0 0] 39) := ⟨_, rfl⟩
            have haW7 : W7.heap[W6.heap.size]? = some (.cells #[.int .i64 0, .string ⟨#[]⟩, .int .i64 0, .int .u64 0, .string ⟨#[]⟩, .int .i64 0, .int .i64 0, .int .i64 0, .int .i64 0, .slice none 0 0, .slice none 0 0] 39 (0, 0)) ∧ W.heap.size ≤ W6.heap.size := ⟨by rw [hW7]; exact heap_alloc_new _ _, HBW6.out.size⟩
            have bW7 : Below W6.heap.size W6 W7 := by rw [hW7]; exact below1 _ _
            have bbW7 : Below W.heap.size W W7 := HBW6.out.trans (bW7.mono HBW6.out.size)
            rw [← hW7]
            clear hW7
            have HAW7 : Hid (W7.heap[W6.heap.size]? = some (.cells #[.int .i64 0, .string ⟨#[]⟩, .int .i64 0, .int .u64 0, .string ⟨#[]⟩, .int .i64 0, .int .i64 0, .int .i64 0, .int .i64 0, .slice none 0 0, .slice none 0 0] 39 (0, 0)) ∧ W.heap.size ≤ W6.heap.size) := haW7
            have HBW7 : Hid (Below W.heap.size W W7) := bbW7
            have hSW7 : W7.cell? ⟨o.heap.size, 0, none⟩ = some (.slice (some ⟨b, f, none⟩) zs.length cp) ∧ W7.cell? ⟨mb, 0, none⟩ = some (.pointer (some ⟨m, 0, none⟩)) ∧ W7.cell? ⟨b, f + j, none⟩ = some (.int .i64 z) := ⟨(bbW7.cell (p := ⟨o.heap.size, 0, none⟩) hzl0).trans hcl, (bbW7.cell (p := ⟨mb, 0, none⟩) hzm).trans hcm, (bbW7.cell (p := ⟨b, f + j, none⟩) hbz).trans hcz⟩
            refine hK _ _ ⟨hSW7, ?_⟩
            clear hK K hS bbW7
            have hS := hSW7
            clear hSW7
            try simp only [Act.put, List.setIfInBounds_toArray, List.set_cons_succ, List.set_cons_zero]
            have hzA := row_ltT HAW7.out.1
            have hcA := row_at HAW7.out.1
            have hfA := fun j => fz _ _ _ _ j HAW7.out.1
            simp only [MD.val, D]
            refine wpAnyH_all (rs := [12]) (by kernel_rfl) (by simp) (fun i2 hi2 => ?_)
            obtain rfl : i2 = 12 := by simpa using hi2
            clear hi2
            refine wpOp_step rfl (fun K hK => ite_yes rfl ?_)
            simp only [List.getElem_toArray, List.getElem_cons_zero, List.getElem_cons_succ]
            go_simp
            obtain ⟨W8, h8⟩ : ∃ X, X = (((((((((((W7.setCell ⟨W6.heap.size, 0, none⟩ (.int .i64 d.h.k)).setCell ⟨W6.heap.size, 1, none⟩ (.string d.h.t)).setCell ⟨W6.heap.size, 2, none⟩ (.int .i64 d.h.n)).setCell ⟨W6.heap.size, 3, none⟩ (.int .u64 d.h.f)).setCell ⟨W6.heap.size, 4, none⟩ (.string d.h.s)).setCell ⟨W6.heap.size, 5, none⟩ (.int .i64 d.h.r0)).setCell ⟨W6.heap.size, 6, none⟩ (.int .i64 d.h.r1)).setCell ⟨W6.heap.size, 7, none⟩ (.int .i64 d.h.r2)).setCell ⟨W6.heap.size, 8, none⟩ (.int .i64 d.h.r3)).setCell ⟨W6.heap.size, 9, none⟩ (.slice d.h.pp d.h.path.length d.h.pc)).setCell ⟨W6.heap.size, 10, none⟩ (.slice d.ip d.items.length d.ic)) := ⟨_, rfl⟩
            have r8 : W8.heap[W6.heap.size]? = some (.cells #[.int .i64 d.h.k, .string d.h.t, .int .i64 d.h.n, .int .u64 d.h.f, .string d.h.s, .int .i64 d.h.r0, .int .i64 d.h.r1, .int .i64 d.h.r2, .int .i64 d.h.r3, .slice d.h.pp d.h.path.length d.h.pc, .slice d.ip d.items.length d.ic] 39 (0, 0)) := by rw [h8]; exact eleven_row HAW7.out.1 _ _ _ _ _ _ _ _ _ _ _
            have bbW8 : Below W.heap.size W W8 := by rw [h8]; exact bset HBW7.out HAW7.out.2 _ _ _ _ _ _ _ _ _ _ _
            rw [← h8]
            clear h8 hcA hfA hzA
            have hAc : W8.cell? ⟨W6.heap.size, 2, none⟩ = some (.int .i64 z) := by rw [← HD.out]; exact row_at r8 2
            have hAz := row_ltT r8
            clear r8
            have HBW8 : Hid (Below W.heap.size W W8) := bbW8
            have hSW8 : W8.cell? ⟨o.heap.size, 0, none⟩ = some (.slice (some ⟨b, f, none⟩) zs.length cp) ∧ W8.cell? ⟨mb, 0, none⟩ = some (.pointer (some ⟨m, 0, none⟩)) ∧ W8.cell? ⟨b, f + j, none⟩ = some (.int .i64 z) := ⟨(bbW8.cell (p := ⟨o.heap.size, 0, none⟩) hzl0).trans hcl, (bbW8.cell (p := ⟨mb, 0, none⟩) hzm).trans hcm, (bbW8.cell (p := ⟨b, f + j, none⟩) hbz).trans hcz⟩
            refine hK _ _ ⟨hSW8, ?_⟩
            clear hK K hS bbW8
            have hS := hSW8
            clear hSW8
            try simp only [Act.put, List.setIfInBounds_toArray, List.set_cons_succ, List.set_cons_zero]
            refine wpAnyH_take (i := 13) (v := .bool true) rfl (by kernel_rfl) (by kernel_rfl) (by kernel_rfl) (fun _ _ _ h => h) (Or.inl ⟨by rfl, ?r⟩) hS ?_
            case r => intro W hW; simp [go_sem, execOp, Act.eval]
            simp only [List.getElem_toArray, List.getElem_cons_zero, List.getElem_cons_succ, Act.put, List.setIfInBounds_toArray, List.set_cons_succ, List.set_cons_zero]
            refine wpAnyH_take (i := 14) (v := .nilIface) rfl (by kernel_rfl) (by kernel_rfl) (by kernel_rfl) (fun _ _ _ h => h) (Or.inl ⟨by rfl, ?r⟩) hS ?_
            case r => intro W hW; simp [go_sem, execOp, Act.eval]
            simp only [List.getElem_toArray, List.getElem_cons_zero, List.getElem_cons_succ, Act.put, List.setIfInBounds_toArray, List.set_cons_succ, List.set_cons_zero]
            refine wpAnyH_done (by kernel_rfl) ?_ _
            refine NoPanic.normal ?_
            try simp only [Act.put]
            have hS8 := hS
            have hz8 := HBW8.out.size
            clear hS hclr hcmr hczr z0r zmr zbr hzr
            gi_wp2_with fail
            refine wpIn_wide.2 ?_
            refine wp_region_noPanic ?_
            refine wp_region_held (S := fun W => W.cell? ⟨o.heap.size, 0, none⟩ = some (.slice (some ⟨b, f, none⟩) zs.length cp) ∧ W.cell? ⟨b, f + j, none⟩ = some (.int .i64 z) ∧ W.cell? ⟨W6.heap.size, 2, none⟩ = some (.int .i64 z)) (by kernel_rfl) ?_
            obtain ⟨W9, hW9⟩ : ∃ W4, W4 = (W8).drew := ⟨_, rfl⟩
            have e4 : ({ W8 with drawn := (W8).drawn + 1 } : World) = W9 := hW9.symm
            rw [e4]
            have hB4 : Below (W8).heap.size (W8) W9 := by rw [hW9]; exact (Below.refl _ _).drew
            have hS : W9.cell? ⟨o.heap.size, 0, none⟩ = some (.slice (some ⟨b, f, none⟩) zs.length cp) ∧ W9.cell? ⟨b, f + j, none⟩ = some (.int .i64 z) ∧ W9.cell? ⟨W6.heap.size, 2, none⟩ = some (.int .i64 z) := ⟨(hB4.cell (p := ⟨o.heap.size, 0, none⟩) (Nat.lt_of_lt_of_le hzl0 hz8)).trans hS8.1, (hB4.cell (p := ⟨b, f + j, none⟩) (Nat.lt_of_lt_of_le hbz hz8)).trans hS8.2.2, (hB4.cell (p := ⟨W6.heap.size, 2, none⟩) hAz).trans hAc⟩
            have HW9 : Hid (W9 = (W8).drew) := hW9
            clear e4 hW9
            have HB9 : Hid (Below W.heap.size W W9) := HBW8.out.trans (hB4.mono HBW8.out.size)
            clear hB4 HW9
            refine wpAnyH_take (i := 0) (v := .bool true) rfl (by kernel_rfl) (by kernel_rfl) (by kernel_rfl) (fun _ _ _ h => h) (Or.inl ⟨by rfl, ?r⟩) hS ?_
            case r => intro W hW; simp [go_sem, execOp, Act.eval]
            simp only [List.getElem_toArray, List.getElem_cons_zero, Act.put, List.setIfInBounds_toArray, List.set_cons_succ, List.set_cons_zero]
            refine wpAnyH_take (i := 1) (v := .bool false) rfl (by kernel_rfl) (by kernel_rfl) (by kernel_rfl) (fun _ _ _ h => h) (Or.inl ⟨by rfl, ?r⟩) hS ?_
            case r => intro W hW; simp [go_sem, execOp, Act.eval]
            simp only [List.getElem_toArray, List.getElem_cons_zero, List.getElem_cons_succ, Act.put, List.setIfInBounds_toArray, List.set_cons_succ, List.set_cons_zero]
            refine wpAnyH_take (i := 2) (v := .bool false) rfl (by kernel_rfl) (by kernel_rfl) (by kernel_rfl) (fun _ _ _ h => h) (Or.inl ⟨by rfl, ?r⟩) hS ?_
            case r => intro W hW; simp [go_sem, execOp, Act.eval]
            simp only [List.getElem_toArray, List.getElem_cons_zero, List.getElem_cons_succ, Act.put, List.setIfInBounds_toArray, List.set_cons_succ, List.set_cons_zero]
            refine wpAnyH_take (i := 3) (v := .nilIface) rfl (by kernel_rfl) (by kernel_rfl) (by kernel_rfl) (fun _ _ _ h => h) (Or.inl ⟨by rfl, ?r⟩) hS ?_
            case r => intro W hW; simp [go_sem, execOp, Act.eval]
            simp only [List.getElem_toArray, List.getElem_cons_zero, List.getElem_cons_succ, Act.put, List.setIfInBounds_toArray, List.set_cons_succ, List.set_cons_zero]
            refine wpAnyH_take (i := 4) (v := .bool false) rfl (by kernel_rfl) (by kernel_rfl) (by kernel_rfl) (fun _ _ _ h => h) (Or.inl ⟨by rfl, ?r⟩) hS ?_
            case r => intro W hW; simp [go_sem, execOp, Act.eval]
            simp only [List.getElem_toArray, List.getElem_cons_zero, List.getElem_cons_succ, Act.put, List.setIfInBounds_toArray, List.set_cons_succ, List.set_cons_zero]
            refine wpAnyH_take (i := 5) (v := .bool false) rfl (by kernel_rfl) (by kernel_rfl) (by kernel_rfl) (fun _ _ _ h => h) (Or.inl ⟨by rfl, ?r⟩) hS ?_
            case r => intro W hW; simp [go_sem, execOp, Act.eval]
            simp only [List.getElem_toArray, List.getElem_cons_zero, List.getElem_cons_succ, Act.put, List.setIfInBounds_toArray, List.set_cons_succ, List.set_cons_zero]
            refine wpAnyH_take (i := 6) (v := .bool false) rfl (by kernel_rfl) (by kernel_rfl) (by kernel_rfl) (fun _ _ _ h => h) (Or.inl ⟨by rfl, ?r⟩) hS ?_
            case r => intro W hW; simp [go_sem, execOp, Act.eval]
            simp only [List.getElem_toArray, List.getElem_cons_zero, List.getElem_cons_succ, Act.put, List.setIfInBounds_toArray, List.set_cons_succ, List.set_cons_zero]
            refine wpAnyH_take (i := 7) (v := .pointer (some ⟨W6.heap.size, 2, none⟩)) rfl (by kernel_rfl) (by kernel_rfl) (by kernel_rfl) (fun _ _ _ h => h) (Or.inl ⟨by rfl, ?r⟩) hS ?_
            case r => intro W hW; simp [go_sem, execOp, Act.eval]
            simp only [List.getElem_toArray, List.getElem_cons_zero, List.getElem_cons_succ, Act.put, List.setIfInBounds_toArray, List.set_cons_succ, List.set_cons_zero]
            refine wpAnyH_take (i := 8) (v := .int .i64 z) rfl (by kernel_rfl) (by kernel_rfl) (by kernel_rfl) (fun _ _ _ h => h) (Or.inl ⟨by rfl, ?r⟩) hS ?_
            case r => intro W hW; simp [go_sem, execOp, Act.eval, hW.2.2]
            simp only [List.getElem_toArray, List.getElem_cons_zero, List.getElem_cons_succ, Act.put, List.setIfInBounds_toArray, List.set_cons_succ, List.set_cons_zero]
            refine wpAnyH_take (i := 9) (v := .slice (some ⟨b, f, none⟩) zs.length cp) rfl (by kernel_rfl) (by kernel_rfl) (by kernel_rfl) (fun _ _ _ h => h) (Or.inl ⟨by rfl, ?r⟩) hS ?_
            case r => intro W hW; simp [go_sem, execOp, Act.eval, hW.1]
            simp only [List.getElem_toArray, List.getElem_cons_zero, List.getElem_cons_succ, Act.put, List.setIfInBounds_toArray, List.set_cons_succ, List.set_cons_zero]
            refine wpAnyH_take (i := 10) (v := .int .i64 (j : Nat)) rfl (by kernel_rfl) (by kernel_rfl) (by kernel_rfl) (fun _ _ _ h => h) (Or.inl ⟨by rfl, ?r⟩) hS ?_
            case r => intro W hW; simp [go_sem, execOp, Act.eval]
            simp only [List.getElem_toArray, List.getElem_cons_zero, List.getElem_cons_succ, Act.put, List.setIfInBounds_toArray, List.set_cons_succ, List.set_cons_zero]
            refine wpAnyH_take (i := 11) (v := .pointer (some ⟨b, f + j, none⟩)) rfl (by kernel_rfl) (by kernel_rfl) (by kernel_rfl) (fun _ _ _ h => h) (Or.inl ⟨by rfl, ?r⟩) hS ?_
            case r => intro W hW; simp [go_sem, execOp, Act.eval, i1]
            simp only [List.getElem_toArray, List.getElem_cons_zero, List.getElem_cons_succ, Act.put, List.setIfInBounds_toArray, List.set_cons_succ, List.set_cons_zero]
            refine wpAnyH_take (i := 12) (v := .int .i64 z) rfl (by kernel_rfl) (by kernel_rfl) (by kernel_rfl) (fun _ _ _ h => h) (Or.inl ⟨by rfl, ?r⟩) hS ?_
            case r => intro W hW; simp [go_sem, execOp, Act.eval, hW.2.1]
            simp only [List.getElem_toArray, List.getElem_cons_zero, List.getElem_cons_succ, Act.put, List.setIfInBounds_toArray, List.set_cons_succ, List.set_cons_zero]
            refine wpAnyH_take (i := 13) (v := .bool false) rfl (by kernel_rfl) (by kernel_rfl) (by kernel_rfl) (fun _ _ _ h => h) (Or.inl ⟨by rfl, ?r⟩) hS ?_
            case r => intro W hW; simp [go_sem, execOp, Act.eval]
            simp only [List.getElem_toArray, List.getElem_cons_zero, List.getElem_cons_succ, Act.put, List.setIfInBounds_toArray, List.set_cons_succ, List.set_cons_zero]
            refine wpAnyH_take (i := 14) (v := .bool false) rfl (by kernel_rfl) (by kernel_rfl) (by kernel_rfl) (fun _ _ _ h => h) (Or.inl ⟨by rfl, ?r⟩) hS ?_
            case r => intro W hW; simp [go_sem, execOp, Act.eval]
            simp only [List.getElem_toArray, List.getElem_cons_zero, List.getElem_cons_succ, Act.put, List.setIfInBounds_toArray, List.set_cons_succ, List.set_cons_zero]
            refine wpAnyH_done (by kernel_rfl) ?_ _
            refine NoPanic.normal ?_
            try simp only [Act.put]
            gi_wp2_with fail
            gi_roundg ((zs.take 100).length - (j + 1))
            case measure => have := HM.out; omega
            case rel => exact ⟨j + 1, by omega, by go_num, HB9.out⟩
          · clear hi2
            refine wpOp_step rfl (fun K hK => ite_yes rfl ?_)
            simp only [List.getElem_toArray, List.getElem_cons_zero, List.getElem_cons_succ]
            go_simp
            obtain ⟨W6, hW6⟩ : ∃ X, X = W5.alloc (.cells #[.int .i64 0, .string ⟨#[]⟩, .int .i64 0, .int .u64 0, .string ⟨#[]⟩, .int .i64 0, .int .i64 0, .int .i64 0, .int .i64 0, .slice none 0 0, .slice none 0 0] 39) := ⟨_, rfl⟩
            have haW6 : W6.heap[W5.heap.size]? = some (.cells #[.int .i64 0, .string ⟨#[]⟩, .int .i64 0, .int .u64 0, .string ⟨#[]⟩, .int .i64 0, .int .i64 0, .int .i64 0, .int .i64 0, .slice none 0 0, .slice none 0 0] 39 (0, 0)) ∧ W.heap.size ≤ W5.heap.size := ⟨by rw [hW6]; exact heap_alloc_new _ _, HBW5.out.size⟩
            have bW6 : Below W5.heap.size W5 W6 := by rw [hW6]; exact below1 _ _
            have bbW6 : Below W.heap.size W W6 := HBW5.out.trans (bW6.mono HBW5.out.size)
            rw [← hW6]
            clear hW6
            have HAW6 : Hid (W6.heap[W5.heap.size]? = some (.cells #[.int .i64 0, .string ⟨#[]⟩, .int .i64 0, .int .u64 0, .string ⟨#[]⟩, .int .i64 0, .int .i64 0, .int .i64 0, .int .i64 0, .slice none 0 0, .slice none 0 0] 39 (0, 0)) ∧ W.heap.size ≤ W5.heap.size) := haW6
            have HBW6 : Hid (Below W.heap.size W W6) := bbW6
            have hSW6 : W6.cell? ⟨o.heap.size, 0, none⟩ = some (.slice (some ⟨b, f, none⟩) zs.length cp) ∧ W6.cell? ⟨mb, 0, none⟩ = some (.pointer (some ⟨m, 0, none⟩)) ∧ W6.cell? ⟨b, f + j, none⟩ = some (.int .i64 z) := ⟨(bbW6.cell (p := ⟨o.heap.size, 0, none⟩) hzl0).trans hcl, (bbW6.cell (p := ⟨mb, 0, none⟩) hzm).trans hcm, (bbW6.cell (p := ⟨b, f + j, none⟩) hbz).trans hcz⟩
            refine hK _ _ ⟨hSW6, ?_⟩
            clear hK K hS bbW6
            have hS := hSW6
            clear hSW6
            try simp only [Act.put, List.setIfInBounds_toArray, List.set_cons_succ, List.set_cons_zero]
            refine wpAnyH_all (rs := [6]) (by kernel_rfl) (by simp) (fun i2 hi2 => ?_)
            obtain rfl : i2 = 6 := by simpa using hi2
            clear hi2
            refine wpOp_step rfl (fun K hK => ite_yes rfl ?_)
            simp only [List.getElem_toArray, List.getElem_cons_zero, List.getElem_cons_succ]
            go_simp
            refine (HC.out _ HBW6.out).mono ?_
            rintro r W7 ⟨⟨d, rfl, hd⟩, bW7⟩
            have HD : Hid (d.h.n = z) := hd
            clear hd
            have bbW7 : Below W.heap.size W W7 := HBW6.out.trans (bW7.mono HBW6.out.size)
            have haW7 := (⟨(bW7.block _ (row_ltT HAW6.out.1)).trans HAW6.out.1, HAW6.out.2⟩ : _ ∧ _)
            go_simp
            have HAW7 : Hid (W7.heap[W5.heap.size]? = some (.cells #[.int .i64 0, .string ⟨#[]⟩, .int .i64 0, .int .u64 0, .string ⟨#[]⟩, .int .i64 0, .int .i64 0, .int .i64 0, .int .i64 0, .slice none 0 0, .slice none 0 0] 39 (0, 0)) ∧ W.heap.size ≤ W5.heap.size) := haW7
            have HBW7 : Hid (Below W.heap.size W W7) := bbW7
            have hSW7 : W7.cell? ⟨o.heap.size, 0, none⟩ = some (.slice (some ⟨b, f, none⟩) zs.length cp) ∧ W7.cell? ⟨mb, 0, none⟩ = some (.pointer (some ⟨m, 0, none⟩)) ∧ W7.cell? ⟨b, f + j, none⟩ = some (.int .i64 z) := ⟨(bbW7.cell (p := ⟨o.heap.size, 0, none⟩) hzl0).trans hcl, (bbW7.cell (p := ⟨mb, 0, none⟩) hzm).trans hcm, (bbW7.cell (p := ⟨b, f + j, none⟩) hbz).trans hcz⟩
            refine hK _ _ ⟨hSW7, ?_⟩
            clear hK K hS bbW7
            have hS := hSW7
            clear hSW7
            try simp only [Act.put, List.setIfInBounds_toArray, List.set_cons_succ, List.set_cons_zero]
            refine wpAnyH_take (i := 7) (v := .tuple #[d.val, .bool true, .nilIface]) rfl (by kernel_rfl) (by kernel_rfl) (by kernel_rfl) (fun _ _ _ h => h) (Or.inl ⟨by rfl, ?r⟩) hS ?_
            case r => intro W hW; simp [go_sem, execOp, Act.eval]
            simp only [List.getElem_toArray, List.getElem_cons_zero, List.getElem_cons_succ, Act.put, List.setIfInBounds_toArray, List.set_cons_succ, List.set_cons_zero]
            refine wpAnyH_take (i := 8) (v := d.val) rfl (by kernel_rfl) (by kernel_rfl) (by kernel_rfl) (fun _ _ _ h => h) (Or.inl ⟨by rfl, ?r⟩) hS ?_
            case r => intro W hW; simp [go_sem, execOp, Act.eval]
            simp only [List.getElem_toArray, List.getElem_cons_zero, List.getElem_cons_succ, Act.put, List.setIfInBounds_toArray, List.set_cons_succ, List.set_cons_zero]
            refine wpAnyH_take (i := 9) (v := .bool true) rfl (by kernel_rfl) (by kernel_rfl) (by kernel_rfl) (fun _ _ _ h => h) (Or.inl ⟨by rfl, ?r⟩) hS ?_
            case r => intro W hW; simp [go_sem, execOp, Act.eval]
            simp only [List.getElem_toArray, List.getElem_cons_zero, List.getElem_cons_succ, Act.put, List.setIfInBounds_toArray, List.set_cons_succ, List.set_cons_zero]
            refine wpAnyH_take (i := 10) (v := .nilIface) rfl (by kernel_rfl) (by kernel_rfl) (by kernel_rfl) (fun _ _ _ h => h) (Or.inl ⟨by rfl, ?r⟩) hS ?_
            case r => intro W hW; simp [go_sem, execOp, Act.eval]
            simp only [List.getElem_toArray, List.getElem_cons_zero, List.getElem_cons_succ, Act.put, List.setIfInBounds_toArray, List.set_cons_succ, List.set_cons_zero]
            have hzA := row_ltT HAW7.out.1
            have hcA := row_at HAW7.out.1
            have hfA := fun j => fz _ _ _ _ j HAW7.out.1
            simp only [MD.val, D]
            refine wpAnyH_all (rs := [12]) (by kernel_rfl) (by simp) (fun i2 hi2 => ?_)
            obtain rfl : i2 = 12 := by simpa using hi2
            clear hi2
            refine wpOp_step rfl (fun K hK => ite_yes rfl ?_)
            simp only [List.getElem_toArray, List.getElem_cons_zero, List.getElem_cons_succ]
            go_simp
            obtain ⟨W8, h8⟩ : ∃ X, X = (((((((((((W7.setCell ⟨W5.heap.size, 0, none⟩ (.int .i64 d.h.k)).setCell ⟨W5.heap.size, 1, none⟩ (.string d.h.t)).setCell ⟨W5.heap.size, 2, none⟩ (.int .i64 d.h.n)).setCell ⟨W5.heap.size, 3, none⟩ (.int .u64 d.h.f)).setCell ⟨W5.heap.size, 4, none⟩ (.string d.h.s)).setCell ⟨W5.heap.size, 5, none⟩ (.int .i64 d.h.r0)).setCell ⟨W5.heap.size, 6, none⟩ (.int .i64 d.h.r1)).setCell ⟨W5.heap.size, 7, none⟩ (.int .i64 d.h.r2)).setCell ⟨W5.heap.size, 8, none⟩ (.int .i64 d.h.r3)).setCell ⟨W5.heap.size, 9, none⟩ (.slice d.h.pp d.h.path.length d.h.pc)).setCell ⟨W5.heap.size, 10, none⟩ (.slice d.ip d.items.length d.ic)) := ⟨_, rfl⟩
            have r8 : W8.heap[W5.heap.size]? = some (.cells #[.int .i64 d.h.k, .string d.h.t, .int .i64 d.h.n, .int .u64 d.h.f, .string d.h.s, .int .i64 d.h.r0, .int .i64 d.h.r1, .int .i64 d.h.r2, .int .i64 d.h.r3, .slice d.h.pp d.h.path.length d.h.pc, .slice d.ip d.items.length d.ic] 39 (0, 0)) := by rw [h8]; exact eleven_row HAW7.out.1 _ _ _ _ _ _ _ _ _ _ _
            have bbW8 : Below W.heap.size W W8 := by rw [h8]; exact bset HBW7.out HAW7.out.2 _ _ _ _ _ _ _ _ _ _ _
            rw [← h8]
            clear h8 hcA hfA hzA
            have hAc : W8.cell? ⟨W5.heap.size, 2, none⟩ = some (.int .i64 z) := by rw [← HD.out]; exact row_at r8 2
            have hAz := row_ltT r8
            clear r8
            have HBW8 : Hid (Below W.heap.size W W8) := bbW8
            have hSW8 : W8.cell? ⟨o.heap.size, 0, none⟩ = some (.slice (some ⟨b, f, none⟩) zs.length cp) ∧ W8.cell? ⟨mb, 0, none⟩ = some (.pointer (some ⟨m, 0, none⟩)) ∧ W8.cell? ⟨b, f + j, none⟩ = some (.int .i64 z) := ⟨(bbW8.cell (p := ⟨o.heap.size, 0, none⟩) hzl0).trans hcl, (bbW8.cell (p := ⟨mb, 0, none⟩) hzm).trans hcm, (bbW8.cell (p := ⟨b, f + j, none⟩) hbz).trans hcz⟩
            refine hK _ _ ⟨hSW8, ?_⟩
            clear hK K hS bbW8
            have hS := hSW8
            clear hSW8
            try simp only [Act.put, List.setIfInBounds_toArray, List.set_cons_succ, List.set_cons_zero]
            refine wpAnyH_take (i := 13) (v := .bool true) rfl (by kernel_rfl) (by kernel_rfl) (by kernel_rfl) (fun _ _ _ h => h) (Or.inl ⟨by rfl, ?r⟩) hS ?_
            case r => intro W hW; simp [go_sem, execOp, Act.eval]
            simp only [List.getElem_toArray, List.getElem_cons_zero, List.getElem_cons_succ, Act.put, List.setIfInBounds_toArray, List.set_cons_succ, List.set_cons_zero]
            refine wpAnyH_take (i := 14) (v := .nilIface) rfl (by kernel_rfl) (by kernel_rfl) (by kernel_rfl) (fun _ _ _ h => h) (Or.inl ⟨by rfl, ?r⟩) hS ?_
            case r => intro W hW; simp [go_sem, execOp, Act.eval]
            simp only [List.getElem_toArray, List.getElem_cons_zero, List.getElem_cons_succ, Act.put, List.setIfInBounds_toArray, List.set_cons_succ, List.set_cons_zero]
            refine wpAnyH_done (by kernel_rfl) ?_ _
            refine NoPanic.normal ?_
            try simp only [Act.put]
            have hS8 := hS
            have hz8 := HBW8.out.size
            clear hS hclr hcmr hczr z0r zmr zbr hzr
            gi_wp2_with fail
            refine wpIn_wide.2 ?_
            refine wp_region_noPanic ?_
            refine wp_region_held (S := fun W => W.cell? ⟨o.heap.size, 0, none⟩ = some (.slice (some ⟨b, f, none⟩) zs.length cp) ∧ W.cell? ⟨b, f + j, none⟩ = some (.int .i64 z) ∧ W.cell? ⟨W5.heap.size, 2, none⟩ = some (.int .i64 z)) (by kernel_rfl) ?_
            obtain ⟨W9, hW9⟩ : ∃ W4, W4 = (W8).drew := ⟨_, rfl⟩
            have e4 : ({ W8 with drawn := (W8).drawn + 1 } : World) = W9 := hW9.symm
            rw [e4]
            have hB4 : Below (W8).heap.size (W8) W9 := by rw [hW9]; exact (Below.refl _ _).drew
            have hS : W9.cell? ⟨o.heap.size, 0, none⟩ = some (.slice (some ⟨b, f, none⟩) zs.length cp) ∧ W9.cell? ⟨b, f + j, none⟩ = some (.int .i64 z) ∧ W9.cell? ⟨W5.heap.size, 2, none⟩ = some (.int .i64 z) := ⟨(hB4.cell (p := ⟨o.heap.size, 0, none⟩) (Nat.lt_of_lt_of_le hzl0 hz8)).trans hS8.1, (hB4.cell (p := ⟨b, f + j, none⟩) (Nat.lt_of_lt_of_le hbz hz8)).trans hS8.2.2, (hB4.cell (p := ⟨W5.heap.size, 2, none⟩) hAz).trans hAc⟩
            have HW9 : Hid (W9 = (W8).drew) := hW9
            clear e4 hW9
            have HB9 : Hid (Below W.heap.size W W9) := HBW8.out.trans (hB4.mono HBW8.out.size)
            clear hB4 HW9
            refine wpAnyH_take (i := 0) (v := .bool true) rfl (by kernel_rfl) (by kernel_rfl) (by kernel_rfl) (fun _ _ _ h => h) (Or.inl ⟨by rfl, ?r⟩) hS ?_
            case r => intro W hW; simp [go_sem, execOp, Act.eval]
            simp only [List.getElem_toArray, List.getElem_cons_zero, Act.put, List.setIfInBounds_toArray, List.set_cons_succ, List.set_cons_zero]
            refine wpAnyH_take (i := 1) (v := .bool false) rfl (by kernel_rfl) (by kernel_rfl) (by kernel_rfl) (fun _ _ _ h => h) (Or.inl ⟨by rfl, ?r⟩) hS ?_
            case r => intro W hW; simp [go_sem, execOp, Act.eval]
            simp only [List.getElem_toArray, List.getElem_cons_zero, List.getElem_cons_succ, Act.put, List.setIfInBounds_toArray, List.set_cons_succ, List.set_cons_zero]
            refine wpAnyH_take (i := 2) (v := .bool false) rfl (by kernel_rfl) (by kernel_rfl) (by kernel_rfl) (fun _ _ _ h => h) (Or.inl ⟨by rfl, ?r⟩) hS ?_
            case r => intro W hW; simp [go_sem, execOp, Act.eval]
            simp only [List.getElem_toArray, List.getElem_cons_zero, List.getElem_cons_succ, Act.put, List.setIfInBounds_toArray, List.set_cons_succ, List.set_cons_zero]
            refine wpAnyH_take (i := 3) (v := .nilIface) rfl (by kernel_rfl) (by kernel_rfl) (by kernel_rfl) (fun _ _ _ h => h) (Or.inl ⟨by rfl, ?r⟩) hS ?_
            case r => intro W hW; simp [go_sem, execOp, Act.eval]
            simp only [List.getElem_toArray, List.getElem_cons_zero, List.getElem_cons_succ, Act.put, List.setIfInBounds_toArray, List.set_cons_succ, List.set_cons_zero]
            refine wpAnyH_take (i := 4) (v := .bool false) rfl (by kernel_rfl) (by kernel_rfl) (by kernel_rfl) (fun _ _ _ h => h) (Or.inl ⟨by rfl, ?r⟩) hS ?_
            case r => intro W hW; simp [go_sem, execOp, Act.eval]
            simp only [List.getElem_toArray, List.getElem_cons_zero, List.getElem_cons_succ, Act.put, List.setIfInBounds_toArray, List.set_cons_succ, List.set_cons_zero]
            refine wpAnyH_take (i := 5) (v := .bool false) rfl (by kernel_rfl) (by kernel_rfl) (by kernel_rfl) (fun _ _ _ h => h) (Or.inl ⟨by rfl, ?r⟩) hS ?_
            case r => intro W hW; simp [go_sem, execOp, Act.eval]
            simp only [List.getElem_toArray, List.getElem_cons_zero, List.getElem_cons_succ, Act.put, List.setIfInBounds_toArray, List.set_cons_succ, List.set_cons_zero]
            refine wpAnyH_take (i := 6) (v := .bool false) rfl (by kernel_rfl) (by kernel_rfl) (by kernel_rfl) (fun _ _ _ h => h) (Or.inl ⟨by rfl, ?r⟩) hS ?_
            case r => intro W hW; simp [go_sem, execOp, Act.eval]
            simp only [List.getElem_toArray, List.getElem_cons_zero, List.getElem_cons_succ, Act.put, List.setIfInBounds_toArray, List.set_cons_succ, List.set_cons_zero]
            refine wpAnyH_take (i := 7) (v := .pointer (some ⟨W5.heap.size, 2, none⟩)) rfl (by kernel_rfl) (by kernel_rfl) (by kernel_rfl) (fun _ _ _ h => h) (Or.inl ⟨by rfl, ?r⟩) hS ?_
            case r => intro W hW; simp [go_sem, execOp, Act.eval]
            simp only [List.getElem_toArray, List.getElem_cons_zero, List.getElem_cons_succ, Act.put, List.setIfInBounds_toArray, List.set_cons_succ, List.set_cons_zero]
            refine wpAnyH_take (i := 8) (v := .int .i64 z) rfl (by kernel_rfl) (by kernel_rfl) (by kernel_rfl) (fun _ _ _ h => h) (Or.inl ⟨by rfl, ?r⟩) hS ?_
            case r => intro W hW; simp [go_sem, execOp, Act.eval, hW.2.2]
            simp only [List.getElem_toArray, List.getElem_cons_zero, List.getElem_cons_succ, Act.put, List.setIfInBounds_toArray, List.set_cons_succ, List.set_cons_zero]
            refine wpAnyH_take (i := 9) (v := .slice (some ⟨b, f, none⟩) zs.length cp) rfl (by kernel_rfl) (by kernel_rfl) (by kernel_rfl) (fun _ _ _ h => h) (Or.inl ⟨by rfl, ?r⟩) hS ?_
            case r => intro W hW; simp [go_sem, execOp, Act.eval, hW.1]
            simp only [List.getElem_toArray, List.getElem_cons_zero, List.getElem_cons_succ, Act.put, List.setIfInBounds_toArray, List.set_cons_succ, List.set_cons_zero]
            refine wpAnyH_take (i := 10) (v := .int .i64 (j : Nat)) rfl (by kernel_rfl) (by kernel_rfl) (by kernel_rfl) (fun _ _ _ h => h) (Or.inl ⟨by rfl, ?r⟩) hS ?_
            case r => intro W hW; simp [go_sem, execOp, Act.eval]
            simp only [List.getElem_toArray, List.getElem_cons_zero, List.getElem_cons_succ, Act.put, List.setIfInBounds_toArray, List.set_cons_succ, List.set_cons_zero]
            refine wpAnyH_take (i := 11) (v := .pointer (some ⟨b, f + j, none⟩)) rfl (by kernel_rfl) (by kernel_rfl) (by kernel_rfl) (fun _ _ _ h => h) (Or.inl ⟨by rfl, ?r⟩) hS ?_
            case r => intro W hW; simp [go_sem, execOp, Act.eval, i1]
            simp only [List.getElem_toArray, List.getElem_cons_zero, List.getElem_cons_succ, Act.put, List.setIfInBounds_toArray, List.set_cons_succ, List.set_cons_zero]
            refine wpAnyH_take (i := 12) (v := .int .i64 z) rfl (by kernel_rfl) (by kernel_rfl) (by kernel_rfl) (fun _ _ _ h => h) (Or.inl ⟨by rfl, ?r⟩) hS ?_
            case r => intro W hW; simp [go_sem, execOp, Act.eval, hW.2.1]
            simp only [List.getElem_toArray, List.getElem_cons_zero, List.getElem_cons_succ, Act.put, List.setIfInBounds_toArray, List.set_cons_succ, List.set_cons_zero]
            refine wpAnyH_take (i := 13) (v := .bool false) rfl (by kernel_rfl) (by kernel_rfl) (by kernel_rfl) (fun _ _ _ h => h) (Or.inl ⟨by rfl, ?r⟩) hS ?_
            case r => intro W hW; simp [go_sem, execOp, Act.eval]
            simp only [List.getElem_toArray, List.getElem_cons_zero, List.getElem_cons_succ, Act.put, List.setIfInBounds_toArray, List.set_cons_succ, List.set_cons_zero]
            refine wpAnyH_take (i := 14) (v := .bool false) rfl (by kernel_rfl) (by kernel_rfl) (by kernel_rfl) (fun _ _ _ h => h) (Or.inl ⟨by rfl, ?r⟩) hS ?_
            case r => intro W hW; simp [go_sem, execOp, Act.eval]
            simp only [List.getElem_toArray, List.getElem_cons_zero, List.getElem_cons_succ, Act.put, List.setIfInBounds_toArray, List.set_cons_succ, List.set_cons_zero]
            refine wpAnyH_done (by kernel_rfl) ?_ _
            refine NoPanic.normal ?_
            try simp only [Act.put]
            gi_wp2_with fail
            gi_roundg ((zs.take 100).length - (j + 1))
            case measure => have := HM.out; omega
            case rel => exact ⟨j + 1, by omega, by go_num, HB9.out⟩
        · clear hi2
          refine wpOp_step rfl (fun K hK => ite_yes rfl ?_)
          simp only [List.getElem_toArray, List.getElem_cons_zero, List.getElem_cons_succ]
          go_simp
          obtain ⟨W5, hW5⟩ : ∃ X, X = W4.alloc (.cells #[.int .i64 0, .string ⟨#[]⟩, .int .i64 0, .int .u64 0, .string ⟨#[]⟩, .int .i64 0, .int .i64 0, .int .i64 0, .int .i64 0, .slice none 0 0, .slice none 0 0] 39) := ⟨_, rfl⟩
          have haW5 : W5.heap[W4.heap.size]? = some (.cells #[.int .i64 0, .string ⟨#[]⟩, .int .i64 0, .int .u64 0, .string ⟨#[]⟩, .int .i64 0, .int .i64 0, .int .i64 0, .int .i64 0, .slice none 0 0, .slice none 0 0] 39 (0, 0)) ∧ W.heap.size ≤ W4.heap.size := ⟨by rw [hW5]; exact heap_alloc_new _ _, HBW4.out.size⟩
          have bW5 : Below W4.heap.size W4 W5 := by rw [hW5]; exact below1 _ _
          have bbW5 : Below W.heap.size W W5 := HBW4.out.trans (bW5.mono HBW4.out.size)
          rw [← hW5]
          clear hW5
          have HAW5 : Hid (W5.heap[W4.heap.size]? = some (.cells #[.int .i64 0, .string ⟨#[]⟩, .int .i64 0, .int .u64 0, .string ⟨#[]⟩, .int .i64 0, .int .i64 0, .int .i64 0, .int .i64 0, .slice none 0 0, .slice none 0 0] 39 (0, 0)) ∧ W.heap.size ≤ W4.heap.size) := haW5
          have HBW5 : Hid (Below W.heap.size W W5) := bbW5
          have hSW5 : W5.cell? ⟨o.heap.size, 0, none⟩ = some (.slice (some ⟨b, f, none⟩) zs.length cp) ∧ W5.cell? ⟨mb, 0, none⟩ = some (.pointer (some ⟨m, 0, none⟩)) ∧ W5.cell? ⟨b, f + j, none⟩ = some (.int .i64 z) := ⟨(bbW5.cell (p := ⟨o.heap.size, 0, none⟩) hzl0).trans hcl, (bbW5.cell (p := ⟨mb, 0, none⟩) hzm).trans hcm, (bbW5.cell (p := ⟨b, f + j, none⟩) hbz).trans hcz⟩
          refine hK _ _ ⟨hSW5, ?_⟩
          clear hK K hS bbW5
          have hS := hSW5
          clear hSW5
          try simp only [Act.put, List.setIfInBounds_toArray, List.set_cons_succ, List.set_cons_zero]
          refine wpAnyH_all (rs := [5]) (by kernel_rfl) (by simp) (fun i2 hi2 => ?_)
          obtain rfl : i2 = 5 := by simpa using hi2
          clear hi2
          refine wpOp_step rfl (fun K hK => ite_yes rfl ?_)
          simp only [List.getElem_toArray, List.getElem_cons_zero, List.getElem_cons_succ]
          go_simp
          refine (whole_val z _).mono ?_
          rintro r W6 ⟨rfl, bW6⟩
          have bbW6 : Below W.heap.size W W6 := HBW5.out.trans (bW6.mono HBW5.out.size)
          have haW6 := (⟨(bW6.block _ (row_ltT HAW5.out.1)).trans HAW5.out.1, HAW5.out.2⟩ : _ ∧ _)
          go_simp
          have HAW6 : Hid (W6.heap[W4.heap.size]? = some (.cells #[.int .i64 0, .string ⟨#[]⟩, .int .i64 0, .int .u64 0, .string ⟨#[]⟩, .int .i64 0, .int .i64 0, .int .i64 0, .int .i64 0, .slice none 0 0, .slice none 0 0] 39 (0, 0)) ∧ W.heap.size ≤ W4.heap.size) := haW6
          have HBW6 : Hid (Below W.heap.size W W6) := bbW6
          have hSW6 : W6.cell? ⟨o.heap.size, 0, none⟩ = some (.slice (some ⟨b, f, none⟩) zs.length cp) ∧ W6.cell? ⟨mb, 0, none⟩ = some (.pointer (some ⟨m, 0, none⟩)) ∧ W6.cell? ⟨b, f + j, none⟩ = some (.int .i64 z) := ⟨(bbW6.cell (p := ⟨o.heap.size, 0, none⟩) hzl0).trans hcl, (bbW6.cell (p := ⟨mb, 0, none⟩) hzm).trans hcm, (bbW6.cell (p := ⟨b, f + j, none⟩) hbz).trans hcz⟩
          refine hK _ _ ⟨hSW6, ?_⟩
          clear hK K hS bbW6
          have hS := hSW6
          clear hSW6
          try simp only [Act.put, List.setIfInBounds_toArray, List.set_cons_succ, List.set_cons_zero]
          refine wpAnyH_all (rs := [6]) (by kernel_rfl) (by simp) (fun i2 hi2 => ?_)
          obtain rfl : i2 = 6 := by simpa using hi2
          clear hi2
          refine wpOp_step rfl (fun K hK => ite_yes rfl ?_)
          simp only [List.getElem_toArray, List.getElem_cons_zero, List.getElem_cons_succ]
          go_simp
          refine (HC.out _ HBW6.out).mono ?_
          rintro r W7 ⟨⟨d, rfl, hd⟩, bW7⟩
          have HD : Hid (d.h.n = z) := hd
          clear hd
          have bbW7 : Below W.heap.size W W7 := HBW6.out.trans (bW7.mono HBW6.out.size)
          have haW7 := (⟨(bW7.block _ (row_ltT HAW6.out.1)).trans HAW6.out.1, HAW6.out.2⟩ : _ ∧ _)
          go_simp
          have HAW7 : Hid (W7.heap[W4.heap.size]? = some (.cells #[.int .i64 0, .string ⟨#[]⟩, .int .i64 0, .int .u64 0, .string ⟨#[]⟩, .int .i64 0, .int .i64 0, .int .i64 0, .int .i64 0, .slice none 0 0, .slice none 0 0] 39 (0, 0)) ∧ W.heap.size ≤ W4.heap.size) := haW7
          have HBW7 : Hid (Below W.heap.size W W7) := bbW7
          have hSW7 : W7.cell? ⟨o.heap.size, 0, none⟩ = some (.slice (some ⟨b, f, none⟩) zs.length cp) ∧ W7.cell? ⟨mb, 0, none⟩ = some (.pointer (some ⟨m, 0, none⟩)) ∧ W7.cell? ⟨b, f + j, none⟩ = some (.int .i64 z) := ⟨(bbW7.cell (p := ⟨o.heap.size, 0, none⟩) hzl0).trans hcl, (bbW7.cell (p := ⟨mb, 0, none⟩) hzm).trans hcm, (bbW7.cell (p := ⟨b, f + j, none⟩) hbz).trans hcz⟩
          refine hK _ _ ⟨hSW7, ?_⟩
          clear hK K hS bbW7
          have hS := hSW7
          clear hSW7
          try simp only [Act.put, List.setIfInBounds_toArray, List.set_cons_succ, List.set_cons_zero]
          refine wpAnyH_take (i := 7) (v := .tuple #[d.val, .bool true, .nilIface]) rfl (by kernel_rfl) (by kernel_rfl) (by kernel_rfl) (fun _ _ _ h => h) (Or.inl ⟨by rfl, ?r⟩) hS ?_
          case r => intro W hW; simp [go_sem, execOp, Act.eval]
          simp only [List.getElem_toArray, List.getElem_cons_zero, List.getElem_cons_succ, Act.put, List.setIfInBounds_toArray, List.set_cons_succ, List.set_cons_zero]
          refine wpAnyH_take (i := 8) (v := d.val) rfl (by kernel_rfl) (by kernel_rfl) (by kernel_rfl) (fun _ _ _ h => h) (Or.inl ⟨by rfl, ?r⟩) hS ?_
          case r => intro W hW; simp [go_sem, execOp, Act.eval]
          simp only [List.getElem_toArray, List.getElem_cons_zero, List.getElem_cons_succ, Act.put, List.setIfInBounds_toArray, List.set_cons_succ, List.set_cons_zero]
          refine wpAnyH_take (i := 9) (v := .bool true) rfl (by kernel_rfl) (by kernel_rfl) (by kernel_rfl) (fun _ _ _ h => h) (Or.inl ⟨by rfl, ?r⟩) hS ?_
          case r => intro W hW; simp [go_sem, execOp, Act.eval]
          simp only [List.getElem_toArray, List.getElem_cons_zero, List.getElem_cons_succ, Act.put, List.setIfInBounds_toArray, List.set_cons_succ, List.set_cons_zero]
          refine wpAnyH_take (i := 10) (v := .nilIface) rfl (by kernel_rfl) (by kernel_rfl) (by kernel_rfl) (fun _ _ _ h => h) (Or.inl ⟨by rfl, ?r⟩) hS ?_
          case r => intro W hW; simp [go_sem, execOp, Act.eval]
          simp only [List.getElem_toArray, List.getElem_cons_zero, List.getElem_cons_succ, Act.put, List.setIfInBounds_toArray, List.set_cons_succ, List.set_cons_zero]
          have hzA := row_ltT HAW7.out.1
          have hcA := row_at HAW7.out.1
          have hfA := fun j => fz _ _ _ _ j HAW7.out.1
          simp only [MD.val, D]
          refine wpAnyH_all (rs := [12]) (by kernel_rfl) (by simp) (fun i2 hi2 => ?_)
          obtain rfl : i2 = 12 := by simpa using hi2
          clear hi2
          refine wpOp_step rfl (fun K hK => ite_yes rfl ?_)
          simp only [List.getElem_toArray, List.getElem_cons_zero, List.getElem_cons_succ]
          go_simp
          obtain ⟨W8, h8⟩ : ∃ X, X = (((((((((((W7.setCell ⟨W4.heap.size, 0, none⟩ (.int .i64 d.h.k)).setCell ⟨W4.heap.size, 1, none⟩ (.string d.h.t)).setCell ⟨W4.heap.size, 2, none⟩ (.int .i64 d.h.n)).setCell ⟨W4.heap.size, 3, none⟩ (.int .u64 d.h.f)).setCell ⟨W4.heap.size, 4, none⟩ (.string d.h.s)).setCell ⟨W4.heap.size, 5, none⟩ (.int .i64 d.h.r0)).setCell ⟨W4.heap.size, 6, none⟩ (.int .i64 d.h.r1)).setCell ⟨W4.heap.size, 7, none⟩ (.int .i64 d.h.r2)).setCell ⟨W4.heap.size, 8, none⟩ (.int .i64 d.h.r3)).setCell ⟨W4.heap.size, 9, none⟩ (.slice d.h.pp d.h.path.length d.h.pc)).setCell ⟨W4.heap.size, 10, none⟩ (.slice d.ip d.items.length d.ic)) := ⟨_, rfl⟩
          have r8 : W8.heap[W4.heap.size]? = some (.cells #[.int .i64 d.h.k, .string d.h.t, .int .i64 d.h.n, .int .u64 d.h.f, .string d.h.s, .int .i64 d.h.r0, .int .i64 d.h.r1, .int .i64 d.h.r2, .int .i64 d.h.r3, .slice d.h.pp d.h.path.length d.h.pc, .slice d.ip d.items.length d.ic] 39 (0, 0)) := by rw [h8]; exact eleven_row HAW7.out.1 _ _ _ _ _ _ _ _ _ _ _
          have bbW8 : Below W.heap.size W W8 := by rw [h8]; exact bset HBW7.out HAW7.out.2 _ _ _ _ _ _ _ _ _ _ _
          rw [← h8]
          clear h8 hcA hfA hzA
          have hAc : W8.cell? ⟨W4.heap.size, 2, none⟩ = some (.int .i64 z) := by rw [← HD.out]; exact row_at r8 2
          have hAz := row_ltT r8
          clear r8
          have HBW8 : Hid (Below W.heap.size W W8) := bbW8
          have hSW8 : W8.cell? ⟨o.heap.size, 0, none⟩ = some (.slice (some ⟨b, f, none⟩) zs.length cp) ∧ W8.cell? ⟨mb, 0, none⟩ = some (.pointer (some ⟨m, 0, none⟩)) ∧ W8.cell? ⟨b, f + j, none⟩ = some (.int .i64 z) := ⟨(bbW8.cell (p := ⟨o.heap.size, 0, none⟩) hzl0).trans hcl, (bbW8.cell (p := ⟨mb, 0, none⟩) hzm).trans hcm, (bbW8.cell (p := ⟨b, f + j, none⟩) hbz).trans hcz⟩
          refine hK _ _ ⟨hSW8, ?_⟩
          clear hK K hS bbW8
          have hS := hSW8
          clear hSW8
          try simp only [Act.put, List.setIfInBounds_toArray, List.set_cons_succ, List.set_cons_zero]
          refine wpAnyH_take (i := 13) (v := .bool true) rfl (by kernel_rfl) (by kernel_rfl) (by kernel_rfl) (fun _ _ _ h => h) (Or.inl ⟨by rfl, ?r⟩) hS ?_
          case r => intro W hW; simp [go_sem, execOp, Act.eval]
          simp only [List.getElem_toArray, List.getElem_cons_zero, List.getElem_cons_succ, Act.put, List.setIfInBounds_toArray, List.set_cons_succ, List.set_cons_zero]
          refine wpAnyH_take (i := 14) (v := .nilIface) rfl (by kernel_rfl) (by kernel_rfl) (by kernel_rfl) (fun _ _ _ h => h) (Or.inl ⟨by rfl, ?r⟩) hS ?_
          case r => intro W hW; simp [go_sem, execOp, Act.eval]
          simp only [List.getElem_toArray, List.getElem_cons_zero, List.getElem_cons_succ, Act.put, List.setIfInBounds_toArray, List.set_cons_succ, List.set_cons_zero]
          refine wpAnyH_done (by kernel_rfl) ?_ _
          refine NoPanic.normal ?_
          try simp only [Act.put]
          have hS8 := hS
          have hz8 := HBW8.out.size
          clear hS hclr hcmr hczr z0r zmr zbr hzr
          gi_wp2_with fail
          refine wpIn_wide.2 ?_
          refine wp_region_noPanic ?_
          refine wp_region_held (S := fun W => W.cell? ⟨o.heap.size, 0, none⟩ = some (.slice (some ⟨b, f, none⟩) zs.length cp) ∧ W.cell? ⟨b, f + j, none⟩ = some (.int .i64 z) ∧ W.cell? ⟨W4.heap.size, 2, none⟩ = some (.int .i64 z)) (by kernel_rfl) ?_
          obtain ⟨W9, hW9⟩ : ∃ W4, W4 = (W8).drew := ⟨_, rfl⟩
          have e4 : ({ W8 with drawn := (W8).drawn + 1 } : World) = W9 := hW9.symm
          rw [e4]
          have hB4 : Below (W8).heap.size (W8) W9 := by rw [hW9]; exact (Below.refl _ _).drew
          have hS : W9.cell? ⟨o.heap.size, 0, none⟩ = some (.slice (some ⟨b, f, none⟩) zs.length cp) ∧ W9.cell? ⟨b, f + j, none⟩ = some (.int .i64 z) ∧ W9.cell? ⟨W4.heap.size, 2, none⟩ = some (.int .i64 z) := ⟨(hB4.cell (p := ⟨o.heap.size, 0, none⟩) (Nat.lt_of_lt_of_le hzl0 hz8)).trans hS8.1, (hB4.cell (p := ⟨b, f + j, none⟩) (Nat.lt_of_lt_of_le hbz hz8)).trans hS8.2.2, (hB4.cell (p := ⟨W4.heap.size, 2, none⟩) hAz).trans hAc⟩
          have HW9 : Hid (W9 = (W8).drew) := hW9
          clear e4 hW9
          have HB9 : Hid (Below W.heap.size W W9) := HBW8.out.trans (hB4.mono HBW8.out.size)
          clear hB4 HW9
          refine wpAnyH_take (i := 0) (v := .bool true) rfl (by kernel_rfl) (by kernel_rfl) (by kernel_rfl) (fun _ _ _ h => h) (Or.inl ⟨by rfl, ?r⟩) hS ?_
          case r => intro W hW; simp [go_sem, execOp, Act.eval]
          simp only [List.getElem_toArray, List.getElem_cons_zero, Act.put, List.setIfInBounds_toArray, List.set_cons_succ, List.set_cons_zero]
          refine wpAnyH_take (i := 1) (v := .bool false) rfl (by kernel_rfl) (by kernel_rfl) (by kernel_rfl) (fun _ _ _ h => h) (Or.inl ⟨by rfl, ?r⟩) hS ?_
          case r => intro W hW; simp [go_sem, execOp, Act.eval]
          simp only [List.getElem_toArray, List.getElem_cons_zero, List.getElem_cons_succ, Act.put, List.setIfInBounds_toArray, List.set_cons_succ, List.set_cons_zero]
          refine wpAnyH_take (i := 2) (v := .bool false) rfl (by kernel_rfl) (by kernel_rfl) (by kernel_rfl) (fun _ _ _ h => h) (Or.inl ⟨by rfl, ?r⟩) hS ?_
          case r => intro W hW; simp [go_sem, execOp, Act.eval]
          simp only [List.getElem_toArray, List.getElem_cons_zero, List.getElem_cons_succ, Act.put, List.setIfInBounds_toArray, List.set_cons_succ, List.set_cons_zero]
          refine wpAnyH_take (i := 3) (v := .nilIface) rfl (by kernel_rfl) (by kernel_rfl) (by kernel_rfl) (fun _ _ _ h => h) (Or.inl ⟨by rfl, ?r⟩) hS ?_
          case r => intro W hW; simp [go_sem, execOp, Act.eval]
          simp only [List.getElem_toArray, List.getElem_cons_zero, List.getElem_cons_succ, Act.put, List.setIfInBounds_toArray, List.set_cons_succ, List.set_cons_zero]
          refine wpAnyH_take (i := 4) (v := .bool false) rfl (by kernel_rfl) (by kernel_rfl) (by kernel_rfl) (fun _ _ _ h => h) (Or.inl ⟨by rfl, ?r⟩) hS ?_
          case r => intro W hW; simp [go_sem, execOp, Act.eval]
          simp only [List.getElem_toArray, List.getElem_cons_zero, List.getElem_cons_succ, Act.put, List.setIfInBounds_toArray, List.set_cons_succ, List.set_cons_zero]
          refine wpAnyH_take (i := 5) (v := .bool false) rfl (by kernel_rfl) (by kernel_rfl) (by kernel_rfl) (fun _ _ _ h => h) (Or.inl ⟨by rfl, ?r⟩) hS ?_
          case r => intro W hW; simp [go_sem, execOp, Act.eval]
          simp only [List.getElem_toArray, List.getElem_cons_zero, List.getElem_cons_succ, Act.put, List.setIfInBounds_toArray, List.set_cons_succ, List.set_cons_zero]
          refine wpAnyH_take (i := 6) (v := .bool false) rfl (by kernel_rfl) (by kernel_rfl) (by kernel_rfl) (fun _ _ _ h => h) (Or.inl ⟨by rfl, ?r⟩) hS ?_
          case r => intro W hW; simp [go_sem, execOp, Act.eval]
          simp only [List.getElem_toArray, List.getElem_cons_zero, List.getElem_cons_succ, Act.put, List.setIfInBounds_toArray, List.set_cons_succ, List.set_cons_zero]
          refine wpAnyH_take (i := 7) (v := .pointer (some ⟨W4.heap.size, 2, none⟩)) rfl (by kernel_rfl) (by kernel_rfl) (by kernel_rfl) (fun _ _ _ h => h) (Or.inl ⟨by rfl, ?r⟩) hS ?_
          case r => intro W hW; simp [go_sem, execOp, Act.eval]
          simp only [List.getElem_toArray, List.getElem_cons_zero, List.getElem_cons_succ, Act.put, List.setIfInBounds_toArray, List.set_cons_succ, List.set_cons_zero]
          refine wpAnyH_take (i := 8) (v := .int .i64 z) rfl (by kernel_rfl) (by kernel_rfl) (by kernel_rfl) (fun _ _ _ h => h) (Or.inl ⟨by rfl, ?r⟩) hS ?_
          case r => intro W hW; simp [go_sem, execOp, Act.eval, hW.2.2]
          simp only [List.getElem_toArray, List.getElem_cons_zero, List.getElem_cons_succ, Act.put, List.setIfInBounds_toArray, List.set_cons_succ, List.set_cons_zero]
          refine wpAnyH_take (i := 9) (v := .slice (some ⟨b, f, none⟩) zs.length cp) rfl (by kernel_rfl) (by kernel_rfl) (by kernel_rfl) (fun _ _ _ h => h) (Or.inl ⟨by rfl, ?r⟩) hS ?_
          case r => intro W hW; simp [go_sem, execOp, Act.eval, hW.1]
          simp only [List.getElem_toArray, List.getElem_cons_zero, List.getElem_cons_succ, Act.put, List.setIfInBounds_toArray, List.set_cons_succ, List.set_cons_zero]
          refine wpAnyH_take (i := 10) (v := .int .i64 (j : Nat)) rfl (by kernel_rfl) (by kernel_rfl) (by kernel_rfl) (fun _ _ _ h => h) (Or.inl ⟨by rfl, ?r⟩) hS ?_
          case r => intro W hW; simp [go_sem, execOp, Act.eval]
          simp only [List.getElem_toArray, List.getElem_cons_zero, List.getElem_cons_succ, Act.put, List.setIfInBounds_toArray, List.set_cons_succ, List.set_cons_zero]
          refine wpAnyH_take (i := 11) (v := .pointer (some ⟨b, f + j, none⟩)) rfl (by kernel_rfl) (by kernel_rfl) (by kernel_rfl) (fun _ _ _ h => h) (Or.inl ⟨by rfl, ?r⟩) hS ?_
          case r => intro W hW; simp [go_sem, execOp, Act.eval, i1]
          simp only [List.getElem_toArray, List.getElem_cons_zero, List.getElem_cons_succ, Act.put, List.setIfInBounds_toArray, List.set_cons_succ, List.set_cons_zero]
          refine wpAnyH_take (i := 12) (v := .int .i64 z) rfl (by kernel_rfl) (by kernel_rfl) (by kernel_rfl) (fun _ _ _ h => h) (Or.inl ⟨by rfl, ?r⟩) hS ?_
          case r => intro W hW; simp [go_sem, execOp, Act.eval, hW.2.1]
          simp only [List.getElem_toArray, List.getElem_cons_zero, List.getElem_cons_succ, Act.put, List.setIfInBounds_toArray, List.set_cons_succ, List.set_cons_zero]
          refine wpAnyH_take (i := 13) (v := .bool false) rfl (by kernel_rfl) (by kernel_rfl) (by kernel_rfl) (fun _ _ _ h => h) (Or.inl ⟨by rfl, ?r⟩) hS ?_
          case r => intro W hW; simp [go_sem, execOp, Act.eval]
          simp only [List.getElem_toArray, List.getElem_cons_zero, List.getElem_cons_succ, Act.put, List.setIfInBounds_toArray, List.set_cons_succ, List.set_cons_zero]
          refine wpAnyH_take (i := 14) (v := .bool false) rfl (by kernel_rfl) (by kernel_rfl) (by kernel_rfl) (fun _ _ _ h => h) (Or.inl ⟨by rfl, ?r⟩) hS ?_
          case r => intro W hW; simp [go_sem, execOp, Act.eval]
          simp only [List.getElem_toArray, List.getElem_cons_zero, List.getElem_cons_succ, Act.put, List.setIfInBounds_toArray, List.set_cons_succ, List.set_cons_zero]
          refine wpAnyH_done (by kernel_rfl) ?_ _
          refine NoPanic.normal ?_
          try simp only [Act.put]
          gi_wp2_with fail
          gi_roundg ((zs.take 100).length - (j + 1))
          case measure => have := HM.out; omega
          case rel => exact ⟨j + 1, by omega, by go_num, HB9.out⟩
    · by_cases hl2 : (j : Int) < zs.length
      · have i2 : ¬ (j : Int) < 100 := by omega
        gi_wp2_with fail
        exact HEND.out _ HR.out
      · gi_wp2_with fail
        exact HEND.out _ HR.out
end Go.Proofs.YtflonmlnedkmjaaDoor
