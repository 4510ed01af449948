/-
  The law KeyedNever.
-/
import Derived.Test.YtflonmlnedkmjaaDoorNl
namespace Go.Proofs.YtflonmlnedkmjaaDoor
open Go.RowKit Go.Shelf
section
variable {o W : World} {m : Nat} {es0 : List Ent} {G0 : KG} {N : MD} {c : Nat}
theorem mid_at {C : Code} (hC : C = midC) {mb nb : Nat} {pp : Option Addr} {zs : List Int} {cp : Nat} {R : Ending → World → Prop} {c0 c1 c3 c5 c9 c10 c11 c12 c13 c14 c15 c16 c17 c18 c19 c20 c21 c22 c23 c24 c25 c26 c27 c28 c29 c30 c31 c32 c33 c34 c35 c36 c37 c38 c39 c40 c41 c42 c43 c44 c45 c46 c47 c48 c49 c50 c51 c52 c53 c54 c55 c56 c57 c58 c59 c60 c61 c62 c63 c64 c65 c66 c67 c68 c69 c70 c71 c72 c73 c74 c75 c76 c77 c78 c79 c80 c81 c82 c83 c84 c85 c86 c87 c88 c89 c90 c91 c92 c93 c94 c95 c96 c97 c98 c99 c100 c101 c102 c103 c104 c105 c106 c107 c108 c109 c110 c111 c112 c113 c114 c115 c116 c117 c118 c119 c120 c121 c122 c123 c124 c125 c126 c127 c128 c129 c130 c131 c132 c133 c134 c135 c136 c137 c138 c139 c140 c141 c142 c143 c144 c145 c146 c147 c148 c149 c150 c151 c152 c153 c154 c155 c156 c157 c158 c159 c160 c161 c162 c163 c164 c165 c166 c167 c168 c169 c170 c171 c172 c173 c174 c175 c176 c177 c178 c179 c180 c181 c182 c183 c184 c185 c186 c187 c188 c189 c190 c191 c192 c193 c194 c195 c196 c197 c198 c199 c200 c201 c202 c203 c204 c205 c206 c207 : Value}
    (hS : St o m W es0 G0) (ho : NamesAt o) (hNaN : NaN N) (hKN : KN N (zs.take 100) es0 c)
    (hlb : W.heap[o.heap.size]? = some (.cells #[.slice pp zs.length cp] 27 (0, 0))) (hrb : W.heap[o.heap.size + 1]? = some (.cells #[.bool false] 4 (0, 0))) (hmb : W.heap[mb]? = some (.cells #[.pointer (some ⟨m, 0, none⟩)] 24 (0, 0))) (hnb : Box W 4 nb N)
    (hzb : ∀ z ∈ zs, -9223372036854775808 ≤ z ∧ z ≤ 9223372036854775807) (hzl : zs.length ≤ 9223372036854775807) (hzc : zs = [] ∨ ∃ b f, pp = some ⟨b, f, none⟩ ∧ b < o.heap.size ∧ ∀ (i : Nat) (hi : i < zs.length), o.cell? ⟨b, f + i, none⟩ = some (.int .i64 zs[i]))
    (hR : ∀ w', Below o.heap.size o w' → R (.returned (.bool true)) w') :
    C.wpIn Fence.wide 6 Tryd.prog (bodyPostM Fence.wide 6 Tryd.prog Tryd.f4 R) ⟨List.toArray [c0, c1, .pointer (some ⟨o.heap.size, 0, none⟩), c3, .pointer (some ⟨o.heap.size + 1, 0, none⟩), c5, .pointer (some ⟨mb, 0, none⟩), .pointer (some ⟨nb, 0, none⟩), .int .i64 (c : Nat), c9, c10, c11, c12, c13, c14, c15, c16, c17, c18, c19, c20, c21, c22, c23, c24, c25, c26, c27, c28, c29, c30, c31, c32, c33, c34, c35, c36, c37, c38, c39, c40, c41, c42, c43, c44, c45, c46, c47, c48, c49, c50, c51, c52, c53, c54, c55, c56, c57, c58, c59, c60, c61, c62, c63, c64, c65, c66, c67, c68, c69, c70, c71, c72, c73, c74, c75, c76, c77, c78, c79, c80, c81, c82, c83, c84, c85, c86, c87, c88, c89, c90, c91, c92, c93, c94, c95, c96, c97, c98, c99, c100, c101, c102, c103, c104, c105, c106, c107, c108, c109, c110, c111, c112, c113, c114, c115, c116, c117, c118, c119, c120, c121, c122, c123, c124, c125, c126, c127, c128, c129, c130, c131, c132, c133, c134, c135, c136, c137, c138, c139, c140, c141, c142, c143, c144, c145, c146, c147, c148, c149, c150, c151, c152, c153, c154, c155, c156, c157, c158, c159, c160, c161, c162, c163, c164, c165, c166, c167, c168, c169, c170, c171, c172, c173, c174, c175, c176, c177, c178, c179, c180, c181, c182, c183, c184, c185, c186, c187, c188, c189, c190, c191, c192, c193, c194, c195, c196, c197, c198, c199, c200, c201, c202, c203, c204, c205, c206, c207], []⟩ W := by
  subst hC
  exact mid_any hS ho hNaN hKN hlb hrb hmb hnb hzb hzl hzc hR
end
section
variable {o W W' : World} {m mb nb : Nat} {N : MD} {pp : Option Addr} {zs : List Int} {cp j n : Nat}
theorem loop1_at {C : Code} (hC : C = Code.loop loop1C) {Q : Exit → Act → World → Prop} {c0 c1 c3 c4 c5 c10 c11 c12 c13 c14 c15 c16 c17 c18 c19 c20 c21 c22 c23 c24 c25 c26 c27 c28 c29 c30 c31 c32 c33 c34 c35 c36 c37 c38 c39 c40 c41 c42 c43 c44 c45 c46 c47 c48 c49 c50 c51 c52 c53 c54 c55 c56 c57 c58 c59 c60 c61 c62 c63 c64 c65 c66 c67 c68 c69 c70 c71 c72 c73 c74 c75 c76 c77 c78 c79 c80 c81 c82 c83 c84 c85 c86 c87 c88 c89 c90 c91 c92 c93 c94 c95 c96 c97 c98 c99 c100 c101 c102 c103 c104 c105 c106 c107 c108 c109 c110 c111 c112 c113 c114 c115 c116 c117 c118 c119 c120 c121 c122 c123 c124 c125 c126 c127 c128 c129 c130 c131 c132 c133 c134 c135 c136 c137 c138 c139 c140 c141 c142 c143 c144 c145 c146 c147 c148 c149 c150 c151 c152 c153 c154 c155 c156 c157 c158 c159 c160 c161 c162 c163 c164 c165 c166 c167 c168 c169 c170 c171 c172 c173 c174 c175 c176 c177 c178 c179 c180 c181 c182 c183 c184 c185 c186 c187 c188 c189 c190 c191 c192 c193 c194 c195 c196 c197 c198 c199 c200 c201 c202 c203 c204 c205 c206 c207 : Value}
    (hI : LI o m mb nb N pp zs cp 0 0 W) (ho : NamesAt o) (hNaN : NaN N) (hzb : ∀ z ∈ zs, -9223372036854775808 ≤ z ∧ z ≤ 9223372036854775807) (hzl : zs.length ≤ 9223372036854775807)
    (hzc : zs = [] ∨ ∃ b f, pp = some ⟨b, f, none⟩ ∧ b < o.heap.size ∧ ∀ (i : Nat) (hi : i < zs.length), o.cell? ⟨b, f + i, none⟩ = some (.int .i64 zs[i]))
    (hend : ∀ {u9 u10 u11 u44 u45 u46 u47 u48 u49 u50 u51 u52 u53 u54 u55 u56 u57 u58 u59 u60 u61 u62 u63 u64 u65 u66 u67 u68 u69 u70 u71 u72 u73 u74 u75 u76 u77 u78 u79 u80 u81 u82 u83 u84 u85 : Value} (n : Nat) (W' : World), LI o m mb nb N pp zs cp (zs.take 100).length n W' → Q .normal ⟨List.toArray [c0, c1, .pointer (some ⟨o.heap.size, 0, none⟩), c3, c4, c5, .pointer (some ⟨mb, 0, none⟩), .pointer (some ⟨nb, 0, none⟩), .int .i64 (n : Nat), u9, u10, u11, c12, c13, c14, c15, c16, c17, c18, c19, c20, c21, c22, c23, c24, c25, c26, c27, c28, c29, c30, c31, c32, c33, c34, c35, c36, c37, c38, c39, c40, c41, c42, c43, u44, u45, u46, u47, u48, u49, u50, u51, u52, u53, u54, u55, u56, u57, u58, u59, u60, u61, u62, u63, u64, u65, u66, u67, u68, u69, u70, u71, u72, u73, u74, u75, u76, u77, u78, u79, u80, u81, u82, u83, u84, u85, c86, c87, c88, c89, c90, c91, c92, c93, c94, c95, c96, c97, c98, c99, c100, c101, c102, c103, c104, c105, c106, c107, c108, c109, c110, c111, c112, c113, c114, c115, c116, c117, c118, c119, c120, c121, c122, c123, c124, c125, c126, c127, c128, c129, c130, c131, c132, c133, c134, c135, c136, c137, c138, c139, c140, c141, c142, c143, c144, c145, c146, c147, c148, c149, c150, c151, c152, c153, c154, c155, c156, c157, c158, c159, c160, c161, c162, c163, c164, c165, c166, c167, c168, c169, c170, c171, c172, c173, c174, c175, c176, c177, c178, c179, c180, c181, c182, c183, c184, c185, c186, c187, c188, c189, c190, c191, c192, c193, c194, c195, c196, c197, c198, c199, c200, c201, c202, c203, c204, c205, c206, c207], []⟩ W') :
    C.wpIn Fence.wide 6 Tryd.prog (Exit.inBlock 0 Q) ⟨List.toArray [c0, c1, .pointer (some ⟨o.heap.size, 0, none⟩), c3, c4, c5, .pointer (some ⟨mb, 0, none⟩), .pointer (some ⟨nb, 0, none⟩), .int .i64 0, .int .i64 0, c10, c11, c12, c13, c14, c15, c16, c17, c18, c19, c20, c21, c22, c23, c24, c25, c26, c27, c28, c29, c30, c31, c32, c33, c34, c35, c36, c37, c38, c39, c40, c41, c42, c43, c44, c45, c46, c47, c48, c49, c50, c51, c52, c53, c54, c55, c56, c57, c58, c59, c60, c61, c62, c63, c64, c65, c66, c67, c68, c69, c70, c71, c72, c73, c74, c75, c76, c77, c78, c79, c80, c81, c82, c83, c84, c85, c86, c87, c88, c89, c90, c91, c92, c93, c94, c95, c96, c97, c98, c99, c100, c101, c102, c103, c104, c105, c106, c107, c108, c109, c110, c111, c112, c113, c114, c115, c116, c117, c118, c119, c120, c121, c122, c123, c124, c125, c126, c127, c128, c129, c130, c131, c132, c133, c134, c135, c136, c137, c138, c139, c140, c141, c142, c143, c144, c145, c146, c147, c148, c149, c150, c151, c152, c153, c154, c155, c156, c157, c158, c159, c160, c161, c162, c163, c164, c165, c166, c167, c168, c169, c170, c171, c172, c173, c174, c175, c176, c177, c178, c179, c180, c181, c182, c183, c184, c185, c186, c187, c188, c189, c190, c191, c192, c193, c194, c195, c196, c197, c198, c199, c200, c201, c202, c203, c204, c205, c206, c207], []⟩ W := by
  subst hC
  exact loop1_any hI ho hNaN hzb hzl hzc hend
end
theorem deep_in {W : World} {g : Nat} (hg : W.heap[g]? = some (.cells #[.int .i64 2, .string ⟨#[105, 110, 116]⟩, .int .i64 1, .int .u64 0, .string ⟨#[]⟩, .int .i64 0, .int .i64 0, .int .i64 0, .int .i64 0, .slice none 0 0, .slice none 0 0, .int .i64 3, .string ⟨#[102, 108, 111, 97, 116]⟩, .int .i64 0, .int .u64 9221120237041090561, .string ⟨#[]⟩, .int .i64 0, .int .i64 0, .int .i64 0, .int .i64 0, .slice none 0 0, .slice none 0 0, .int .i64 5, .string ⟨#[108, 105, 115, 116]⟩, .int .i64 0, .int .u64 0, .string ⟨#[]⟩, .int .i64 0, .int .i64 0, .int .i64 0, .int .i64 0, .slice none 0 0, .slice none 0 0] 39 (0, 0))) : MD.In W.heap.size W 4 (deepD (some ⟨g, 0, none⟩)) ∧ Tg W 4 (deepD (some ⟨g, 0, none⟩)) := by
  have each : ∀ (i : Nat) (hi : i < [wholeD 1, nanD, listD].length), MD.CellsAt W g (0 + i * 11) [wholeD 1, nanD, listD][i] ∧ MD.In W.heap.size W 3 [wholeD 1, nanD, listD][i] ∧ Tg W 3 [wholeD 1, nanD, listD][i] := fun i hi => by
    match i, hi with
    | 0, _ => exact ⟨fun j hj => (row_at hg _).trans (by rcases (by omega : j = 0 ∨ j = 1 ∨ j = 2 ∨ j = 3 ∨ j = 4 ∨ j = 5 ∨ j = 6 ∨ j = 7 ∨ j = 8 ∨ j = 9 ∨ j = 10) with rfl | rfl | rfl | rfl | rfl | rfl | rfl | rfl | rfl | rfl | rfl <;> rfl), ⟨(wIn W 1).1, ⟨by simp [wholeD], .inl rfl⟩, Nat.le_refl _, Nat.zero_le _, .inl rfl⟩, .inl rfl, .inl rfl⟩
    | 1, _ => exact ⟨fun j hj => (row_at hg _).trans (by rcases (by omega : j = 0 ∨ j = 1 ∨ j = 2 ∨ j = 3 ∨ j = 4 ∨ j = 5 ∨ j = 6 ∨ j = 7 ∨ j = 8 ∨ j = 9 ∨ j = 10) with rfl | rfl | rfl | rfl | rfl | rfl | rfl | rfl | rfl | rfl | rfl <;> rfl), ⟨(nan_in W.heap.size W).1, ⟨by simp [nanD], .inl rfl⟩, Nat.le_refl _, Nat.zero_le _, .inl rfl⟩, .inl rfl, .inl rfl⟩
    | 2, _ => exact ⟨fun j hj => (row_at hg _).trans (by rcases (by omega : j = 0 ∨ j = 1 ∨ j = 2 ∨ j = 3 ∨ j = 4 ∨ j = 5 ∨ j = 6 ∨ j = 7 ∨ j = 8 ∨ j = 9 ∨ j = 10) with rfl | rfl | rfl | rfl | rfl | rfl | rfl | rfl | rfl | rfl | rfl <;> rfl), ⟨(list_in W.heap.size W).1, ⟨by simp [listD], .inl rfl⟩, Nat.le_refl _, Nat.zero_le _, .inl rfl⟩, .inl rfl, .inl rfl⟩
    | i + 3, h => exact absurd h (by simp)
  refine ⟨⟨?_, ⟨by simp [deepD], .inl rfl⟩, Nat.le_refl _, by show 3 ≤ maxLen; unfold maxLen; omega, .inr ⟨g, 0, rfl, row_ltT hg, fun i hi => ⟨(each i hi).1, (each i hi).2.1⟩⟩⟩, .inl rfl, .inr ⟨g, 0, _, rfl, hg, fun i hi => (each i hi).2.2⟩⟩
  refine ⟨?_, ?_, ?_, ?_, ?_, ?_, ?_, ?_, ?_, ?_, ?_, ?_, ?_, ?_, ?_, ?_, ?_, ?_⟩ <;> first | decide | exact Nat.le_of_ble_eq_true rfl | (simp [deepD]; done)
/-- The box of N is written over: N is a struct that holds the NaN. -/
theorem deep_li {w W2 W6 W7 : World} {m g : Nat} {G : KG} {pp : Option Addr} {zs : List Int} {cp : Nat} (h2 : St w m W2 [] G) (h6 : LI w m W2.heap.size (W2.heap.size + 1) nanD pp zs cp 0 0 W6) (hg : W6.heap[g]? = some (.cells #[.int .i64 2, .string ⟨#[105, 110, 116]⟩, .int .i64 1, .int .u64 0, .string ⟨#[]⟩, .int .i64 0, .int .i64 0, .int .i64 0, .int .i64 0, .slice none 0 0, .slice none 0 0, .int .i64 3, .string ⟨#[102, 108, 111, 97, 116]⟩, .int .i64 0, .int .u64 9221120237041090561, .string ⟨#[]⟩, .int .i64 0, .int .i64 0, .int .i64 0, .int .i64 0, .slice none 0 0, .slice none 0 0, .int .i64 5, .string ⟨#[108, 105, 115, 116]⟩, .int .i64 0, .int .u64 0, .string ⟨#[]⟩, .int .i64 0, .int .i64 0, .int .i64 0, .int .i64 0, .slice none 0 0, .slice none 0 0] 39 (0, 0))) (hgz : W2.heap.size + 1 < g)
    (hn : W7.heap[W2.heap.size + 1]? = some (.cells (deepD (some ⟨g, 0, none⟩)).cells 39 (0, 0))) (ho : ∀ b, b ≠ W2.heap.size + 1 → W7.heap[b]? = W6.heap[b]?) (hbl : Below w.heap.size w W7) (hKM : KM 4 W6 m [] G) :
    LI w m W2.heap.size (W2.heap.size + 1) (deepD (some ⟨g, 0, none⟩)) pp zs cp 0 0 W7 := by
  have hd := deep_in ((ho g (by omega)).trans hg)
  have hlt : ∀ b, KM.own m [] G b → b < W2.heap.size + 1 := fun b hb => Nat.lt_succ_of_lt (h2.map.ownLt hb)
  have hkm : KM 4 W7 m [] G := by
    obtain ⟨cur, c1, c2, c3⟩ := hKM.heads
    exact ⟨(ho m (Nat.ne_of_lt (hlt _ (.inl rfl)))).trans hKM.map, hKM.L1, hKM.Lc, hKM.Lm, hKM.capm, ⟨cur, (ho _ (Nat.ne_of_lt (hlt _ (.inr (.inl rfl))))).trans c1, c2, c3⟩, (ho _ (Nat.ne_of_lt (hlt _ (.inr (.inr (.inl rfl)))))).trans hKM.ring, (fun e he => by cases he), (fun e he => by cases he), hKM.adj, hKM.nod, hKM.chain, hKM.fit, hKM.key, hKM.apart⟩
  have hne : ∀ {b : Nat} {cs : Array Value} {t : TypeId}, W6.heap[b]? = some (.cells cs t (0, 0)) → t ≠ 39 → W7.heap[b]? = some (.cells cs t (0, 0)) := fun hb ht => (ho _ (fun q => by
    rw [q, h6.nan.cells] at hb
    cases hb
    exact ht rfl)).trans hb
  exact ⟨⟨[], G, ⟨hbl, hkm, h2.own⟩, KN.nil⟩, hne h6.lb (by decide), hne h6.rb (by decide), hne h6.mp (by decide), hn, hd.1, hd.2⟩
attribute [local go_sem] Oper.semAt_some
set_option maxRecDepth 100000 in
set_option maxHeartbeats 16000000 in
theorem neverLaw_any (pp : Option Addr) (zs : List Int) (cp : Nat) (deep : Bool) (w : World) (ho : NamesAt w) (hzb : ∀ z ∈ zs, -9223372036854775808 ≤ z ∧ z ≤ 9223372036854775807) (hzl : zs.length ≤ 9223372036854775807)
    (hzc : zs = [] ∨ ∃ b f, pp = some ⟨b, f, none⟩ ∧ b < w.heap.size ∧ ∀ (i : Nat) (hi : i < zs.length), w.cell? ⟨b, f + i, none⟩ = some (.int .i64 zs[i])) :
    Calls Tryd.prog 4 #[.slice pp zs.length cp, .bool deep] w fun r w' => r = .returned (.bool true) ∧ Below w.heap.size w w' := by
  have HN : Hid (NamesAt w) := ho
  have HP : Hid ((∀ z ∈ zs, -9223372036854775808 ≤ z ∧ z ≤ 9223372036854775807) ∧ zs.length ≤ 9223372036854775807 ∧ (zs = [] ∨ ∃ b f, pp = some ⟨b, f, none⟩ ∧ b < w.heap.size ∧ ∀ (i : Nat) (hi : i < zs.length), w.cell? ⟨b, f + i, none⟩ = some (.int .i64 zs[i]))) := ⟨hzb, hzl, hzc⟩
  clear ho hzb hzl hzc
  refine (callsIn_wide (n := 6)).1 ?_
  refine callsIn_of_wp_marks Tryd.func4 rfl trivial ?_ rfl
  obtain ⟨R, hR⟩ : ∃ R : Ending → World → Prop, R = fun r w' => r = .returned (.bool true) ∧ Below w.heap.size w w' := ⟨_, rfl⟩
  have HR : Hid (∀ w', Below w.heap.size w w' → R (.returned (.bool true)) w') := fun w' h => by rw [hR]; exact ⟨rfl, h⟩
  rw [← hR]
  clear hR
  obtain ⟨Q, hQ⟩ : ∃ Q, Q = bodyPostM Fence.wide 6 Tryd.prog Tryd.f4 R := ⟨_, rfl⟩
  rw [← hQ]
  have HQ : Hid (Q = bodyPostM Fence.wide 6 Tryd.prog Tryd.f4 R) := hQ
  clear hQ
  simp only [Tryd.ntmps4, List.size_toArray, List.length_cons, List.length_nil, Nat.reduceAdd, Nat.reduceSub, Array.replicate_succ, Array.replicate_zero, List.push_toArray, List.append_toArray, List.nil_append, List.cons_append]
  gi_wp2_with fail
  refine ⟨trivial, (callsIn_wide.2 (known_any _ (HN.out.kept (below2 _ _ _)))).mono ?_⟩
  rintro r W1 ⟨rfl, b1⟩
  have q1 : Below w.heap.size w W1 := (below2 _ _ _).trans (b1.mono (by simp; omega))
  have hl1 : W1.heap[w.heap.size]? = some (.cells #[.slice pp zs.length cp] 27 (0, 0)) := (b1.block w.heap.size (by simp; omega)).trans ((Below.heap_alloc _ _ _ (by simp)).trans (heap_alloc_new _ _))
  have hr1 : W1.heap[w.heap.size + 1]? = some (.cells #[.bool false] 4 (0, 0)) := (b1.block (w.heap.size + 1) (by simp)).trans (by have := heap_alloc_new (w.alloc (.cells #[.slice pp zs.length cp] 27)) (.cells #[.bool false] 4); rwa [World.size_alloc] at this)
  have H1 : Hid (Below w.heap.size w W1 ∧ W1.heap[w.heap.size]? = some (.cells #[.slice pp zs.length cp] 27 (0, 0)) ∧ W1.heap[w.heap.size + 1]? = some (.cells #[.bool false] 4 (0, 0))) := ⟨q1, hl1, hr1⟩
  clear b1 q1 hl1 hr1
  gi_wp2_with fail
  refine ⟨trivial, (callsIn_wide.2 (new_any 4 W1)).mono ?_⟩
  rintro r W2 ⟨m, G, rfl, k2, b2, o2⟩
  have H2 : Hid (St w m W2 [] G ∧ W2.heap[w.heap.size]? = some (.cells #[.slice pp zs.length cp] 27 (0, 0)) ∧ W2.heap[w.heap.size + 1]? = some (.cells #[.bool false] 4 (0, 0))) := ⟨⟨H1.out.1.trans (b2.mono H1.out.1.size), k2, fun b hb => Nat.le_trans H1.out.1.size (o2 b hb)⟩, (b2.block _ (row_ltT H1.out.2.1)).trans H1.out.2.1, (b2.block _ (row_ltT H1.out.2.2)).trans H1.out.2.2⟩
  clear k2 b2 o2 H1
  cases deep with
  | false =>
    gi_wp2_with fail
    obtain ⟨W3, h3⟩ : ∃ X, X = (W2.alloc (.cells #[.pointer (some ⟨m, 0, none⟩)] 24)).alloc (.cells nanD.cells 39) := ⟨_, rfl⟩
    have b3 : Below W2.heap.size W2 W3 := by rw [h3]; exact below2 _ _ _
    have hz3 : W3.heap.size = W2.heap.size + 2 := by rw [h3]; simp
    have m3 : W3.heap[W2.heap.size]? = some (.cells #[.pointer (some ⟨m, 0, none⟩)] 24 (0, 0)) := by rw [h3]; exact (Below.heap_alloc _ _ _ (by simp)).trans (heap_alloc_new _ _)
    have n3 : W3.heap[W2.heap.size + 1]? = some (.cells nanD.cells 39 (0, 0)) := by
      have := heap_alloc_new (W2.alloc (.cells #[.pointer (some ⟨m, 0, none⟩)] 24)) (.cells nanD.cells 39)
      rw [World.size_alloc] at this
      rw [h3]; exact this
    have H3 : Hid (LI w m W2.heap.size (W2.heap.size + 1) nanD pp zs cp 0 0 W3) := ⟨⟨[], G, H2.out.1.later b3, KN.nil⟩, (b3.block _ (row_ltT H2.out.2.1)).trans H2.out.2.1, (b3.block _ (row_ltT H2.out.2.2)).trans H2.out.2.2, m3, n3, nan_in _ _, .inl rfl, .inl rfl⟩
    have HK3 : Hid (KM 4 W3 m [] G) := H2.out.1.map.keep b3
    have e3 : W3 = (W2.alloc (.cells #[.pointer (some ⟨m, 0, none⟩)] 24)).alloc (.cells #[.int .i64 3, .string ⟨#[102, 108, 111, 97, 116]⟩, .int .i64 0, .int .u64 9221120237041090561, .string ⟨#[]⟩, .int .i64 0, .int .i64 0, .int .i64 0, .int .i64 0, .slice none 0 0, .slice none 0 0] 39) := h3
    rw [← e3]
    clear h3 e3 m3 b3
    clear n3 hz3
    refine loop1_at (by kernel_rfl) H3.out HN.out nan_NaN HP.out.1 HP.out.2.1 HP.out.2.2 ?_
    intros
    rename_i K hKK _ _ _ _ _ _ _ _ _ _ _ _ _ _ _ _ _ _ _ _ _ _ _ _ _ _ _ _ _ _ _ _ _ _ _ _ _ _ _ _ _ _ _ _ _ n5 W5' hI5
    obtain ⟨es, G5, s1, s2⟩ := hI5.map
    rw [List.take_length] at s2
    refine hKK _ _ ?_
    rw [HQ.out]
    exact mid_at (by kernel_rfl) s1 HN.out nan_NaN s2 hI5.lb hI5.rb hI5.mp hI5.nan HP.out.1 HP.out.2.1 HP.out.2.2 HR.out
  | true =>
    gi_wp2_with fail
    obtain ⟨W3, h3⟩ : ∃ X, X = (W2.alloc (.cells #[.pointer (some ⟨m, 0, none⟩)] 24)).alloc (.cells nanD.cells 39) := ⟨_, rfl⟩
    have b3 : Below W2.heap.size W2 W3 := by rw [h3]; exact below2 _ _ _
    have hz3 : W3.heap.size = W2.heap.size + 2 := by rw [h3]; simp
    have m3 : W3.heap[W2.heap.size]? = some (.cells #[.pointer (some ⟨m, 0, none⟩)] 24 (0, 0)) := by rw [h3]; exact (Below.heap_alloc _ _ _ (by simp)).trans (heap_alloc_new _ _)
    have n3 : W3.heap[W2.heap.size + 1]? = some (.cells nanD.cells 39 (0, 0)) := by
      have := heap_alloc_new (W2.alloc (.cells #[.pointer (some ⟨m, 0, none⟩)] 24)) (.cells nanD.cells 39)
      rw [World.size_alloc] at this
      rw [h3]; exact this
    have H3 : Hid (LI w m W2.heap.size (W2.heap.size + 1) nanD pp zs cp 0 0 W3) := ⟨⟨[], G, H2.out.1.later b3, KN.nil⟩, (b3.block _ (row_ltT H2.out.2.1)).trans H2.out.2.1, (b3.block _ (row_ltT H2.out.2.2)).trans H2.out.2.2, m3, n3, nan_in _ _, .inl rfl, .inl rfl⟩
    have HK3 : Hid (KM 4 W3 m [] G) := H2.out.1.map.keep b3
    have e3 : W3 = (W2.alloc (.cells #[.pointer (some ⟨m, 0, none⟩)] 24)).alloc (.cells #[.int .i64 3, .string ⟨#[102, 108, 111, 97, 116]⟩, .int .i64 0, .int .u64 9221120237041090561, .string ⟨#[]⟩, .int .i64 0, .int .i64 0, .int .i64 0, .int .i64 0, .slice none 0 0, .slice none 0 0] 39) := h3
    rw [← e3]
    clear h3 e3 m3 b3
    refine wpIn_wide.2 ?_
    refine wp_region_noPanic ?_
    refine wp_region_held (S := fun W => True) (by kernel_rfl) ?_
    obtain ⟨W4, hW4⟩ : ∃ W4, W4 = (W3).drew := ⟨_, rfl⟩
    have e4 : ({ W3 with drawn := (W3).drawn + 1 } : World) = W4 := hW4.symm
    rw [e4]
    have hB4 : Below (W3).heap.size (W3) W4 := by rw [hW4]; exact (Below.refl _ _).drew
    have hS : True := trivial
    have HW4 : Hid (W4 = (W3).drew) := hW4
    clear e4 hW4
    have HK4 : Hid (KM 4 W4 m [] G) := (HK3.out.keep hB4)
    have H4 : Hid (LI w m W2.heap.size (W2.heap.size + 1) nanD pp zs cp 0 0 W4) := H3.out.below hB4
    have hz4 := hB4.size
    have zn4 := row_ltT H4.out.nan.cells
    have hcn4 : ∀ i, W4.cell? ⟨W2.heap.size + 1, i, none⟩ = (#[.int .i64 3, .string ⟨#[102, 108, 111, 97, 116]⟩, .int .i64 0, .int .u64 9221120237041090561, .string ⟨#[]⟩, .int .i64 0, .int .i64 0, .int .i64 0, .int .i64 0, .slice none 0 0, .slice none 0 0] : Array Value)[i]? := fun i => row_at H4.out.nan.cells i
    clear hB4 HW4 n3
    refine wpAnyH_take (i := 2) (v := .agg #[.int .i64 5, .string ⟨#[108, 105, 115, 116]⟩, .int .i64 0, .int .u64 0, .string ⟨#[]⟩, .int .i64 0, .int .i64 0, .int .i64 0, .int .i64 0, .slice none 0 0, .slice none 0 0]) rfl (by kernel_rfl) (by kernel_rfl) (by kernel_rfl) (fun _ _ _ h => h) (Or.inl ⟨by rfl, ?r⟩) hS ?_
    case r => intro W hW; simp [go_sem, execOp, Act.eval]
    simp only [List.getElem_toArray, List.getElem_cons_zero, List.getElem_cons_succ, Act.put, List.setIfInBounds_toArray, List.set_cons_succ, List.set_cons_zero]
    refine wpAnyH_all (rs := [0, 1]) (by kernel_rfl) (by simp) (fun i2 hi2 => ?_)
    rcases (by simpa using hi2 : i2 = 0 ∨ i2 = 1) with rfl | rfl
    · clear hi2
      refine wpOp_step rfl (fun K hK => ite_yes rfl ?_)
      simp only [List.getElem_toArray, List.getElem_cons_zero]
      go_simp
      refine (whole_val 1 _).mono ?_
      rintro r W5 ⟨rfl, b5⟩
      have HK5 : Hid (KM 4 W5 m [] G) := HK4.out.keep b5
      have H5 : Hid (LI w m W2.heap.size (W2.heap.size + 1) nanD pp zs cp 0 0 W5) := H4.out.below b5
      have hz5 := b5.size
      have zn5 := row_ltT H5.out.nan.cells
      have hcn5 : ∀ i, W5.cell? ⟨W2.heap.size + 1, i, none⟩ = (#[.int .i64 3, .string ⟨#[102, 108, 111, 97, 116]⟩, .int .i64 0, .int .u64 9221120237041090561, .string ⟨#[]⟩, .int .i64 0, .int .i64 0, .int .i64 0, .int .i64 0, .slice none 0 0, .slice none 0 0] : Array Value)[i]? := fun i => row_at H5.out.nan.cells i
      clear b5 hcn4
      go_simp
      refine hK _ _ ⟨trivial, ?_⟩
      clear hK K
      try simp only [Act.put, List.setIfInBounds_toArray, List.set_cons_succ, List.set_cons_zero]
      refine wpAnyH_all (rs := [1]) (by kernel_rfl) (by simp) (fun i2 hi2 => ?_)
      obtain rfl : i2 = 1 := by simpa using hi2
      clear hi2
      refine wpOp_step rfl (fun K hK => ite_yes rfl ?_)
      simp only [List.getElem_toArray, List.getElem_cons_zero, List.getElem_cons_succ]
      go_simp
      refine hK _ _ ⟨trivial, ?_⟩
      clear hK K
      try simp only [Act.put, List.setIfInBounds_toArray, List.set_cons_succ, List.set_cons_zero]
      simp only [MD.val, D, wholeD, List.length_nil]
      refine wpAnyH_all (rs := [3]) (by kernel_rfl) (by simp) (fun i2 hi2 => ?_)
      obtain rfl : i2 = 3 := by simpa using hi2
      clear hi2
      refine wpOp_step rfl (fun K hK => ite_yes rfl ?_)
      simp only [List.getElem_toArray, List.getElem_cons_zero, List.getElem_cons_succ]
      go_simp
      obtain ⟨W6, h6⟩ : ∃ X, X = W5.alloc (.cells #[.int .i64 2, .string ⟨#[105, 110, 116]⟩, .int .i64 1, .int .u64 0, .string ⟨#[]⟩, .int .i64 0, .int .i64 0, .int .i64 0, .int .i64 0, .slice none 0 0, .slice none 0 0, .int .i64 3, .string ⟨#[102, 108, 111, 97, 116]⟩, .int .i64 0, .int .u64 9221120237041090561, .string ⟨#[]⟩, .int .i64 0, .int .i64 0, .int .i64 0, .int .i64 0, .slice none 0 0, .slice none 0 0, .int .i64 5, .string ⟨#[108, 105, 115, 116]⟩, .int .i64 0, .int .u64 0, .string ⟨#[]⟩, .int .i64 0, .int .i64 0, .int .i64 0, .int .i64 0, .slice none 0 0, .slice none 0 0] 39) := ⟨_, rfl⟩
      have b6 : Below W5.heap.size W5 W6 := by rw [h6]; exact below1 _ _
      have r6 : W6.heap[W5.heap.size]? = some (.cells #[.int .i64 2, .string ⟨#[105, 110, 116]⟩, .int .i64 1, .int .u64 0, .string ⟨#[]⟩, .int .i64 0, .int .i64 0, .int .i64 0, .int .i64 0, .slice none 0 0, .slice none 0 0, .int .i64 3, .string ⟨#[102, 108, 111, 97, 116]⟩, .int .i64 0, .int .u64 9221120237041090561, .string ⟨#[]⟩, .int .i64 0, .int .i64 0, .int .i64 0, .int .i64 0, .slice none 0 0, .slice none 0 0, .int .i64 5, .string ⟨#[108, 105, 115, 116]⟩, .int .i64 0, .int .u64 0, .string ⟨#[]⟩, .int .i64 0, .int .i64 0, .int .i64 0, .int .i64 0, .slice none 0 0, .slice none 0 0] 39 (0, 0)) := by rw [h6]; exact heap_alloc_new _ _
      have HK6 : Hid (KM 4 W6 m [] G) := HK5.out.keep b6
      have H6 : Hid (LI w m W2.heap.size (W2.heap.size + 1) nanD pp zs cp 0 0 W6) := H5.out.below b6
      have zn6 := row_ltT H6.out.nan.cells
      have hcn6 : ∀ i, W6.cell? ⟨W2.heap.size + 1, i, none⟩ = (#[.int .i64 3, .string ⟨#[102, 108, 111, 97, 116]⟩, .int .i64 0, .int .u64 9221120237041090561, .string ⟨#[]⟩, .int .i64 0, .int .i64 0, .int .i64 0, .int .i64 0, .slice none 0 0, .slice none 0 0] : Array Value)[i]? := fun i => row_at H6.out.nan.cells i
      have hfA := fun j => fz _ _ _ _ j H6.out.nan.cells
      rw [← h6]
      clear h6 b6
      refine hK _ _ ⟨trivial, ?_⟩
      clear hK K
      try simp only [Act.put, List.setIfInBounds_toArray, List.set_cons_succ, List.set_cons_zero]
      refine wpAnyH_take (i := 4) (v := .agg #[.int .i64 8, .string ⟨#[83]⟩, .int .i64 0, .int .u64 0, .string ⟨#[]⟩, .int .i64 0, .int .i64 0, .int .i64 0, .int .i64 0, .slice none 0 0, .slice (some ⟨W5.heap.size, 0, none⟩) 3 3]) rfl (by kernel_rfl) (by kernel_rfl) (by kernel_rfl) (fun _ _ _ h => h) (Or.inl ⟨by rfl, ?r⟩) hS ?_
      case r => intro W hW; simp [go_sem, execOp, Act.eval]
      simp only [List.getElem_toArray, List.getElem_cons_zero, List.getElem_cons_succ, Act.put, List.setIfInBounds_toArray, List.set_cons_succ, List.set_cons_zero]
      refine wpAnyH_all (rs := [5]) (by kernel_rfl) (by simp) (fun i2 hi2 => ?_)
      obtain rfl : i2 = 5 := by simpa using hi2
      clear hi2
      refine wpOp_step rfl (fun K hK => ite_yes rfl ?_)
      simp only [List.getElem_toArray, List.getElem_cons_zero, List.getElem_cons_succ]
      go_simp
      obtain ⟨W7, h7⟩ : ∃ X, X = (((((((((((W6.setCell ⟨W2.heap.size + 1, 0, none⟩ (.int .i64 8)).setCell ⟨W2.heap.size + 1, 1, none⟩ (.string ⟨#[83]⟩)).setCell ⟨W2.heap.size + 1, 2, none⟩ (.int .i64 0)).setCell ⟨W2.heap.size + 1, 3, none⟩ (.int .u64 0)).setCell ⟨W2.heap.size + 1, 4, none⟩ (.string ⟨#[]⟩)).setCell ⟨W2.heap.size + 1, 5, none⟩ (.int .i64 0)).setCell ⟨W2.heap.size + 1, 6, none⟩ (.int .i64 0)).setCell ⟨W2.heap.size + 1, 7, none⟩ (.int .i64 0)).setCell ⟨W2.heap.size + 1, 8, none⟩ (.int .i64 0)).setCell ⟨W2.heap.size + 1, 9, none⟩ (.slice none 0 0)).setCell ⟨W2.heap.size + 1, 10, none⟩ (.slice (some ⟨W5.heap.size, 0, none⟩) 3 3)) := ⟨_, rfl⟩
      have H7 : Hid (LI w m W2.heap.size (W2.heap.size + 1) (deepD (some ⟨W5.heap.size, 0, none⟩)) pp zs cp 0 0 W7) := by
        rw [h7]
        refine deep_li H2.out.1 H6.out r6 (by omega) ?_ ?_ ?_ HK6.out
        · exact eleven_row H6.out.nan.cells _ _ _ _ _ _ _ _ _ _ _
        · exact fun b hb => eleven_only _ _ _ hb _ _ _ _ _ _ _ _ _ _ _
        · obtain ⟨es, G', q1, _⟩ := H6.out.map
          exact bset q1.old (by have := H2.out.1.old.size; omega) _ _ _ _ _ _ _ _ _ _ _
      rw [← h7]
      clear h7
      refine hK _ _ ⟨trivial, ?_⟩
      clear hK K
      try simp only [Act.put, List.setIfInBounds_toArray, List.set_cons_succ, List.set_cons_zero]
      refine wpAnyH_done (by kernel_rfl) ?_ _
      refine NoPanic.normal ?_
      try simp only [Act.put]
      clear hcn6 hfA r6 hz3 hz4
      gi_wp2_with fail
      refine loop1_at (by kernel_rfl) H7.out HN.out (deep_NaN _) HP.out.1 HP.out.2.1 HP.out.2.2 ?_
      intros
      rename_i K hKK _ _ _ _ _ _ _ _ _ _ _ _ _ _ _ _ _ _ _ _ _ _ _ _ _ _ _ _ _ _ _ _ _ _ _ _ _ _ _ _ _ _ _ _ _ n5 W5' hI5
      obtain ⟨es, G5, s1, s2⟩ := hI5.map
      rw [List.take_length] at s2
      refine hKK _ _ ?_
      rw [HQ.out]
      exact mid_at (by kernel_rfl) s1 HN.out (deep_NaN _) s2 hI5.lb hI5.rb hI5.mp hI5.nan HP.out.1 HP.out.2.1 HP.out.2.2 HR.out
    · clear hi2
      refine wpOp_step rfl (fun K hK => ite_yes rfl ?_)
      simp only [List.getElem_toArray, List.getElem_cons_zero, List.getElem_cons_succ]
      go_simp
      refine hK _ _ ⟨trivial, ?_⟩
      clear hK K
      try simp only [Act.put, List.setIfInBounds_toArray, List.set_cons_succ, List.set_cons_zero]
      refine wpAnyH_all (rs := [0]) (by kernel_rfl) (by simp) (fun i2 hi2 => ?_)
      obtain rfl : i2 = 0 := by simpa using hi2
      clear hi2
      refine wpOp_step rfl (fun K hK => ite_yes rfl ?_)
      simp only [List.getElem_toArray, List.getElem_cons_zero]
      go_simp
      refine (whole_val 1 _).mono ?_
      rintro r W5 ⟨rfl, b5⟩
      have HK5 : Hid (KM 4 W5 m [] G) := HK4.out.keep b5
      have H5 : Hid (LI w m W2.heap.size (W2.heap.size + 1) nanD pp zs cp 0 0 W5) := H4.out.below b5
      have hz5 := b5.size
      have zn5 := row_ltT H5.out.nan.cells
      have hcn5 : ∀ i, W5.cell? ⟨W2.heap.size + 1, i, none⟩ = (#[.int .i64 3, .string ⟨#[102, 108, 111, 97, 116]⟩, .int .i64 0, .int .u64 9221120237041090561, .string ⟨#[]⟩, .int .i64 0, .int .i64 0, .int .i64 0, .int .i64 0, .slice none 0 0, .slice none 0 0] : Array Value)[i]? := fun i => row_at H5.out.nan.cells i
      clear b5 hcn4
      go_simp
      refine hK _ _ ⟨trivial, ?_⟩
      clear hK K
      try simp only [Act.put, List.setIfInBounds_toArray, List.set_cons_succ, List.set_cons_zero]
      simp only [MD.val, D, wholeD, List.length_nil]
      refine wpAnyH_all (rs := [3]) (by kernel_rfl) (by simp) (fun i2 hi2 => ?_)
      obtain rfl : i2 = 3 := by simpa using hi2
      clear hi2
      refine wpOp_step rfl (fun K hK => ite_yes rfl ?_)
      simp only [List.getElem_toArray, List.getElem_cons_zero, List.getElem_cons_succ]
      go_simp
      obtain ⟨W6, h6⟩ : ∃ X, X = W5.alloc (.cells #[.int .i64 2, .string ⟨#[105, 110, 116]⟩, .int .i64 1, .int .u64 0, .string ⟨#[]⟩, .int .i64 0, .int .i64 0, .int .i64 0, .int .i64 0, .slice none 0 0, .slice none 0 0, .int .i64 3, .string ⟨#[102, 108, 111, 97, 116]⟩, .int .i64 0, .int .u64 9221120237041090561, .string ⟨#[]⟩, .int .i64 0, .int .i64 0, .int .i64 0, .int .i64 0, .slice none 0 0, .slice none 0 0, .int .i64 5, .string ⟨#[108, 105, 115, 116]⟩, .int .i64 0, .int .u64 0, .string ⟨#[]⟩, .int .i64 0, .int .i64 0, .int .i64 0, .int .i64 0, .slice none 0 0, .slice none 0 0] 39) := ⟨_, rfl⟩
      have b6 : Below W5.heap.size W5 W6 := by rw [h6]; exact below1 _ _
      have r6 : W6.heap[W5.heap.size]? = some (.cells #[.int .i64 2, .string ⟨#[105, 110, 116]⟩, .int .i64 1, .int .u64 0, .string ⟨#[]⟩, .int .i64 0, .int .i64 0, .int .i64 0, .int .i64 0, .slice none 0 0, .slice none 0 0, .int .i64 3, .string ⟨#[102, 108, 111, 97, 116]⟩, .int .i64 0, .int .u64 9221120237041090561, .string ⟨#[]⟩, .int .i64 0, .int .i64 0, .int .i64 0, .int .i64 0, .slice none 0 0, .slice none 0 0, .int .i64 5, .string ⟨#[108, 105, 115, 116]⟩, .int .i64 0, .int .u64 0, .string ⟨#[]⟩, .int .i64 0, .int .i64 0, .int .i64 0, .int .i64 0, .slice none 0 0, .slice none 0 0] 39 (0, 0)) := by rw [h6]; exact heap_alloc_new _ _
      have HK6 : Hid (KM 4 W6 m [] G) := HK5.out.keep b6
      have H6 : Hid (LI w m W2.heap.size (W2.heap.size + 1) nanD pp zs cp 0 0 W6) := H5.out.below b6
      have zn6 := row_ltT H6.out.nan.cells
      have hcn6 : ∀ i, W6.cell? ⟨W2.heap.size + 1, i, none⟩ = (#[.int .i64 3, .string ⟨#[102, 108, 111, 97, 116]⟩, .int .i64 0, .int .u64 9221120237041090561, .string ⟨#[]⟩, .int .i64 0, .int .i64 0, .int .i64 0, .int .i64 0, .slice none 0 0, .slice none 0 0] : Array Value)[i]? := fun i => row_at H6.out.nan.cells i
      have hfA := fun j => fz _ _ _ _ j H6.out.nan.cells
      rw [← h6]
      clear h6 b6
      refine hK _ _ ⟨trivial, ?_⟩
      clear hK K
      try simp only [Act.put, List.setIfInBounds_toArray, List.set_cons_succ, List.set_cons_zero]
      refine wpAnyH_take (i := 4) (v := .agg #[.int .i64 8, .string ⟨#[83]⟩, .int .i64 0, .int .u64 0, .string ⟨#[]⟩, .int .i64 0, .int .i64 0, .int .i64 0, .int .i64 0, .slice none 0 0, .slice (some ⟨W5.heap.size, 0, none⟩) 3 3]) rfl (by kernel_rfl) (by kernel_rfl) (by kernel_rfl) (fun _ _ _ h => h) (Or.inl ⟨by rfl, ?r⟩) hS ?_
      case r => intro W hW; simp [go_sem, execOp, Act.eval]
      simp only [List.getElem_toArray, List.getElem_cons_zero, List.getElem_cons_succ, Act.put, List.setIfInBounds_toArray, List.set_cons_succ, List.set_cons_zero]
      refine wpAnyH_all (rs := [5]) (by kernel_rfl) (by simp) (fun i2 hi2 => ?_)
      obtain rfl : i2 = 5 := by simpa using hi2
      clear hi2
      refine wpOp_step rfl (fun K hK => ite_yes rfl ?_)
      simp only [List.getElem_toArray, List.getElem_cons_zero, List.getElem_cons_succ]
      go_simp
      obtain ⟨W7, h7⟩ : ∃ X, X = (((((((((((W6.setCell ⟨W2.heap.size + 1, 0, none⟩ (.int .i64 8)).setCell ⟨W2.heap.size + 1, 1, none⟩ (.string ⟨#[83]⟩)).setCell ⟨W2.heap.size + 1, 2, none⟩ (.int .i64 0)).setCell ⟨W2.heap.size + 1, 3, none⟩ (.int .u64 0)).setCell ⟨W2.heap.size + 1, 4, none⟩ (.string ⟨#[]⟩)).setCell ⟨W2.heap.size + 1, 5, none⟩ (.int .i64 0)).setCell ⟨W2.heap.size + 1, 6, none⟩ (.int .i64 0)).setCell ⟨W2.heap.size + 1, 7, none⟩ (.int .i64 0)).setCell ⟨W2.heap.size + 1, 8, none⟩ (.int .i64 0)).setCell ⟨W2.heap.size + 1, 9, none⟩ (.slice none 0 0)).setCell ⟨W2.heap.size + 1, 10, none⟩ (.slice (some ⟨W5.heap.size, 0, none⟩) 3 3)) := ⟨_, rfl⟩
      have H7 : Hid (LI w m W2.heap.size (W2.heap.size + 1) (deepD (some ⟨W5.heap.size, 0, none⟩)) pp zs cp 0 0 W7) := by
        rw [h7]
        refine deep_li H2.out.1 H6.out r6 (by omega) ?_ ?_ ?_ HK6.out
        · exact eleven_row H6.out.nan.cells _ _ _ _ _ _ _ _ _ _ _
        · exact fun b hb => eleven_only _ _ _ hb _ _ _ _ _ _ _ _ _ _ _
        · obtain ⟨es, G', q1, _⟩ := H6.out.map
          exact bset q1.old (by have := H2.out.1.old.size; omega) _ _ _ _ _ _ _ _ _ _ _
      rw [← h7]
      clear h7
      refine hK _ _ ⟨trivial, ?_⟩
      clear hK K
      try simp only [Act.put, List.setIfInBounds_toArray, List.set_cons_succ, List.set_cons_zero]
      refine wpAnyH_done (by kernel_rfl) ?_ _
      refine NoPanic.normal ?_
      try simp only [Act.put]
      clear hcn6 hfA r6 hz3 hz4
      gi_wp2_with fail
      refine loop1_at (by kernel_rfl) H7.out HN.out (deep_NaN _) HP.out.1 HP.out.2.1 HP.out.2.2 ?_
      intros
      rename_i K hKK _ _ _ _ _ _ _ _ _ _ _ _ _ _ _ _ _ _ _ _ _ _ _ _ _ _ _ _ _ _ _ _ _ _ _ _ _ _ _ _ _ _ _ _ _ n5 W5' hI5
      obtain ⟨es, G5, s1, s2⟩ := hI5.map
      rw [List.take_length] at s2
      refine hKK _ _ ?_
      rw [HQ.out]
      exact mid_at (by kernel_rfl) s1 HN.out (deep_NaN _) s2 hI5.lb hI5.rb hI5.mp hI5.nan HP.out.1 HP.out.2.1 HP.out.2.2 HR.out
end Go.Proofs.YtflonmlnedkmjaaDoor
