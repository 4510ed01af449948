/-
  The first loop of KeyedNever.
-/
import Derived.Test.YtflonmlnedkmjaaDoorNk
namespace Go.Proofs.YtflonmlnedkmjaaDoor
open Go.RowKit Go.Shelf
noncomputable def loop1C : Code := (Tryd.f4.body.bind firstLoop).getD .skip
variable {o W W' : World} {m mb nb : Nat} {N : MD} {pp : Option Addr} {zs : List Int} {cp j n : Nat}
/-- What holds in the first loop. -/
structure LI (o : World) (m mb nb : Nat) (N : MD) (pp : Option Addr) (zs : List Int) (cp j n : Nat) (W : World) : Prop where
  map : ∃ es G, St o m W es G ∧ KN N ((zs.take 100).take j) es n
  lb : W.heap[o.heap.size]? = some (.cells #[.slice pp zs.length cp] 27 (0, 0))
  rb : W.heap[o.heap.size + 1]? = some (.cells #[.bool false] 4 (0, 0))
  mp : W.heap[mb]? = some (.cells #[.pointer (some ⟨m, 0, none⟩)] 24 (0, 0))
  nan : Box W 4 nb N
theorem LI.below (h : LI o m mb nb N pp zs cp j n W) (hb : Below W.heap.size W W') : LI o m mb nb N pp zs cp j n W' := by
  obtain ⟨es, G, h1, h2⟩ := h.map
  exact ⟨⟨es, G, h1.later hb, h2⟩, (hb.block _ (row_ltT h.lb)).trans h.lb, (hb.block _ (row_ltT h.rb)).trans h.rb, (hb.block _ (row_ltT h.mp)).trans h.mp, h.nan.keep (Below.keepS (fun _ => False) hb) (fun _ _ _ _ _ h => h)⟩
theorem LI.cells {b f : Nat} {z : Int} (h : LI o m mb nb N pp zs cp j n W) (hp : pp = some ⟨b, f, none⟩ ∧ b < o.heap.size ∧ ∀ (i : Nat) (hi : i < zs.length), o.cell? ⟨b, f + i, none⟩ = some (.int .i64 zs[i])) {i : Nat} (hi : i < zs.length) (hz : z = zs[i]) : W.cell? ⟨o.heap.size, 0, none⟩ = some (.slice (some ⟨b, f, none⟩) zs.length cp) ∧ W.cell? ⟨mb, 0, none⟩ = some (.pointer (some ⟨m, 0, none⟩)) ∧ W.cell? ⟨b, f + i, none⟩ = some (.int .i64 z) ∧ ∀ i, W.cell? ⟨nb, i, none⟩ = (#[.int .i64 N.h.k, .string N.h.t, .int .i64 N.h.n, .int .u64 N.h.f, .string N.h.s, .int .i64 N.h.r0, .int .i64 N.h.r1, .int .i64 N.h.r2, .int .i64 N.h.r3, .slice N.h.pp N.h.path.length N.h.pc, .slice N.ip N.items.length N.ic] : Array Value)[i]? := by
  obtain ⟨es, G, h1, h2⟩ := h.map
  obtain ⟨rfl, e2, e3⟩ := hp
  refine ⟨row_at h.lb 0, row_at h.mp 0, ?_, fun i => row_at h.nan.cells i⟩
  rw [hz]
  exact (h1.old.cell (p := ⟨b, f + i, none⟩) e2).trans (e3 i hi)
theorem LI.put {k v : MD} {n' : Nat} (h : LI o m mb nb N pp zs cp j n W) (ho : NamesAt o) (hk : MD.In W.heap.size W 4 k) (hv : MD.In W.heap.size W 4 v) (hr : MD.right 4 k = true) (hc : (MD.eqv 4 k k).2 = ⟨#[]⟩) (hrv : MD.right 4 v = true)
    (hkn : ∀ es es', KN N ((zs.take 100).take j) es n → ((∃ A e B vb v', es = A ++ e :: B ∧ (MD.eqv 4 e.k k).1 = true ∧ MD.same 4 v v' = true ∧ es' = A ++ { e with vb := vb, v := v' } :: B) ∨
       ((∀ e ∈ es, (MD.eqv 4 e.k k).1 = false) ∧ ∃ e, MD.same 4 k e.k = true ∧ MD.same 4 v e.v = true ∧ es' = es ++ [e])) → KN N ((zs.take 100).take (j + 1)) es' n') :
    Calls Tryd.prog 8 #[.pointer (some ⟨m, 0, none⟩), k.val, v.val] W fun r W' => r = .returned .nilIface ∧ LI o m mb nb N pp zs cp (j + 1) n' W' := by
  obtain ⟨es, G, h1, h2⟩ := h.map
  have hlen : es.length < 1099511627776 := by
    have := h2.len
    rw [List.length_take, List.length_take] at this
    omega
  refine (put_good h1.map (ho.kept h1.old) hk hv hr hc hrv hlen).mono fun r W' ⟨e1, es', G', g1, g2, g3, g4⟩ => ⟨e1, ?_⟩
  have fr : ∀ {b : Nat} {cs : Array Value} {t : TypeId}, W.heap[b]? = some (.cells cs t (0, 0)) → t ≠ 65 ∧ t ≠ 112 ∧ t ≠ 62 → W'.heap[b]? = some (.cells cs t (0, 0)) := fun hb ht => g3.cells hb (h1.map.free hb ht)
  exact ⟨⟨es', G', ⟨h1.keep g3 (fun _ h => h), g1, fun b hb => (g2 b hb).elim (h1.own b) fun hh => Nat.le_trans h1.old.size hh⟩, hkn es es' h2 g4⟩, fr h.lb (by decide), fr h.rb (by decide), fr h.mp (by decide), h.nan.keep g3 h1.map.data⟩
theorem take_next {l : List Int} {z : Int} (h : l[j]? = some z) : l.take (j + 1) = l.take j ++ [z] := by
  rw [List.take_add_one, h]; rfl
theorem LI.putN {b f : Nat} {z : Int} (h : LI o m mb nb N pp zs cp j n W) (_hp : pp = some ⟨b, f, none⟩ ∧ b < o.heap.size ∧ ∀ (i : Nat) (hi : i < zs.length), o.cell? ⟨b, f + i, none⟩ = some (.int .i64 zs[i])) (hi : j < zs.length) (hz : z = zs[j])
    (hP : NamesAt o ∧ NaN N ∧ ∀ z ∈ zs, -9223372036854775808 ≤ z ∧ z ≤ 9223372036854775807) (hj : j < 100) (h3 : z % 3 = 0) :
    Calls Tryd.prog 8 #[.pointer (some ⟨m, 0, none⟩), N.val, (wholeD z).val] W fun r W' => r = .returned .nilIface ∧ LI o m mb nb N pp zs cp (j + 1) (n + 1) W' := by
  have hb := hP.2.2 z (by rw [hz]; exact List.getElem_mem hi)
  have hg : (zs.take 100)[j]? = some z := by rw [List.getElem?_take_of_lt hj, List.getElem?_eq_getElem hi, hz]
  exact h.put hP.1 h.nan.inn (wIn W z hb.1 hb.2) hP.2.1.right (by rw [hP.2.1.self]) (whole_right z) fun es es' h2 h4 => by
    rw [take_next hg]
    exact h2.putN hP.2.1 h3 h4
theorem LI.putZ {b f : Nat} {z : Int} (h : LI o m mb nb N pp zs cp j n W) (_hp : pp = some ⟨b, f, none⟩ ∧ b < o.heap.size ∧ ∀ (i : Nat) (hi : i < zs.length), o.cell? ⟨b, f + i, none⟩ = some (.int .i64 zs[i])) (hi : j < zs.length) (hz : z = zs[j])
    (hP : NamesAt o ∧ NaN N ∧ ∀ z ∈ zs, -9223372036854775808 ≤ z ∧ z ≤ 9223372036854775807) (hj : j < 100) (h3 : z % 3 ≠ 0) :
    Calls Tryd.prog 8 #[.pointer (some ⟨m, 0, none⟩), (wholeD z).val, (wholeD z).val] W fun r W' => r = .returned .nilIface ∧ LI o m mb nb N pp zs cp (j + 1) n W' := by
  have hb := hP.2.2 z (by rw [hz]; exact List.getElem_mem hi)
  have hg : (zs.take 100)[j]? = some z := by rw [List.getElem?_take_of_lt hj, List.getElem?_eq_getElem hi, hz]
  exact h.put hP.1 (wIn W z hb.1 hb.2) (wIn W z hb.1 hb.2) (whole_right z) (whole_key z) (whole_right z) fun es es' h2 h4 => by
    rw [take_next hg]
    exact h2.putZ hP.2.1 h3 h4
attribute [local go_sem] Oper.semAt_some
set_option maxRecDepth 100000 in
set_option maxHeartbeats 16000000 in
theorem loop1_any {Q : Exit → Act → World → Prop} {c0 c1 c3 c4 c5 c10 c11 c12 c13 c14 c15 c16 c17 c18 c19 c20 c21 c22 c23 c24 c25 c26 c27 c28 c29 c30 c31 c32 c33 c34 c35 c36 c37 c38 c39 c40 c41 c42 c43 c44 c45 c46 c47 c48 c49 c50 c51 c52 c53 c54 c55 c56 c57 c58 c59 c60 c61 c62 c63 c64 c65 c66 c67 c68 c69 c70 c71 c72 c73 c74 c75 c76 c77 c78 c79 c80 c81 c82 c83 c84 c85 c86 c87 c88 c89 c90 c91 c92 c93 c94 c95 c96 c97 c98 c99 c100 c101 c102 c103 c104 c105 c106 c107 c108 c109 c110 c111 c112 c113 c114 c115 c116 c117 c118 c119 c120 c121 c122 c123 c124 c125 c126 c127 c128 c129 c130 c131 c132 c133 c134 c135 c136 c137 c138 c139 c140 c141 c142 c143 c144 c145 c146 c147 c148 c149 c150 c151 c152 c153 c154 c155 c156 c157 c158 c159 c160 c161 c162 c163 c164 c165 c166 c167 c168 c169 c170 c171 c172 c173 c174 c175 c176 c177 c178 c179 c180 c181 c182 c183 c184 c185 c186 c187 c188 c189 c190 c191 c192 c193 c194 c195 c196 c197 c198 c199 c200 c201 c202 c203 c204 c205 c206 c207 : Value}
    (hI : LI o m mb nb N pp zs cp 0 0 W) (ho : NamesAt o) (hNaN : NaN N) (hzb : ∀ z ∈ zs, -9223372036854775808 ≤ z ∧ z ≤ 9223372036854775807) (hzl : zs.length ≤ 9223372036854775807)
    (hzc : zs = [] ∨ ∃ b f, pp = some ⟨b, f, none⟩ ∧ b < o.heap.size ∧ ∀ (i : Nat) (hi : i < zs.length), o.cell? ⟨b, f + i, none⟩ = some (.int .i64 zs[i]))
    (hend : ∀ {u9 u10 u11 u44 u45 u46 u47 u48 u49 u50 u51 u52 u53 u54 u55 u56 u57 u58 u59 u60 u61 u62 u63 u64 u65 u66 u67 u68 u69 u70 u71 u72 u73 u74 u75 u76 u77 u78 u79 u80 u81 u82 u83 u84 u85 : Value} (n : Nat) (W' : World), LI o m mb nb N pp zs cp (zs.take 100).length n W' → Q .normal ⟨List.toArray [c0, c1, .pointer (some ⟨o.heap.size, 0, none⟩), c3, c4, c5, .pointer (some ⟨mb, 0, none⟩), .pointer (some ⟨nb, 0, none⟩), .int .i64 (n : Nat), u9, u10, u11, c12, c13, c14, c15, c16, c17, c18, c19, c20, c21, c22, c23, c24, c25, c26, c27, c28, c29, c30, c31, c32, c33, c34, c35, c36, c37, c38, c39, c40, c41, c42, c43, u44, u45, u46, u47, u48, u49, u50, u51, u52, u53, u54, u55, u56, u57, u58, u59, u60, u61, u62, u63, u64, u65, u66, u67, u68, u69, u70, u71, u72, u73, u74, u75, u76, u77, u78, u79, u80, u81, u82, u83, u84, u85, c86, c87, c88, c89, c90, c91, c92, c93, c94, c95, c96, c97, c98, c99, c100, c101, c102, c103, c104, c105, c106, c107, c108, c109, c110, c111, c112, c113, c114, c115, c116, c117, c118, c119, c120, c121, c122, c123, c124, c125, c126, c127, c128, c129, c130, c131, c132, c133, c134, c135, c136, c137, c138, c139, c140, c141, c142, c143, c144, c145, c146, c147, c148, c149, c150, c151, c152, c153, c154, c155, c156, c157, c158, c159, c160, c161, c162, c163, c164, c165, c166, c167, c168, c169, c170, c171, c172, c173, c174, c175, c176, c177, c178, c179, c180, c181, c182, c183, c184, c185, c186, c187, c188, c189, c190, c191, c192, c193, c194, c195, c196, c197, c198, c199, c200, c201, c202, c203, c204, c205, c206, c207], []⟩ W') :
    (Code.loop loop1C).wpIn Fence.wide 6 Tryd.prog (Exit.inBlock 0 Q) ⟨List.toArray [c0, c1, .pointer (some ⟨o.heap.size, 0, none⟩), c3, c4, c5, .pointer (some ⟨mb, 0, none⟩), .pointer (some ⟨nb, 0, none⟩), .int .i64 0, .int .i64 0, c10, c11, c12, c13, c14, c15, c16, c17, c18, c19, c20, c21, c22, c23, c24, c25, c26, c27, c28, c29, c30, c31, c32, c33, c34, c35, c36, c37, c38, c39, c40, c41, c42, c43, c44, c45, c46, c47, c48, c49, c50, c51, c52, c53, c54, c55, c56, c57, c58, c59, c60, c61, c62, c63, c64, c65, c66, c67, c68, c69, c70, c71, c72, c73, c74, c75, c76, c77, c78, c79, c80, c81, c82, c83, c84, c85, c86, c87, c88, c89, c90, c91, c92, c93, c94, c95, c96, c97, c98, c99, c100, c101, c102, c103, c104, c105, c106, c107, c108, c109, c110, c111, c112, c113, c114, c115, c116, c117, c118, c119, c120, c121, c122, c123, c124, c125, c126, c127, c128, c129, c130, c131, c132, c133, c134, c135, c136, c137, c138, c139, c140, c141, c142, c143, c144, c145, c146, c147, c148, c149, c150, c151, c152, c153, c154, c155, c156, c157, c158, c159, c160, c161, c162, c163, c164, c165, c166, c167, c168, c169, c170, c171, c172, c173, c174, c175, c176, c177, c178, c179, c180, c181, c182, c183, c184, c185, c186, c187, c188, c189, c190, c191, c192, c193, c194, c195, c196, c197, c198, c199, c200, c201, c202, c203, c204, c205, c206, c207], []⟩ W := by
  have HZ : Hid (zs = [] ∨ ∃ b f, pp = some ⟨b, f, none⟩ ∧ b < o.heap.size ∧ ∀ (i : Nat) (hi : i < zs.length), o.cell? ⟨b, f + i, none⟩ = some (.int .i64 zs[i])) := hzc
  have HP : Hid (NamesAt o ∧ NaN N ∧ ∀ z ∈ zs, -9223372036854775808 ≤ z ∧ z ≤ 9223372036854775807) := ⟨ho, hNaN, hzb⟩
  have HEND : Hid (∀ {u9 u10 u11 u44 u45 u46 u47 u48 u49 u50 u51 u52 u53 u54 u55 u56 u57 u58 u59 u60 u61 u62 u63 u64 u65 u66 u67 u68 u69 u70 u71 u72 u73 u74 u75 u76 u77 u78 u79 u80 u81 u82 u83 u84 u85 : Value} (n : Nat) (W' : World), LI o m mb nb N pp zs cp (zs.take 100).length n W' → Q .normal ⟨List.toArray [c0, c1, .pointer (some ⟨o.heap.size, 0, none⟩), c3, c4, c5, .pointer (some ⟨mb, 0, none⟩), .pointer (some ⟨nb, 0, none⟩), .int .i64 (n : Nat), u9, u10, u11, c12, c13, c14, c15, c16, c17, c18, c19, c20, c21, c22, c23, c24, c25, c26, c27, c28, c29, c30, c31, c32, c33, c34, c35, c36, c37, c38, c39, c40, c41, c42, c43, u44, u45, u46, u47, u48, u49, u50, u51, u52, u53, u54, u55, u56, u57, u58, u59, u60, u61, u62, u63, u64, u65, u66, u67, u68, u69, u70, u71, u72, u73, u74, u75, u76, u77, u78, u79, u80, u81, u82, u83, u84, u85, c86, c87, c88, c89, c90, c91, c92, c93, c94, c95, c96, c97, c98, c99, c100, c101, c102, c103, c104, c105, c106, c107, c108, c109, c110, c111, c112, c113, c114, c115, c116, c117, c118, c119, c120, c121, c122, c123, c124, c125, c126, c127, c128, c129, c130, c131, c132, c133, c134, c135, c136, c137, c138, c139, c140, c141, c142, c143, c144, c145, c146, c147, c148, c149, c150, c151, c152, c153, c154, c155, c156, c157, c158, c159, c160, c161, c162, c163, c164, c165, c166, c167, c168, c169, c170, c171, c172, c173, c174, c175, c176, c177, c178, c179, c180, c181, c182, c183, c184, c185, c186, c187, c188, c189, c190, c191, c192, c193, c194, c195, c196, c197, c198, c199, c200, c201, c202, c203, c204, c205, c206, c207], []⟩ W') := hend
  have HI0 : Hid (LI o m mb nb N pp zs cp 0 0 W) := hI
  have hL : (zs.take 100).length = min 100 zs.length := List.length_take
  clear hzc ho hNaN hzb hend hI
  unfold loop1C
  simp only [Tryd.f4, Option.bind, Option.getD, firstLoop]
  gi_loopg [8, 9] (zs.take 100).length (fun gk nv i wr => ∃ j n : Nat, gk + j = (zs.take 100).length ∧ i = .int .i64 j ∧ nv = .int .i64 n ∧ n ≤ j ∧ Hid (LI o m mb nb N pp zs cp j n wr))
  case atStart => exact ⟨0, 0, by omega, rfl, rfl, Nat.le_refl _, HI0.out⟩
  case round =>
    obtain ⟨j, n, hj, rfl, rfl, hnj, HR⟩ := hrel
    have hclr := row_at HR.out.lb 0
    have hcmr := row_at HR.out.mp 0
    have z0r := row_ltT HR.out.lb
    have zmr := row_ltT HR.out.mp
    by_cases hlt : j < (zs.take 100).length
    · have i0 : j < zs.length := by omega
      have hj1 : j < 100 := by omega
      have i1 : (j : Int) < zs.length := by omega
      have i2 : (j : Int) < 100 := by omega
      obtain ⟨b, f, hpp, hbz, hczA⟩ : ∃ b f, pp = some ⟨b, f, none⟩ ∧ b < o.heap.size ∧ ∀ (i : Nat) (hi : i < zs.length), o.cell? ⟨b, f + i, none⟩ = some (.int .i64 zs[i]) := by
        rcases HZ.out with q | q
        · rw [q] at i0; cases i0
        · exact q
      have HZP : Hid (pp = some ⟨b, f, none⟩ ∧ b < o.heap.size ∧ ∀ (i : Nat) (hi : i < zs.length), o.cell? ⟨b, f + i, none⟩ = some (.int .i64 zs[i])) := ⟨hpp, hbz, hczA⟩
      obtain ⟨z, hz⟩ : ∃ z, z = zs[j] := ⟨_, rfl⟩
      have HZE : Hid (z = zs[j]) := hz
      have hczr := (HR.out.cells HZP.out i0 HZE.out).2.2.1
      have HM : Hid (gk + j = (zs.take 100).length) := hj
      rw [hpp] at hclr
      have zbr : b < wr.heap.size := by omega
      clear hz hj hL hczA hpp hbz
      by_cases h3 : z.tmod 3 = 0
      · have h3' : z % 3 = 0 := (tmod3 z).1 h3
        have ni : (n : Int) < 100 := by omega
        gi_wp2_with fail
        refine wpIn_wide.2 ?_
        refine wp_region_noPanic ?_
        refine wp_region_held (S := fun W => W.cell? ⟨o.heap.size, 0, none⟩ = some (.slice (some ⟨b, f, none⟩) zs.length cp) ∧ W.cell? ⟨mb, 0, none⟩ = some (.pointer (some ⟨m, 0, none⟩)) ∧ W.cell? ⟨b, f + j, none⟩ = some (.int .i64 z) ∧ ∀ i, W.cell? ⟨nb, i, none⟩ = (#[.int .i64 N.h.k, .string N.h.t, .int .i64 N.h.n, .int .u64 N.h.f, .string N.h.s, .int .i64 N.h.r0, .int .i64 N.h.r1, .int .i64 N.h.r2, .int .i64 N.h.r3, .slice N.h.pp N.h.path.length N.h.pc, .slice N.ip N.items.length N.ic] : Array Value)[i]?) (by kernel_rfl) ?_
        obtain ⟨W4, hW4⟩ : ∃ W4, W4 = (wr).drew := ⟨_, rfl⟩
        have e4 : ({ wr with drawn := (wr).drawn + 1 } : World) = W4 := hW4.symm
        rw [e4]
        have hB4 : Below (wr).heap.size (wr) W4 := by rw [hW4]; exact (Below.refl _ _).drew
        have hS : W4.cell? ⟨o.heap.size, 0, none⟩ = some (.slice (some ⟨b, f, none⟩) zs.length cp) ∧ W4.cell? ⟨mb, 0, none⟩ = some (.pointer (some ⟨m, 0, none⟩)) ∧ W4.cell? ⟨b, f + j, none⟩ = some (.int .i64 z) ∧ ∀ i, W4.cell? ⟨nb, i, none⟩ = (#[.int .i64 N.h.k, .string N.h.t, .int .i64 N.h.n, .int .u64 N.h.f, .string N.h.s, .int .i64 N.h.r0, .int .i64 N.h.r1, .int .i64 N.h.r2, .int .i64 N.h.r3, .slice N.h.pp N.h.path.length N.h.pc, .slice N.ip N.items.length N.ic] : Array Value)[i]? := (HR.out.below hB4).cells HZP.out i0 HZE.out
        have HW4 : Hid (W4 = (wr).drew) := hW4
        clear e4 hW4
        have HIW4 : Hid (LI o m mb nb N pp zs cp j n W4) := HR.out.below hB4
        clear hB4 HW4
        refine wpAnyH_take (i := 3) (v := .int .i64 (j : Nat)) rfl (by kernel_rfl) (by kernel_rfl) (by kernel_rfl) (fun _ _ _ h => h) (Or.inl ⟨by rfl, ?r⟩) hS ?_
        case r => intro W hW; simp [go_sem, execOp, Act.eval]
        simp only [List.getElem_toArray, List.getElem_cons_zero, List.getElem_cons_succ, Act.put, List.setIfInBounds_toArray, List.set_cons_succ, List.set_cons_zero]
        refine wpAnyH_take (i := 0) (v := .pointer (some ⟨m, 0, none⟩)) rfl (by kernel_rfl) (by kernel_rfl) (by kernel_rfl) (fun _ _ _ h => h) (Or.inl ⟨by rfl, ?r⟩) hS ?_
        case r => intro W hW; simp [go_sem, execOp, Act.eval, hW.2.1]
        simp only [List.getElem_toArray, List.getElem_cons_zero, Act.put, List.setIfInBounds_toArray, List.set_cons_succ, List.set_cons_zero]
        refine wpAnyH_take (i := 1) (v := N.val) rfl (by kernel_rfl) (by kernel_rfl) (by kernel_rfl) (fun _ _ _ h => h) (Or.inl ⟨by rfl, ?r⟩) hS ?_
        case r => intro W hW; simp [go_sem, execOp, Act.eval, hW.2.2.2, MD.val, D]
        simp only [List.getElem_toArray, List.getElem_cons_zero, List.getElem_cons_succ, Act.put, List.setIfInBounds_toArray, List.set_cons_succ, List.set_cons_zero]
        refine wpAnyH_take (i := 2) (v := .slice (some ⟨b, f, none⟩) zs.length cp) rfl (by kernel_rfl) (by kernel_rfl) (by kernel_rfl) (fun _ _ _ h => h) (Or.inl ⟨by rfl, ?r⟩) hS ?_
        case r => intro W hW; simp [go_sem, execOp, Act.eval, hW.1]
        simp only [List.getElem_toArray, List.getElem_cons_zero, List.getElem_cons_succ, Act.put, List.setIfInBounds_toArray, List.set_cons_succ, List.set_cons_zero]
        refine wpAnyH_take (i := 4) (v := .pointer (some ⟨b, f + j, none⟩)) rfl (by kernel_rfl) (by kernel_rfl) (by kernel_rfl) (fun _ _ _ h => h) (Or.inl ⟨by rfl, ?r⟩) hS ?_
        case r => intro W hW; simp [go_sem, execOp, Act.eval, i1]
        simp only [List.getElem_toArray, List.getElem_cons_zero, List.getElem_cons_succ, Act.put, List.setIfInBounds_toArray, List.set_cons_succ, List.set_cons_zero]
        refine wpAnyH_take (i := 5) (v := .int .i64 z) rfl (by kernel_rfl) (by kernel_rfl) (by kernel_rfl) (fun _ _ _ h => h) (Or.inl ⟨by rfl, ?r⟩) hS ?_
        case r => intro W hW; simp [go_sem, execOp, Act.eval, hW.2.2.1]
        simp only [List.getElem_toArray, List.getElem_cons_zero, List.getElem_cons_succ, Act.put, List.setIfInBounds_toArray, List.set_cons_succ, List.set_cons_zero]
        refine wpAnyH_all (rs := [6]) (by kernel_rfl) (by simp) (fun i2 hi2 => ?_)
        obtain rfl : i2 = 6 := by simpa using hi2
        clear hi2
        refine wpOp_step rfl (fun K hK => ite_yes rfl ?_)
        simp only [List.getElem_toArray, List.getElem_cons_zero, List.getElem_cons_succ]
        go_simp
        refine (whole_val z _).mono ?_
        rintro r W5 ⟨rfl, bW5⟩
        have HIW5 : Hid (LI o m mb nb N pp zs cp j n W5) := HIW4.out.below bW5
        have hSW5 : W5.cell? ⟨o.heap.size, 0, none⟩ = some (.slice (some ⟨b, f, none⟩) zs.length cp) ∧ W5.cell? ⟨mb, 0, none⟩ = some (.pointer (some ⟨m, 0, none⟩)) ∧ W5.cell? ⟨b, f + j, none⟩ = some (.int .i64 z) ∧ ∀ i, W5.cell? ⟨nb, i, none⟩ = (#[.int .i64 N.h.k, .string N.h.t, .int .i64 N.h.n, .int .u64 N.h.f, .string N.h.s, .int .i64 N.h.r0, .int .i64 N.h.r1, .int .i64 N.h.r2, .int .i64 N.h.r3, .slice N.h.pp N.h.path.length N.h.pc, .slice N.ip N.items.length N.ic] : Array Value)[i]? := HIW5.out.cells HZP.out i0 HZE.out
        clear bW5
        go_simp
        refine hK _ _ ⟨hSW5, ?_⟩
        clear hK K hS
        have hS := hSW5
        clear hSW5
        try simp only [Act.put, List.setIfInBounds_toArray, List.set_cons_succ, List.set_cons_zero]
        refine wpAnyH_all (rs := [7]) (by kernel_rfl) (by simp) (fun i2 hi2 => ?_)
        obtain rfl : i2 = 7 := by simpa using hi2
        clear hi2
        refine wpOp_step rfl (fun K hK => ite_yes rfl ?_)
        simp only [List.getElem_toArray, List.getElem_cons_zero, List.getElem_cons_succ]
        go_simp
        refine (HIW5.out.putN HZP.out i0 HZE.out HP.out hj1 h3').mono ?_
        rintro r W6 ⟨rfl, hIW6⟩
        have HIW6 : Hid (LI o m mb nb N pp zs cp (j + 1) (n + 1) W6) := hIW6
        have hSW6 : W6.cell? ⟨o.heap.size, 0, none⟩ = some (.slice (some ⟨b, f, none⟩) zs.length cp) ∧ W6.cell? ⟨mb, 0, none⟩ = some (.pointer (some ⟨m, 0, none⟩)) ∧ W6.cell? ⟨b, f + j, none⟩ = some (.int .i64 z) ∧ ∀ i, W6.cell? ⟨nb, i, none⟩ = (#[.int .i64 N.h.k, .string N.h.t, .int .i64 N.h.n, .int .u64 N.h.f, .string N.h.s, .int .i64 N.h.r0, .int .i64 N.h.r1, .int .i64 N.h.r2, .int .i64 N.h.r3, .slice N.h.pp N.h.path.length N.h.pc, .slice N.ip N.items.length N.ic] : Array Value)[i]? := HIW6.out.cells HZP.out i0 HZE.out
        clear hIW6
        go_simp
        refine hK _ _ ⟨hSW6, ?_⟩
        clear hK K hS
        have hS := hSW6
        clear hSW6
        try simp only [Act.put, List.setIfInBounds_toArray, List.set_cons_succ, List.set_cons_zero]
        refine wpAnyH_take (i := 8) (v := .nilIface) rfl (by kernel_rfl) (by kernel_rfl) (by kernel_rfl) (fun _ _ _ h => h) (Or.inl ⟨by rfl, ?r⟩) hS ?_
        case r => intro W hW; simp [go_sem, execOp, Act.eval]
        simp only [List.getElem_toArray, List.getElem_cons_zero, List.getElem_cons_succ, Act.put, List.setIfInBounds_toArray, List.set_cons_succ, List.set_cons_zero]
        refine wpAnyH_done (by kernel_rfl) ?_ _
        refine NoPanic.normal ?_
        try simp only [Act.put]
        gi_wp2_with fail
        gi_roundg ((zs.take 100).length - (j + 1))
        case measure => have := HM.out; omega
        case rel => exact ⟨j + 1, n + 1, by omega, by go_num, by go_num, by omega, HIW6.out⟩
      · have h3' : z % 3 ≠ 0 := fun q => h3 ((tmod3 z).2 q)
        gi_wp2_with fail
        refine wpIn_wide.2 ?_
        refine wp_region_noPanic ?_
        refine wp_region_held (S := fun W => W.cell? ⟨o.heap.size, 0, none⟩ = some (.slice (some ⟨b, f, none⟩) zs.length cp) ∧ W.cell? ⟨mb, 0, none⟩ = some (.pointer (some ⟨m, 0, none⟩)) ∧ W.cell? ⟨b, f + j, none⟩ = some (.int .i64 z) ∧ ∀ i, W.cell? ⟨nb, i, none⟩ = (#[.int .i64 N.h.k, .string N.h.t, .int .i64 N.h.n, .int .u64 N.h.f, .string N.h.s, .int .i64 N.h.r0, .int .i64 N.h.r1, .int .i64 N.h.r2, .int .i64 N.h.r3, .slice N.h.pp N.h.path.length N.h.pc, .slice N.ip N.items.length N.ic] : Array Value)[i]?) (by kernel_rfl) ?_
        obtain ⟨W4, hW4⟩ : ∃ W4, W4 = (wr).drew := ⟨_, rfl⟩
        have e4 : ({ wr with drawn := (wr).drawn + 1 } : World) = W4 := hW4.symm
        rw [e4]
        have hB4 : Below (wr).heap.size (wr) W4 := by rw [hW4]; exact (Below.refl _ _).drew
        have hS : W4.cell? ⟨o.heap.size, 0, none⟩ = some (.slice (some ⟨b, f, none⟩) zs.length cp) ∧ W4.cell? ⟨mb, 0, none⟩ = some (.pointer (some ⟨m, 0, none⟩)) ∧ W4.cell? ⟨b, f + j, none⟩ = some (.int .i64 z) ∧ ∀ i, W4.cell? ⟨nb, i, none⟩ = (#[.int .i64 N.h.k, .string N.h.t, .int .i64 N.h.n, .int .u64 N.h.f, .string N.h.s, .int .i64 N.h.r0, .int .i64 N.h.r1, .int .i64 N.h.r2, .int .i64 N.h.r3, .slice N.h.pp N.h.path.length N.h.pc, .slice N.ip N.items.length N.ic] : Array Value)[i]? := (HR.out.below hB4).cells HZP.out i0 HZE.out
        have HW4 : Hid (W4 = (wr).drew) := hW4
        clear e4 hW4
        have HIW4 : Hid (LI o m mb nb N pp zs cp j n W4) := HR.out.below hB4
        clear hB4 HW4
        refine wpAnyH_take (i := 2) (v := .int .i64 (j : Nat)) rfl (by kernel_rfl) (by kernel_rfl) (by kernel_rfl) (fun _ _ _ h => h) (Or.inl ⟨by rfl, ?r⟩) hS ?_
        case r => intro W hW; simp [go_sem, execOp, Act.eval]
        simp only [List.getElem_toArray, List.getElem_cons_zero, List.getElem_cons_succ, Act.put, List.setIfInBounds_toArray, List.set_cons_succ, List.set_cons_zero]
        refine wpAnyH_take (i := 0) (v := .pointer (some ⟨m, 0, none⟩)) rfl (by kernel_rfl) (by kernel_rfl) (by kernel_rfl) (fun _ _ _ h => h) (Or.inl ⟨by rfl, ?r⟩) hS ?_
        case r => intro W hW; simp [go_sem, execOp, Act.eval, hW.2.1]
        simp only [List.getElem_toArray, List.getElem_cons_zero, Act.put, List.setIfInBounds_toArray, List.set_cons_succ, List.set_cons_zero]
        refine wpAnyH_take (i := 1) (v := .slice (some ⟨b, f, none⟩) zs.length cp) rfl (by kernel_rfl) (by kernel_rfl) (by kernel_rfl) (fun _ _ _ h => h) (Or.inl ⟨by rfl, ?r⟩) hS ?_
        case r => intro W hW; simp [go_sem, execOp, Act.eval, hW.1]
        simp only [List.getElem_toArray, List.getElem_cons_zero, List.getElem_cons_succ, Act.put, List.setIfInBounds_toArray, List.set_cons_succ, List.set_cons_zero]
        refine wpAnyH_take (i := 3) (v := .pointer (some ⟨b, f + j, none⟩)) rfl (by kernel_rfl) (by kernel_rfl) (by kernel_rfl) (fun _ _ _ h => h) (Or.inl ⟨by rfl, ?r⟩) hS ?_
        case r => intro W hW; simp [go_sem, execOp, Act.eval, i1]
        simp only [List.getElem_toArray, List.getElem_cons_zero, List.getElem_cons_succ, Act.put, List.setIfInBounds_toArray, List.set_cons_succ, List.set_cons_zero]
        refine wpAnyH_take (i := 4) (v := .int .i64 z) rfl (by kernel_rfl) (by kernel_rfl) (by kernel_rfl) (fun _ _ _ h => h) (Or.inl ⟨by rfl, ?r⟩) hS ?_
        case r => intro W hW; simp [go_sem, execOp, Act.eval, hW.2.2.1]
        simp only [List.getElem_toArray, List.getElem_cons_zero, List.getElem_cons_succ, Act.put, List.setIfInBounds_toArray, List.set_cons_succ, List.set_cons_zero]
        refine wpAnyH_take (i := 7) (v := .int .i64 (j : Nat)) rfl (by kernel_rfl) (by kernel_rfl) (by kernel_rfl) (fun _ _ _ h => h) (Or.inl ⟨by rfl, ?r⟩) hS ?_
        case r => intro W hW; simp [go_sem, execOp, Act.eval]
        simp only [List.getElem_toArray, List.getElem_cons_zero, List.getElem_cons_succ, Act.put, List.setIfInBounds_toArray, List.set_cons_succ, List.set_cons_zero]
        refine wpAnyH_take (i := 6) (v := .slice (some ⟨b, f, none⟩) zs.length cp) rfl (by kernel_rfl) (by kernel_rfl) (by kernel_rfl) (fun _ _ _ h => h) (Or.inl ⟨by rfl, ?r⟩) hS ?_
        case r => intro W hW; simp [go_sem, execOp, Act.eval, hW.1]
        simp only [List.getElem_toArray, List.getElem_cons_zero, List.getElem_cons_succ, Act.put, List.setIfInBounds_toArray, List.set_cons_succ, List.set_cons_zero]
        refine wpAnyH_take (i := 8) (v := .pointer (some ⟨b, f + j, none⟩)) rfl (by kernel_rfl) (by kernel_rfl) (by kernel_rfl) (fun _ _ _ h => h) (Or.inl ⟨by rfl, ?r⟩) hS ?_
        case r => intro W hW; simp [go_sem, execOp, Act.eval, i1]
        simp only [List.getElem_toArray, List.getElem_cons_zero, List.getElem_cons_succ, Act.put, List.setIfInBounds_toArray, List.set_cons_succ, List.set_cons_zero]
        refine wpAnyH_take (i := 9) (v := .int .i64 z) rfl (by kernel_rfl) (by kernel_rfl) (by kernel_rfl) (fun _ _ _ h => h) (Or.inl ⟨by rfl, ?r⟩) hS ?_
        case r => intro W hW; simp [go_sem, execOp, Act.eval, hW.2.2.1]
        simp only [List.getElem_toArray, List.getElem_cons_zero, List.getElem_cons_succ, Act.put, List.setIfInBounds_toArray, List.set_cons_succ, List.set_cons_zero]
        refine wpAnyH_all (rs := [5]) (by kernel_rfl) (by simp) (fun i2 hi2 => ?_)
        obtain rfl : i2 = 5 := by simpa using hi2
        clear hi2
        refine wpOp_step rfl (fun K hK => ite_yes rfl ?_)
        simp only [List.getElem_toArray, List.getElem_cons_zero, List.getElem_cons_succ]
        go_simp
        refine (whole_val z _).mono ?_
        rintro r W5 ⟨rfl, bW5⟩
        have HIW5 : Hid (LI o m mb nb N pp zs cp j n W5) := HIW4.out.below bW5
        have hSW5 : W5.cell? ⟨o.heap.size, 0, none⟩ = some (.slice (some ⟨b, f, none⟩) zs.length cp) ∧ W5.cell? ⟨mb, 0, none⟩ = some (.pointer (some ⟨m, 0, none⟩)) ∧ W5.cell? ⟨b, f + j, none⟩ = some (.int .i64 z) ∧ ∀ i, W5.cell? ⟨nb, i, none⟩ = (#[.int .i64 N.h.k, .string N.h.t, .int .i64 N.h.n, .int .u64 N.h.f, .string N.h.s, .int .i64 N.h.r0, .int .i64 N.h.r1, .int .i64 N.h.r2, .int .i64 N.h.r3, .slice N.h.pp N.h.path.length N.h.pc, .slice N.ip N.items.length N.ic] : Array Value)[i]? := HIW5.out.cells HZP.out i0 HZE.out
        clear bW5
        go_simp
        refine hK _ _ ⟨hSW5, ?_⟩
        clear hK K hS
        have hS := hSW5
        clear hSW5
        try simp only [Act.put, List.setIfInBounds_toArray, List.set_cons_succ, List.set_cons_zero]
        refine wpAnyH_all (rs := [10]) (by kernel_rfl) (by simp) (fun i2 hi2 => ?_)
        obtain rfl : i2 = 10 := by simpa using hi2
        clear hi2
        refine wpOp_step rfl (fun K hK => ite_yes rfl ?_)
        simp only [List.getElem_toArray, List.getElem_cons_zero, List.getElem_cons_succ]
        go_simp
        refine (whole_val z _).mono ?_
        rintro r W6 ⟨rfl, bW6⟩
        have HIW6 : Hid (LI o m mb nb N pp zs cp j n W6) := HIW5.out.below bW6
        have hSW6 : W6.cell? ⟨o.heap.size, 0, none⟩ = some (.slice (some ⟨b, f, none⟩) zs.length cp) ∧ W6.cell? ⟨mb, 0, none⟩ = some (.pointer (some ⟨m, 0, none⟩)) ∧ W6.cell? ⟨b, f + j, none⟩ = some (.int .i64 z) ∧ ∀ i, W6.cell? ⟨nb, i, none⟩ = (#[.int .i64 N.h.k, .string N.h.t, .int .i64 N.h.n, .int .u64 N.h.f, .string N.h.s, .int .i64 N.h.r0, .int .i64 N.h.r1, .int .i64 N.h.r2, .int .i64 N.h.r3, .slice N.h.pp N.h.path.length N.h.pc, .slice N.ip N.items.length N.ic] : Array Value)[i]? := HIW6.out.cells HZP.out i0 HZE.out
        clear bW6
        go_simp
        refine hK _ _ ⟨hSW6, ?_⟩
        clear hK K hS
        have hS := hSW6
        clear hSW6
        try simp only [Act.put, List.setIfInBounds_toArray, List.set_cons_succ, List.set_cons_zero]
        refine wpAnyH_all (rs := [11]) (by kernel_rfl) (by simp) (fun i2 hi2 => ?_)
        obtain rfl : i2 = 11 := by simpa using hi2
        clear hi2
        refine wpOp_step rfl (fun K hK => ite_yes rfl ?_)
        simp only [List.getElem_toArray, List.getElem_cons_zero, List.getElem_cons_succ]
        go_simp
        refine (HIW6.out.putZ HZP.out i0 HZE.out HP.out hj1 h3').mono ?_
        rintro r W7 ⟨rfl, hIW7⟩
        have HIW7 : Hid (LI o m mb nb N pp zs cp (j + 1) n W7) := hIW7
        have hSW7 : W7.cell? ⟨o.heap.size, 0, none⟩ = some (.slice (some ⟨b, f, none⟩) zs.length cp) ∧ W7.cell? ⟨mb, 0, none⟩ = some (.pointer (some ⟨m, 0, none⟩)) ∧ W7.cell? ⟨b, f + j, none⟩ = some (.int .i64 z) ∧ ∀ i, W7.cell? ⟨nb, i, none⟩ = (#[.int .i64 N.h.k, .string N.h.t, .int .i64 N.h.n, .int .u64 N.h.f, .string N.h.s, .int .i64 N.h.r0, .int .i64 N.h.r1, .int .i64 N.h.r2, .int .i64 N.h.r3, .slice N.h.pp N.h.path.length N.h.pc, .slice N.ip N.items.length N.ic] : Array Value)[i]? := HIW7.out.cells HZP.out i0 HZE.out
        clear hIW7
        go_simp
        refine hK _ _ ⟨hSW7, ?_⟩
        clear hK K hS
        have hS := hSW7
        clear hSW7
        try simp only [Act.put, List.setIfInBounds_toArray, List.set_cons_succ, List.set_cons_zero]
        refine wpAnyH_take (i := 12) (v := .nilIface) rfl (by kernel_rfl) (by kernel_rfl) (by kernel_rfl) (fun _ _ _ h => h) (Or.inl ⟨by rfl, ?r⟩) hS ?_
        case r => intro W hW; simp [go_sem, execOp, Act.eval]
        simp only [List.getElem_toArray, List.getElem_cons_zero, List.getElem_cons_succ, Act.put, List.setIfInBounds_toArray, List.set_cons_succ, List.set_cons_zero]
        refine wpAnyH_done (by kernel_rfl) ?_ _
        refine NoPanic.normal ?_
        try simp only [Act.put]
        gi_wp2_with fail
        gi_roundg ((zs.take 100).length - (j + 1))
        case measure => have := HM.out; omega
        case rel => exact ⟨j + 1, n, by omega, by go_num, by go_num, by omega, HIW7.out⟩
    · have hjl : j = (zs.take 100).length := by omega
      have HF : Hid (LI o m mb nb N pp zs cp (zs.take 100).length n wr) := hjl ▸ HR.out
      by_cases hl2 : (j : Int) < zs.length
      · have i2 : ¬ (j : Int) < 100 := by omega
        gi_wp2_with fail
        exact HEND.out _ _ HF.out
      · gi_wp2_with fail
        exact HEND.out _ _ HF.out
end Go.Proofs.YtflonmlnedkmjaaDoor
