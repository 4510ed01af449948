/-
  The innermost loop of ValueAlike.
-/
import Derived.Test.YtnhbpcmiolkllabDoorPr2
import Derived.Test.YtnhbpcmiolkllabDoorPp2
import Derived.Test.YtnhbpcmiolkllabDoorPt2J
import Derived.Test.YtnhbpcmiolkllabDoorPe2
import Derived.Test.YtnhbpcmiolkllabDoorHe2
import Derived.Test.YtnhbpcmiolkllabDoorSf
import Derived.Test.YtnhbpcmiolkllabDoorHa2J
namespace Go.Proofs.YtnhbpcmiolkllabDoor
open Go.RowKit

theorem in_fl {B : Nat} {w : World} : ∀ (n : Nat) (x : MD), MD.In B w n x → MD.Fl n x
  | 0, _, h => h.elim
  | n + 1, x, ⟨h1, _, _, _, h5⟩ => by
    refine ⟨h1.f0, h1.f1, fun y hy => ?_⟩
    rcases h5 with e | ⟨b, o, _, _, e3⟩
    · rw [e] at hy; cases hy
    · obtain ⟨i, hi, rfl⟩ := List.getElem_of_mem hy
      exact in_fl n _ (e3 i hi).2
theorem fl_of {W6 : World} {x : MD} (h : ∀ W, Below W6.heap.size W6 W → MD.In W.heap.size W 4 x) : MD.Fl 4 x := in_fl 4 x (h W6 (Below.refl _ _))

/-- The first loop within a code. -/
def firstLoop : Code → Option Code
  | .loop c => some c
  | .seq a b => match firstLoop a with
    | some c => some c
    | none => firstLoop b
  | .block _ c => firstLoop c
  | .scope c => firstLoop c
  | .cond _ a b => match firstLoop a with
    | some c => some c
    | none => firstLoop b
  | _ => none
noncomputable def body1 : Code := (Tryd.f3.body.bind firstLoop).getD .skip
noncomputable def body2 : Code := (firstLoop body1).getD .skip
noncomputable def body3 : Code := (firstLoop body2).getD .skip

attribute [local go_sem] refold2 cell3_0 cell3_1 b28_0 b28_01
set_option maxRecDepth 1000000 in
set_option maxHeartbeats 16000000 in
theorem inner_any (W6 : World) (g5 a b : Nat) (P Qd : MD) (ls : Nat → MD) (av : Bool) (Q0 : Exit → Act → World → Prop) {c0 c1 c2 c3 c4 c5 c6 c7 c8 c9 c10 c13 c14 c15 c16 c17 c20 c21 c22 c23 c24 c25 c26 c27 c33 c34 c35 c36 c37 c38 c39 c40 c41 c42 c43 c44 c45 c46 c47 c48 c49 c50 c51 c52 c53 c54 c55 c56 c57 c58 c59 c60 c61 c62 c63 c64 c65 c66 c67 c68 c69 c70 c71 c72 c73 c74 c75 c76 c77 c78 c79 c80 c81 c82 c83 c84 c85 c86 c87 c88 c89 c90 c91 c92 c93 c94 c95 c96 c97 c98 c99 c100 c101 c102 c103 c104 c105 c106 c107 c108 c109 c110 c111 c112 c113 c114 c115 c116 c117 c118 c119 c120 c121 c122 c123 c124 c125 c126 c127 c128 c129 c130 c131 c132 c133 c134 c135 c136 c137 c138 c139 c140 c141 c142 c143 c144 c145 c146 c147 c148 c149 c150 c151 c152 c153 c154 c155 c156 c157 c158 c159 c160 c161 c162 c163 c164 c165 c166 c167 c168 c169 c170 c171 c172 c173 c174 c175 c176 c177 c178 c179 c180 c181 c182 c183 c184 c185 c186 c187 c188 c189 c190 c191 c192 c193 c194 c195 c196 c197 c198 c199 c200 c201 c202 c203 c204 c205 c206 c207 : Value}
    (HC : Hid (∀ W, Below W6.heap.size W6 W → ∀ i, i < 3 → MD.CellsAt W g5 (i * 11) (ls i))) (HC0 : Hid (∀ W, Below W6.heap.size W6 W → MD.CellsAt W g5 (a * 11) P)) (HC1 : Hid (∀ W, Below W6.heap.size W6 W → MD.CellsAt W g5 (b * 11) Qd))
    (HO : Hid (∀ i, MD.In W6.heap.size W6 4 (ls i) ∧ MD.right 4 (ls i) = true)) (HOa : Hid ((∀ W, Below W6.heap.size W6 W → MD.In W.heap.size W 4 P) ∧ MD.right 4 P = true)) (HOb : Hid ((∀ W, Below W6.heap.size W6 W → MD.In W.heap.size W 4 Qd) ∧ MD.right 4 Qd = true))
    (HNm : Hid (∀ W, Below W6.heap.size W6 W → NamesAt W)) (HEQ2 : Hid (av = (MD.eqv 4 P Qd).1)) (lta : (a : Int) < 3) (ltb : (b : Int) < 3) (w0 : World) (HT5 : Hid (Below W6.heap.size W6 w0)) (u29 u30 u31 u32 u208 u209 u210 u211 u212 u213 u214 u215 u216 u217 u218 u219 u220 u221 u222 u223 u224 u225 u226 u227 u228 u229 u230 u231 u232 u233 u234 u235 u236 u237 u238 u239 u240 u241 u242 u243 : Value)
    (hexit : ∀ (zc : Int) (u29 u30 u31 u32 u208 u209 u210 u211 u212 u213 u214 u215 u216 u217 u218 u219 u220 u221 u222 u223 u224 u225 u226 u227 u228 u229 u230 u231 u232 u233 u234 u235 u236 u237 u238 u239 u240 u241 u242 u243 : Value) (w' : World), Below W6.heap.size W6 w' → Q0 (.exit 4) ⟨List.toArray (c0 :: c1 :: c2 :: c3 :: c4 :: c5 :: c6 :: c7 :: c8 :: c9 :: c10 :: .slice (some ⟨g5, 0, none⟩) 3 3 :: .int .i64 (a : Nat) :: c13 :: c14 :: c15 :: c16 :: c17 :: .int .i64 (b : Nat) :: .bool av :: c20 :: c21 :: c22 :: c23 :: c24 :: c25 :: c26 :: c27 :: .int .i64 zc :: u29 :: u30 :: u31 :: u32 :: c33 :: c34 :: c35 :: c36 :: c37 :: c38 :: c39 :: c40 :: c41 :: c42 :: c43 :: c44 :: c45 :: c46 :: c47 :: c48 :: c49 :: c50 :: c51 :: c52 :: c53 :: c54 :: c55 :: c56 :: c57 :: c58 :: c59 :: c60 :: c61 :: c62 :: c63 :: c64 :: c65 :: c66 :: c67 :: c68 :: c69 :: c70 :: c71 :: c72 :: c73 :: c74 :: c75 :: c76 :: c77 :: c78 :: c79 :: c80 :: c81 :: c82 :: c83 :: c84 :: c85 :: c86 :: c87 :: c88 :: c89 :: c90 :: c91 :: c92 :: c93 :: c94 :: c95 :: c96 :: c97 :: c98 :: c99 :: c100 :: c101 :: c102 :: c103 :: c104 :: c105 :: c106 :: c107 :: c108 :: c109 :: c110 :: c111 :: c112 :: c113 :: c114 :: c115 :: c116 :: c117 :: c118 :: c119 :: c120 :: c121 :: c122 :: c123 :: c124 :: c125 :: c126 :: c127 :: c128 :: c129 :: c130 :: c131 :: c132 :: c133 :: c134 :: c135 :: c136 :: c137 :: c138 :: c139 :: c140 :: c141 :: c142 :: c143 :: c144 :: c145 :: c146 :: c147 :: c148 :: c149 :: c150 :: c151 :: c152 :: c153 :: c154 :: c155 :: c156 :: c157 :: c158 :: c159 :: c160 :: c161 :: c162 :: c163 :: c164 :: c165 :: c166 :: c167 :: c168 :: c169 :: c170 :: c171 :: c172 :: c173 :: c174 :: c175 :: c176 :: c177 :: c178 :: c179 :: c180 :: c181 :: c182 :: c183 :: c184 :: c185 :: c186 :: c187 :: c188 :: c189 :: c190 :: c191 :: c192 :: c193 :: c194 :: c195 :: c196 :: c197 :: c198 :: c199 :: c200 :: c201 :: c202 :: c203 :: c204 :: c205 :: c206 :: c207 :: u208 :: u209 :: u210 :: u211 :: u212 :: u213 :: u214 :: u215 :: u216 :: u217 :: u218 :: u219 :: u220 :: u221 :: u222 :: u223 :: u224 :: u225 :: u226 :: u227 :: u228 :: u229 :: u230 :: u231 :: u232 :: u233 :: u234 :: u235 :: u236 :: u237 :: u238 :: u239 :: u240 :: u241 :: u242 :: u243 :: []), []⟩ w') :
    Code.wp Tryd.prog (Code.loop body3) Q0 ⟨List.toArray (c0 :: c1 :: c2 :: c3 :: c4 :: c5 :: c6 :: c7 :: c8 :: c9 :: c10 :: .slice (some ⟨g5, 0, none⟩) 3 3 :: .int .i64 (a : Nat) :: c13 :: c14 :: c15 :: c16 :: c17 :: .int .i64 (b : Nat) :: .bool av :: c20 :: c21 :: c22 :: c23 :: c24 :: c25 :: c26 :: c27 :: .int .i64 0 :: u29 :: u30 :: u31 :: u32 :: c33 :: c34 :: c35 :: c36 :: c37 :: c38 :: c39 :: c40 :: c41 :: c42 :: c43 :: c44 :: c45 :: c46 :: c47 :: c48 :: c49 :: c50 :: c51 :: c52 :: c53 :: c54 :: c55 :: c56 :: c57 :: c58 :: c59 :: c60 :: c61 :: c62 :: c63 :: c64 :: c65 :: c66 :: c67 :: c68 :: c69 :: c70 :: c71 :: c72 :: c73 :: c74 :: c75 :: c76 :: c77 :: c78 :: c79 :: c80 :: c81 :: c82 :: c83 :: c84 :: c85 :: c86 :: c87 :: c88 :: c89 :: c90 :: c91 :: c92 :: c93 :: c94 :: c95 :: c96 :: c97 :: c98 :: c99 :: c100 :: c101 :: c102 :: c103 :: c104 :: c105 :: c106 :: c107 :: c108 :: c109 :: c110 :: c111 :: c112 :: c113 :: c114 :: c115 :: c116 :: c117 :: c118 :: c119 :: c120 :: c121 :: c122 :: c123 :: c124 :: c125 :: c126 :: c127 :: c128 :: c129 :: c130 :: c131 :: c132 :: c133 :: c134 :: c135 :: c136 :: c137 :: c138 :: c139 :: c140 :: c141 :: c142 :: c143 :: c144 :: c145 :: c146 :: c147 :: c148 :: c149 :: c150 :: c151 :: c152 :: c153 :: c154 :: c155 :: c156 :: c157 :: c158 :: c159 :: c160 :: c161 :: c162 :: c163 :: c164 :: c165 :: c166 :: c167 :: c168 :: c169 :: c170 :: c171 :: c172 :: c173 :: c174 :: c175 :: c176 :: c177 :: c178 :: c179 :: c180 :: c181 :: c182 :: c183 :: c184 :: c185 :: c186 :: c187 :: c188 :: c189 :: c190 :: c191 :: c192 :: c193 :: c194 :: c195 :: c196 :: c197 :: c198 :: c199 :: c200 :: c201 :: c202 :: c203 :: c204 :: c205 :: c206 :: c207 :: u208 :: u209 :: u210 :: u211 :: u212 :: u213 :: u214 :: u215 :: u216 :: u217 :: u218 :: u219 :: u220 :: u221 :: u222 :: u223 :: u224 :: u225 :: u226 :: u227 :: u228 :: u229 :: u230 :: u231 :: u232 :: u233 :: u234 :: u235 :: u236 :: u237 :: u238 :: u239 :: u240 :: u241 :: u242 :: u243 :: []), []⟩ w0 := by
  have HX : Hid (∀ (zc : Int) (u29 u30 u31 u32 u208 u209 u210 u211 u212 u213 u214 u215 u216 u217 u218 u219 u220 u221 u222 u223 u224 u225 u226 u227 u228 u229 u230 u231 u232 u233 u234 u235 u236 u237 u238 u239 u240 u241 u242 u243 : Value) (w' : World), Below W6.heap.size W6 w' → Q0 (.exit 4) ⟨List.toArray (c0 :: c1 :: c2 :: c3 :: c4 :: c5 :: c6 :: c7 :: c8 :: c9 :: c10 :: .slice (some ⟨g5, 0, none⟩) 3 3 :: .int .i64 (a : Nat) :: c13 :: c14 :: c15 :: c16 :: c17 :: .int .i64 (b : Nat) :: .bool av :: c20 :: c21 :: c22 :: c23 :: c24 :: c25 :: c26 :: c27 :: .int .i64 zc :: u29 :: u30 :: u31 :: u32 :: c33 :: c34 :: c35 :: c36 :: c37 :: c38 :: c39 :: c40 :: c41 :: c42 :: c43 :: c44 :: c45 :: c46 :: c47 :: c48 :: c49 :: c50 :: c51 :: c52 :: c53 :: c54 :: c55 :: c56 :: c57 :: c58 :: c59 :: c60 :: c61 :: c62 :: c63 :: c64 :: c65 :: c66 :: c67 :: c68 :: c69 :: c70 :: c71 :: c72 :: c73 :: c74 :: c75 :: c76 :: c77 :: c78 :: c79 :: c80 :: c81 :: c82 :: c83 :: c84 :: c85 :: c86 :: c87 :: c88 :: c89 :: c90 :: c91 :: c92 :: c93 :: c94 :: c95 :: c96 :: c97 :: c98 :: c99 :: c100 :: c101 :: c102 :: c103 :: c104 :: c105 :: c106 :: c107 :: c108 :: c109 :: c110 :: c111 :: c112 :: c113 :: c114 :: c115 :: c116 :: c117 :: c118 :: c119 :: c120 :: c121 :: c122 :: c123 :: c124 :: c125 :: c126 :: c127 :: c128 :: c129 :: c130 :: c131 :: c132 :: c133 :: c134 :: c135 :: c136 :: c137 :: c138 :: c139 :: c140 :: c141 :: c142 :: c143 :: c144 :: c145 :: c146 :: c147 :: c148 :: c149 :: c150 :: c151 :: c152 :: c153 :: c154 :: c155 :: c156 :: c157 :: c158 :: c159 :: c160 :: c161 :: c162 :: c163 :: c164 :: c165 :: c166 :: c167 :: c168 :: c169 :: c170 :: c171 :: c172 :: c173 :: c174 :: c175 :: c176 :: c177 :: c178 :: c179 :: c180 :: c181 :: c182 :: c183 :: c184 :: c185 :: c186 :: c187 :: c188 :: c189 :: c190 :: c191 :: c192 :: c193 :: c194 :: c195 :: c196 :: c197 :: c198 :: c199 :: c200 :: c201 :: c202 :: c203 :: c204 :: c205 :: c206 :: c207 :: u208 :: u209 :: u210 :: u211 :: u212 :: u213 :: u214 :: u215 :: u216 :: u217 :: u218 :: u219 :: u220 :: u221 :: u222 :: u223 :: u224 :: u225 :: u226 :: u227 :: u228 :: u229 :: u230 :: u231 :: u232 :: u233 :: u234 :: u235 :: u236 :: u237 :: u238 :: u239 :: u240 :: u241 :: u242 :: u243 :: []), []⟩ w') := hexit
  clear hexit
  obtain ⟨⟨p0, p1, p2, p3, p4, p5, p6, p7, p8, pp, ppath, ppc⟩, pip, pic, pit⟩ := P
  obtain ⟨⟨q0, q1, q2, q3, q4, q5, q6, q7, q8, qp, qpath, qpc⟩, qip, qic, qit⟩ := Qd
  refine wp_loop (fun x w' => ∃ (c : Nat) (zc : Int), c ≤ 3 ∧ zc = c ∧ Hid (Below W6.heap.size W6 w') ∧ ∃ (u29 u30 u31 u32 u208 u209 u210 u211 u212 u213 u214 u215 u216 u217 u218 u219 u220 u221 u222 u223 u224 u225 u226 u227 u228 u229 u230 u231 u232 u233 u234 u235 u236 u237 u238 u239 u240 u241 u242 u243 : Value), x = ⟨List.toArray (c0 :: c1 :: c2 :: c3 :: c4 :: c5 :: c6 :: c7 :: c8 :: c9 :: c10 :: .slice (some ⟨g5, 0, none⟩) 3 3 :: .int .i64 (a : Nat) :: c13 :: c14 :: c15 :: c16 :: c17 :: .int .i64 (b : Nat) :: .bool av :: c20 :: c21 :: c22 :: c23 :: c24 :: c25 :: c26 :: c27 :: .int .i64 zc :: u29 :: u30 :: u31 :: u32 :: c33 :: c34 :: c35 :: c36 :: c37 :: c38 :: c39 :: c40 :: c41 :: c42 :: c43 :: c44 :: c45 :: c46 :: c47 :: c48 :: c49 :: c50 :: c51 :: c52 :: c53 :: c54 :: c55 :: c56 :: c57 :: c58 :: c59 :: c60 :: c61 :: c62 :: c63 :: c64 :: c65 :: c66 :: c67 :: c68 :: c69 :: c70 :: c71 :: c72 :: c73 :: c74 :: c75 :: c76 :: c77 :: c78 :: c79 :: c80 :: c81 :: c82 :: c83 :: c84 :: c85 :: c86 :: c87 :: c88 :: c89 :: c90 :: c91 :: c92 :: c93 :: c94 :: c95 :: c96 :: c97 :: c98 :: c99 :: c100 :: c101 :: c102 :: c103 :: c104 :: c105 :: c106 :: c107 :: c108 :: c109 :: c110 :: c111 :: c112 :: c113 :: c114 :: c115 :: c116 :: c117 :: c118 :: c119 :: c120 :: c121 :: c122 :: c123 :: c124 :: c125 :: c126 :: c127 :: c128 :: c129 :: c130 :: c131 :: c132 :: c133 :: c134 :: c135 :: c136 :: c137 :: c138 :: c139 :: c140 :: c141 :: c142 :: c143 :: c144 :: c145 :: c146 :: c147 :: c148 :: c149 :: c150 :: c151 :: c152 :: c153 :: c154 :: c155 :: c156 :: c157 :: c158 :: c159 :: c160 :: c161 :: c162 :: c163 :: c164 :: c165 :: c166 :: c167 :: c168 :: c169 :: c170 :: c171 :: c172 :: c173 :: c174 :: c175 :: c176 :: c177 :: c178 :: c179 :: c180 :: c181 :: c182 :: c183 :: c184 :: c185 :: c186 :: c187 :: c188 :: c189 :: c190 :: c191 :: c192 :: c193 :: c194 :: c195 :: c196 :: c197 :: c198 :: c199 :: c200 :: c201 :: c202 :: c203 :: c204 :: c205 :: c206 :: c207 :: u208 :: u209 :: u210 :: u211 :: u212 :: u213 :: u214 :: u215 :: u216 :: u217 :: u218 :: u219 :: u220 :: u221 :: u222 :: u223 :: u224 :: u225 :: u226 :: u227 :: u228 :: u229 :: u230 :: u231 :: u232 :: u233 :: u234 :: u235 :: u236 :: u237 :: u238 :: u239 :: u240 :: u241 :: u242 :: u243 :: []), []⟩) (fun x _ => 3 - (intOf (x.tmps.getD 28 undef)).toNat) ⟨0, 0, by omega, rfl, HT5, u29, u30, u31, u32, u208, u209, u210, u211, u212, u213, u214, u215, u216, u217, u218, u219, u220, u221, u222, u223, u224, u225, u226, u227, u228, u229, u230, u231, u232, u233, u234, u235, u236, u237, u238, u239, u240, u241, u242, u243, rfl⟩ ?_
  clear u29 u30 u31 u32 u208 u209 u210 u211 u212 u213 u214 u215 u216 u217 u218 u219 u220 u221 u222 u223 u224 u225 u226 u227 u228 u229 u230 u231 u232 u233 u234 u235 u236 u237 u238 u239 u240 u241 u242 u243 HT5
  rintro x wr ⟨c, zc, hc3, hzc, HT3, hI⟩
  obtain ⟨u29, hI⟩ := hI
  obtain ⟨u30, hI⟩ := hI
  obtain ⟨u31, hI⟩ := hI
  obtain ⟨u32, hI⟩ := hI
  obtain ⟨u208, hI⟩ := hI
  obtain ⟨u209, hI⟩ := hI
  obtain ⟨u210, hI⟩ := hI
  obtain ⟨u211, hI⟩ := hI
  obtain ⟨u212, hI⟩ := hI
  obtain ⟨u213, hI⟩ := hI
  obtain ⟨u214, hI⟩ := hI
  obtain ⟨u215, hI⟩ := hI
  obtain ⟨u216, hI⟩ := hI
  obtain ⟨u217, hI⟩ := hI
  obtain ⟨u218, hI⟩ := hI
  obtain ⟨u219, hI⟩ := hI
  obtain ⟨u220, hI⟩ := hI
  obtain ⟨u221, hI⟩ := hI
  obtain ⟨u222, hI⟩ := hI
  obtain ⟨u223, hI⟩ := hI
  obtain ⟨u224, hI⟩ := hI
  obtain ⟨u225, hI⟩ := hI
  obtain ⟨u226, hI⟩ := hI
  obtain ⟨u227, hI⟩ := hI
  obtain ⟨u228, hI⟩ := hI
  obtain ⟨u229, hI⟩ := hI
  obtain ⟨u230, hI⟩ := hI
  obtain ⟨u231, hI⟩ := hI
  obtain ⟨u232, hI⟩ := hI
  obtain ⟨u233, hI⟩ := hI
  obtain ⟨u234, hI⟩ := hI
  obtain ⟨u235, hI⟩ := hI
  obtain ⟨u236, hI⟩ := hI
  obtain ⟨u237, hI⟩ := hI
  obtain ⟨u238, hI⟩ := hI
  obtain ⟨u239, hI⟩ := hI
  obtain ⟨u240, hI⟩ := hI
  obtain ⟨u241, hI⟩ := hI
  obtain ⟨u242, hI⟩ := hI
  obtain ⟨u243, hI⟩ := hI
  subst hI
  subst hzc
  conv => arg 2; whnf
  have Rwr : Below wr.heap.size wr wr := Below.refl _ _
  by_cases ltc' : c < 3
  · have ltc : (c : Int) < 3 := by omega
    have HOc : Hid ((∀ W, Below W6.heap.size W6 W → MD.In W.heap.size W 4 (ls c)) ∧ MD.right 4 (ls c) = true) := ⟨fun W hW => (HO.out c).1.later (Nat.le_refl _) hW, (HO.out c).2⟩
    have HCt : Hid (∀ W, Below wr.heap.size wr W → MD.CellsAt W g5 (b * 11) ⟨⟨q0, q1, q2, q3, q4, q5, q6, q7, q8, qp, qpath, qpc⟩, qip, qic, qit⟩ ∧ MD.CellsAt W g5 (c * 11) (ls c) ∧ MD.CellsAt W g5 (a * 11) ⟨⟨p0, p1, p2, p3, p4, p5, p6, p7, p8, pp, ppath, ppc⟩, pip, pic, pit⟩) := fun W hW => ⟨HC1.out W (HT3.out.trans (hW.mono HT3.out.size)), HC.out W (HT3.out.trans (hW.mono HT3.out.size)) c ltc', HC0.out W (HT3.out.trans (hW.mono HT3.out.size))⟩
    have HEc : Hid (∀ W, Below wr.heap.size wr W → Calls Tryd.prog 10 #[MD.val ⟨⟨q0, q1, q2, q3, q4, q5, q6, q7, q8, qp, qpath, qpc⟩, qip, qic, qit⟩, (ls c).val] W (fun r w' => ∃ v, r = .returned (.tuple #[.bool (MD.eqv 4 ⟨⟨q0, q1, q2, q3, q4, q5, q6, q7, q8, qp, qpath, qpc⟩, qip, qic, qit⟩ (ls c)).1, v]) ∧ IsErr v ((MD.eqv 4 ⟨⟨q0, q1, q2, q3, q4, q5, q6, q7, q8, qp, qpath, qpc⟩, qip, qic, qit⟩ (ls c)).2.size == 0) ∧ Below wr.heap.size wr w')) := fun W hW => (Equal_all _ _ W (HNm.out W (HT3.out.trans (hW.mono HT3.out.size))) (HOb.out.1 W (HT3.out.trans (hW.mono HT3.out.size))) (HOc.out.1 W (HT3.out.trans (hW.mono HT3.out.size))) HOb.out.2 HOc.out.2).mono fun _ _ ⟨v, e1, e2, e3⟩ => ⟨v, e1, e2, hW.trans (e3.mono hW.size)⟩
    have HEd : Hid (∀ W, Below wr.heap.size wr W → Calls Tryd.prog 10 #[MD.val ⟨⟨p0, p1, p2, p3, p4, p5, p6, p7, p8, pp, ppath, ppc⟩, pip, pic, pit⟩, (ls c).val] W (fun r w' => ∃ v, r = .returned (.tuple #[.bool (MD.eqv 4 ⟨⟨p0, p1, p2, p3, p4, p5, p6, p7, p8, pp, ppath, ppc⟩, pip, pic, pit⟩ (ls c)).1, v]) ∧ IsErr v ((MD.eqv 4 ⟨⟨p0, p1, p2, p3, p4, p5, p6, p7, p8, pp, ppath, ppc⟩, pip, pic, pit⟩ (ls c)).2.size == 0) ∧ Below wr.heap.size wr w')) := fun W hW => (Equal_all _ _ W (HNm.out W (HT3.out.trans (hW.mono HT3.out.size))) (HOa.out.1 W (HT3.out.trans (hW.mono HT3.out.size))) (HOc.out.1 W (HT3.out.trans (hW.mono HT3.out.size))) HOa.out.2 HOc.out.2).mono fun _ _ ⟨v, e1, e2, e3⟩ => ⟨v, e1, e2, hW.trans (e3.mono hW.size)⟩
    have HFt : Hid (av = true → (MD.eqv 4 ⟨⟨q0, q1, q2, q3, q4, q5, q6, q7, q8, qp, qpath, qpc⟩, qip, qic, qit⟩ (ls c)).1 = true → (MD.eqv 4 ⟨⟨p0, p1, p2, p3, p4, p5, p6, p7, p8, pp, ppath, ppc⟩, pip, pic, pit⟩ (ls c)).1 = true) := fun h1 h2 => eqv_trans 4 _ _ _ (fl_of HOa.out.1) (fl_of HOb.out.1) (fl_of HOc.out.1) (HEQ2.out.symm.trans h1) h2
    generalize ((MD.eqv 4 ⟨⟨q0, q1, q2, q3, q4, q5, q6, q7, q8, qp, qpath, qpc⟩, qip, qic, qit⟩ (ls c)).2.size == 0) = cs at HEc
    generalize ((MD.eqv 4 ⟨⟨p0, p1, p2, p3, p4, p5, p6, p7, p8, pp, ppath, ppc⟩, pip, pic, pit⟩ (ls c)).2.size == 0) = dd at HEd
    generalize (MD.eqv 4 ⟨⟨q0, q1, q2, q3, q4, q5, q6, q7, q8, qp, qpath, qpc⟩, qip, qic, qit⟩ (ls c)).1 = cv at HEc HFt
    generalize (MD.eqv 4 ⟨⟨p0, p1, p2, p3, p4, p5, p6, p7, p8, pp, ppath, ppc⟩, pip, pic, pit⟩ (ls c)).1 = dv at HEd HFt
    generalize ls c = zt at HCt HOc HEc HEd
    obtain ⟨⟨z0, z1, z2, z3, z4, z5, z6, z7, z8, zp, zpath, zpc⟩, zip, zic, zit⟩ := zt
    simp only [MD.val, D] at HEc HEd
    have HSbc : Hid (∀ W, Below wr.heap.size wr W → MD.CellsAt W g5 (b * 11) ⟨⟨q0, q1, q2, q3, q4, q5, q6, q7, q8, qp, qpath, qpc⟩, qip, qic, qit⟩ ∧ MD.CellsAt W g5 (c * 11) ⟨⟨z0, z1, z2, z3, z4, z5, z6, z7, z8, zp, zpath, zpc⟩, zip, zic, zit⟩) := fun W hW => ⟨(HCt.out W hW).1, (HCt.out W hW).2.1⟩
    have HSac : Hid (∀ W, Below wr.heap.size wr W → MD.CellsAt W g5 (a * 11) ⟨⟨p0, p1, p2, p3, p4, p5, p6, p7, p8, pp, ppath, ppc⟩, pip, pic, pit⟩ ∧ MD.CellsAt W g5 (c * 11) ⟨⟨z0, z1, z2, z3, z4, z5, z6, z7, z8, zp, zpath, zpc⟩, zip, zic, zit⟩) := fun W hW => ⟨(HCt.out W hW).2.2, (HCt.out W hW).2.1⟩
    clear HOc HCt
    go_wp2_with fail
    refine wp_region_noPanic ?_
    refine wp_region_held (S := fun W => (∀ i, i < 11 → W.cell? ⟨g5, b * 11 + i, none⟩ = (#[.int .i64 q0, .string q1, .int .i64 q2, .int .u64 q3, .string q4, .int .i64 q5, .int .i64 q6, .int .i64 q7, .int .i64 q8, .slice qp qpath.length qpc, .slice qip qit.length qic] : Array Value)[i]?) ∧ (∀ i, i < 11 → W.cell? ⟨g5, c * 11 + i, none⟩ = (#[.int .i64 z0, .string z1, .int .i64 z2, .int .u64 z3, .string z4, .int .i64 z5, .int .i64 z6, .int .i64 z7, .int .i64 z8, .slice zp zpath.length zpc, .slice zip zit.length zic] : Array Value)[i]?)) (by kernel_rfl) ?_
    obtain ⟨s1d, hs1d⟩ : ∃ W4, W4 = wr.drew := ⟨_, rfl⟩
    have e4 : ({ wr with drawn := wr.drawn + 1 } : World) = s1d := hs1d.symm
    rw [e4]
    have Bs1d : Below wr.heap.size wr s1d := by rw [hs1d]; exact (Below.refl _ _).drew
    have Rs1d : Below wr.heap.size wr s1d := Rwr.trans (Bs1d.mono Rwr.size)
    have hS := HSbc.out s1d Rs1d
    clear e4 hs1d
    refine wpAnyH_take (i := 0) (v := .slice (some ⟨g5, 0, none⟩) 3 3) rfl (by kernel_rfl) (by kernel_rfl) (by kernel_rfl) (fun _ _ _ h => h) (Or.inl ⟨by rfl, ?r⟩) hS ?_
    case r => intro W hW; simp [go_sem, execOp, Act.eval]
    simp only [List.getElem_toArray, List.getElem_cons_zero, Act.put, List.setIfInBounds_toArray, List.set_cons_succ, List.set_cons_zero]
    refine wpAnyH_take (i := 1) (v := .int .i64 b) rfl (by kernel_rfl) (by kernel_rfl) (by kernel_rfl) (fun _ _ _ h => h) (Or.inl ⟨by rfl, ?r⟩) hS ?_
    case r => intro W hW; simp [go_sem, execOp, Act.eval]
    simp only [List.getElem_toArray, List.getElem_cons_zero, List.getElem_cons_succ, Act.put, List.setIfInBounds_toArray, List.set_cons_succ, List.set_cons_zero]
    refine wpAnyH_take (i := 2) (v := .pointer (some ⟨g5, b * 11, none⟩)) rfl (by kernel_rfl) (by kernel_rfl) (by kernel_rfl) (fun _ _ _ h => h) (Or.inl ⟨by rfl, ?r⟩) hS ?_
    case r => intro W hW; simp [go_sem, execOp, Act.eval, ltb]
    simp only [List.getElem_toArray, List.getElem_cons_zero, List.getElem_cons_succ, Act.put, List.setIfInBounds_toArray, List.set_cons_succ, List.set_cons_zero]
    refine wpAnyH_take (i := 3) (v := .agg #[.int .i64 q0, .string q1, .int .i64 q2, .int .u64 q3, .string q4, .int .i64 q5, .int .i64 q6, .int .i64 q7, .int .i64 q8, .slice qp qpath.length qpc, .slice qip qit.length qic]) rfl (by kernel_rfl) (by kernel_rfl) (by kernel_rfl) (fun _ _ _ h => h) (Or.inl ⟨by rfl, ?r⟩) hS ?_
    case r => intro W hW; have e0 : W.cell? ⟨g5, b * 11, none⟩ = some (.int .i64 q0) := hW.1 0 (by omega); have e1 : W.cell? ⟨g5, b * 11 + 1, none⟩ = some (.string q1) := hW.1 1 (by omega); have e2 : W.cell? ⟨g5, b * 11 + 2, none⟩ = some (.int .i64 q2) := hW.1 2 (by omega); have e3 : W.cell? ⟨g5, b * 11 + 3, none⟩ = some (.int .u64 q3) := hW.1 3 (by omega); have e4 : W.cell? ⟨g5, b * 11 + 4, none⟩ = some (.string q4) := hW.1 4 (by omega); have e5 : W.cell? ⟨g5, b * 11 + 5, none⟩ = some (.int .i64 q5) := hW.1 5 (by omega); have e6 : W.cell? ⟨g5, b * 11 + 6, none⟩ = some (.int .i64 q6) := hW.1 6 (by omega); have e7 : W.cell? ⟨g5, b * 11 + 7, none⟩ = some (.int .i64 q7) := hW.1 7 (by omega); have e8 : W.cell? ⟨g5, b * 11 + 8, none⟩ = some (.int .i64 q8) := hW.1 8 (by omega); have e9 : W.cell? ⟨g5, b * 11 + 9, none⟩ = some (.slice qp qpath.length qpc) := hW.1 9 (by omega); have e10 : W.cell? ⟨g5, b * 11 + 10, none⟩ = some (.slice qip qit.length qic) := hW.1 10 (by omega); simp [go_sem, execOp, Act.eval, e0, e1, e2, e3, e4, e5, e6, e7, e8, e9, e10]
    simp only [List.getElem_toArray, List.getElem_cons_zero, List.getElem_cons_succ, Act.put, List.setIfInBounds_toArray, List.set_cons_succ, List.set_cons_zero]
    refine wpAnyH_take (i := 4) (v := .slice (some ⟨g5, 0, none⟩) 3 3) rfl (by kernel_rfl) (by kernel_rfl) (by kernel_rfl) (fun _ _ _ h => h) (Or.inl ⟨by rfl, ?r⟩) hS ?_
    case r => intro W hW; simp [go_sem, execOp, Act.eval]
    simp only [List.getElem_toArray, List.getElem_cons_zero, List.getElem_cons_succ, Act.put, List.setIfInBounds_toArray, List.set_cons_succ, List.set_cons_zero]
    refine wpAnyH_take (i := 5) (v := .int .i64 c) rfl (by kernel_rfl) (by kernel_rfl) (by kernel_rfl) (fun _ _ _ h => h) (Or.inl ⟨by rfl, ?r⟩) hS ?_
    case r => intro W hW; simp [go_sem, execOp, Act.eval]
    simp only [List.getElem_toArray, List.getElem_cons_zero, List.getElem_cons_succ, Act.put, List.setIfInBounds_toArray, List.set_cons_succ, List.set_cons_zero]
    refine wpAnyH_take (i := 6) (v := .pointer (some ⟨g5, c * 11, none⟩)) rfl (by kernel_rfl) (by kernel_rfl) (by kernel_rfl) (fun _ _ _ h => h) (Or.inl ⟨by rfl, ?r⟩) hS ?_
    case r => intro W hW; simp [go_sem, execOp, Act.eval, ltc]
    simp only [List.getElem_toArray, List.getElem_cons_zero, List.getElem_cons_succ, Act.put, List.setIfInBounds_toArray, List.set_cons_succ, List.set_cons_zero]
    refine wpAnyH_take (i := 7) (v := .agg #[.int .i64 z0, .string z1, .int .i64 z2, .int .u64 z3, .string z4, .int .i64 z5, .int .i64 z6, .int .i64 z7, .int .i64 z8, .slice zp zpath.length zpc, .slice zip zit.length zic]) rfl (by kernel_rfl) (by kernel_rfl) (by kernel_rfl) (fun _ _ _ h => h) (Or.inl ⟨by rfl, ?r⟩) hS ?_
    case r => intro W hW; have e0 : W.cell? ⟨g5, c * 11, none⟩ = some (.int .i64 z0) := hW.2 0 (by omega); have e1 : W.cell? ⟨g5, c * 11 + 1, none⟩ = some (.string z1) := hW.2 1 (by omega); have e2 : W.cell? ⟨g5, c * 11 + 2, none⟩ = some (.int .i64 z2) := hW.2 2 (by omega); have e3 : W.cell? ⟨g5, c * 11 + 3, none⟩ = some (.int .u64 z3) := hW.2 3 (by omega); have e4 : W.cell? ⟨g5, c * 11 + 4, none⟩ = some (.string z4) := hW.2 4 (by omega); have e5 : W.cell? ⟨g5, c * 11 + 5, none⟩ = some (.int .i64 z5) := hW.2 5 (by omega); have e6 : W.cell? ⟨g5, c * 11 + 6, none⟩ = some (.int .i64 z6) := hW.2 6 (by omega); have e7 : W.cell? ⟨g5, c * 11 + 7, none⟩ = some (.int .i64 z7) := hW.2 7 (by omega); have e8 : W.cell? ⟨g5, c * 11 + 8, none⟩ = some (.int .i64 z8) := hW.2 8 (by omega); have e9 : W.cell? ⟨g5, c * 11 + 9, none⟩ = some (.slice zp zpath.length zpc) := hW.2 9 (by omega); have e10 : W.cell? ⟨g5, c * 11 + 10, none⟩ = some (.slice zip zit.length zic) := hW.2 10 (by omega); simp [go_sem, execOp, Act.eval, e0, e1, e2, e3, e4, e5, e6, e7, e8, e9, e10]
    simp only [List.getElem_toArray, List.getElem_cons_zero, List.getElem_cons_succ, Act.put, List.setIfInBounds_toArray, List.set_cons_succ, List.set_cons_zero]
    refine wpAnyH_all (rs := [8]) (by kernel_rfl) (by simp) (fun i2 hi2 => ?_)
    obtain rfl : i2 = 8 := by simpa using hi2
    clear hi2
    refine wpOp_step rfl (fun K hK => ite_yes rfl ?_)
    simp only [List.getElem_toArray, List.getElem_cons_zero, List.getElem_cons_succ]
    go_simp
    refine (HEc.out _ Rs1d).mono ?_
    rintro e s1 ⟨x0, rfl, Hx0, Rs1⟩
    go_simp
    refine hK _ _ ⟨HSbc.out _ Rs1, ?_⟩
    clear hK K hS
    have hS := HSbc.out _ Rs1
    refine wpAnyH_take (i := 9) (v := .tuple #[.bool cv, x0]) rfl (by kernel_rfl) (by kernel_rfl) (by kernel_rfl) (fun _ _ _ h => h) (Or.inl ⟨by rfl, ?r⟩) hS ?_
    case r => intro W hW; simp [go_sem, execOp, Act.eval]
    simp only [List.getElem_toArray, List.getElem_cons_zero, List.getElem_cons_succ, Act.put, List.setIfInBounds_toArray, List.set_cons_succ, List.set_cons_zero]
    refine wpAnyH_take (i := 10) (v := .bool cv) rfl (by kernel_rfl) (by kernel_rfl) (by kernel_rfl) (fun _ _ _ h => h) (Or.inl ⟨by rfl, ?r⟩) hS ?_
    case r => intro W hW; simp [go_sem, execOp, Act.eval]
    simp only [List.getElem_toArray, List.getElem_cons_zero, List.getElem_cons_succ, Act.put, List.setIfInBounds_toArray, List.set_cons_succ, List.set_cons_zero]
    refine wpAnyH_take (i := 11) (v := x0) rfl (by kernel_rfl) (by kernel_rfl) (by kernel_rfl) (fun _ _ _ h => h) (Or.inl ⟨by rfl, ?r⟩) hS ?_
    case r => intro W hW; simp [go_sem, execOp, Act.eval]
    simp only [List.getElem_toArray, List.getElem_cons_zero, List.getElem_cons_succ, Act.put, List.setIfInBounds_toArray, List.set_cons_succ, List.set_cons_zero]
    refine wpAnyH_take (i := 12) (v := .bool cv) rfl (by kernel_rfl) (by kernel_rfl) (by kernel_rfl) (fun _ _ _ h => h) (Or.inl ⟨by rfl, ?r⟩) hS ?_
    case r => intro W hW; simp [go_sem, execOp, Act.eval]
    simp only [List.getElem_toArray, List.getElem_cons_zero, List.getElem_cons_succ, Act.put, List.setIfInBounds_toArray, List.set_cons_succ, List.set_cons_zero]
    refine wpAnyH_take (i := 13) (v := x0) rfl (by kernel_rfl) (by kernel_rfl) (by kernel_rfl) (fun _ _ _ h => h) (Or.inl ⟨by rfl, ?r⟩) hS ?_
    case r => intro W hW; simp [go_sem, execOp, Act.eval]
    simp only [List.getElem_toArray, List.getElem_cons_zero, List.getElem_cons_succ, Act.put, List.setIfInBounds_toArray, List.set_cons_succ, List.set_cons_zero]
    refine wpAnyH_done (by kernel_rfl) ?_ _
    refine NoPanic.normal ?_
    try simp only [Act.put]
    clear hS Rs1d Bs1d
    go_wp2_with fail
    refine wp_region_noPanic ?_
    refine wp_region_held (S := fun W => (∀ i, i < 11 → W.cell? ⟨g5, a * 11 + i, none⟩ = (#[.int .i64 p0, .string p1, .int .i64 p2, .int .u64 p3, .string p4, .int .i64 p5, .int .i64 p6, .int .i64 p7, .int .i64 p8, .slice pp ppath.length ppc, .slice pip pit.length pic] : Array Value)[i]?) ∧ (∀ i, i < 11 → W.cell? ⟨g5, c * 11 + i, none⟩ = (#[.int .i64 z0, .string z1, .int .i64 z2, .int .u64 z3, .string z4, .int .i64 z5, .int .i64 z6, .int .i64 z7, .int .i64 z8, .slice zp zpath.length zpc, .slice zip zit.length zic] : Array Value)[i]?)) (by kernel_rfl) ?_
    obtain ⟨s2d, hs2d⟩ : ∃ W4, W4 = s1.drew := ⟨_, rfl⟩
    have e4 : ({ s1 with drawn := s1.drawn + 1 } : World) = s2d := hs2d.symm
    rw [e4]
    have Bs2d : Below s1.heap.size s1 s2d := by rw [hs2d]; exact (Below.refl _ _).drew
    have Rs2d : Below wr.heap.size wr s2d := Rs1.trans (Bs2d.mono Rs1.size)
    have hS := HSac.out s2d Rs2d
    clear e4 hs2d
    refine wpAnyH_take (i := 0) (v := .slice (some ⟨g5, 0, none⟩) 3 3) rfl (by kernel_rfl) (by kernel_rfl) (by kernel_rfl) (fun _ _ _ h => h) (Or.inl ⟨by rfl, ?r⟩) hS ?_
    case r => intro W hW; simp [go_sem, execOp, Act.eval]
    simp only [List.getElem_toArray, List.getElem_cons_zero, Act.put, List.setIfInBounds_toArray, List.set_cons_succ, List.set_cons_zero]
    refine wpAnyH_take (i := 1) (v := .int .i64 a) rfl (by kernel_rfl) (by kernel_rfl) (by kernel_rfl) (fun _ _ _ h => h) (Or.inl ⟨by rfl, ?r⟩) hS ?_
    case r => intro W hW; simp [go_sem, execOp, Act.eval]
    simp only [List.getElem_toArray, List.getElem_cons_zero, List.getElem_cons_succ, Act.put, List.setIfInBounds_toArray, List.set_cons_succ, List.set_cons_zero]
    refine wpAnyH_take (i := 2) (v := .pointer (some ⟨g5, a * 11, none⟩)) rfl (by kernel_rfl) (by kernel_rfl) (by kernel_rfl) (fun _ _ _ h => h) (Or.inl ⟨by rfl, ?r⟩) hS ?_
    case r => intro W hW; simp [go_sem, execOp, Act.eval, lta]
    simp only [List.getElem_toArray, List.getElem_cons_zero, List.getElem_cons_succ, Act.put, List.setIfInBounds_toArray, List.set_cons_succ, List.set_cons_zero]
    refine wpAnyH_take (i := 3) (v := .agg #[.int .i64 p0, .string p1, .int .i64 p2, .int .u64 p3, .string p4, .int .i64 p5, .int .i64 p6, .int .i64 p7, .int .i64 p8, .slice pp ppath.length ppc, .slice pip pit.length pic]) rfl (by kernel_rfl) (by kernel_rfl) (by kernel_rfl) (fun _ _ _ h => h) (Or.inl ⟨by rfl, ?r⟩) hS ?_
    case r => intro W hW; have e0 : W.cell? ⟨g5, a * 11, none⟩ = some (.int .i64 p0) := hW.1 0 (by omega); have e1 : W.cell? ⟨g5, a * 11 + 1, none⟩ = some (.string p1) := hW.1 1 (by omega); have e2 : W.cell? ⟨g5, a * 11 + 2, none⟩ = some (.int .i64 p2) := hW.1 2 (by omega); have e3 : W.cell? ⟨g5, a * 11 + 3, none⟩ = some (.int .u64 p3) := hW.1 3 (by omega); have e4 : W.cell? ⟨g5, a * 11 + 4, none⟩ = some (.string p4) := hW.1 4 (by omega); have e5 : W.cell? ⟨g5, a * 11 + 5, none⟩ = some (.int .i64 p5) := hW.1 5 (by omega); have e6 : W.cell? ⟨g5, a * 11 + 6, none⟩ = some (.int .i64 p6) := hW.1 6 (by omega); have e7 : W.cell? ⟨g5, a * 11 + 7, none⟩ = some (.int .i64 p7) := hW.1 7 (by omega); have e8 : W.cell? ⟨g5, a * 11 + 8, none⟩ = some (.int .i64 p8) := hW.1 8 (by omega); have e9 : W.cell? ⟨g5, a * 11 + 9, none⟩ = some (.slice pp ppath.length ppc) := hW.1 9 (by omega); have e10 : W.cell? ⟨g5, a * 11 + 10, none⟩ = some (.slice pip pit.length pic) := hW.1 10 (by omega); simp [go_sem, execOp, Act.eval, e0, e1, e2, e3, e4, e5, e6, e7, e8, e9, e10]
    simp only [List.getElem_toArray, List.getElem_cons_zero, List.getElem_cons_succ, Act.put, List.setIfInBounds_toArray, List.set_cons_succ, List.set_cons_zero]
    refine wpAnyH_take (i := 4) (v := .slice (some ⟨g5, 0, none⟩) 3 3) rfl (by kernel_rfl) (by kernel_rfl) (by kernel_rfl) (fun _ _ _ h => h) (Or.inl ⟨by rfl, ?r⟩) hS ?_
    case r => intro W hW; simp [go_sem, execOp, Act.eval]
    simp only [List.getElem_toArray, List.getElem_cons_zero, List.getElem_cons_succ, Act.put, List.setIfInBounds_toArray, List.set_cons_succ, List.set_cons_zero]
    refine wpAnyH_take (i := 5) (v := .int .i64 c) rfl (by kernel_rfl) (by kernel_rfl) (by kernel_rfl) (fun _ _ _ h => h) (Or.inl ⟨by rfl, ?r⟩) hS ?_
    case r => intro W hW; simp [go_sem, execOp, Act.eval]
    simp only [List.getElem_toArray, List.getElem_cons_zero, List.getElem_cons_succ, Act.put, List.setIfInBounds_toArray, List.set_cons_succ, List.set_cons_zero]
    refine wpAnyH_take (i := 6) (v := .pointer (some ⟨g5, c * 11, none⟩)) rfl (by kernel_rfl) (by kernel_rfl) (by kernel_rfl) (fun _ _ _ h => h) (Or.inl ⟨by rfl, ?r⟩) hS ?_
    case r => intro W hW; simp [go_sem, execOp, Act.eval, ltc]
    simp only [List.getElem_toArray, List.getElem_cons_zero, List.getElem_cons_succ, Act.put, List.setIfInBounds_toArray, List.set_cons_succ, List.set_cons_zero]
    refine wpAnyH_take (i := 7) (v := .agg #[.int .i64 z0, .string z1, .int .i64 z2, .int .u64 z3, .string z4, .int .i64 z5, .int .i64 z6, .int .i64 z7, .int .i64 z8, .slice zp zpath.length zpc, .slice zip zit.length zic]) rfl (by kernel_rfl) (by kernel_rfl) (by kernel_rfl) (fun _ _ _ h => h) (Or.inl ⟨by rfl, ?r⟩) hS ?_
    case r => intro W hW; have e0 : W.cell? ⟨g5, c * 11, none⟩ = some (.int .i64 z0) := hW.2 0 (by omega); have e1 : W.cell? ⟨g5, c * 11 + 1, none⟩ = some (.string z1) := hW.2 1 (by omega); have e2 : W.cell? ⟨g5, c * 11 + 2, none⟩ = some (.int .i64 z2) := hW.2 2 (by omega); have e3 : W.cell? ⟨g5, c * 11 + 3, none⟩ = some (.int .u64 z3) := hW.2 3 (by omega); have e4 : W.cell? ⟨g5, c * 11 + 4, none⟩ = some (.string z4) := hW.2 4 (by omega); have e5 : W.cell? ⟨g5, c * 11 + 5, none⟩ = some (.int .i64 z5) := hW.2 5 (by omega); have e6 : W.cell? ⟨g5, c * 11 + 6, none⟩ = some (.int .i64 z6) := hW.2 6 (by omega); have e7 : W.cell? ⟨g5, c * 11 + 7, none⟩ = some (.int .i64 z7) := hW.2 7 (by omega); have e8 : W.cell? ⟨g5, c * 11 + 8, none⟩ = some (.int .i64 z8) := hW.2 8 (by omega); have e9 : W.cell? ⟨g5, c * 11 + 9, none⟩ = some (.slice zp zpath.length zpc) := hW.2 9 (by omega); have e10 : W.cell? ⟨g5, c * 11 + 10, none⟩ = some (.slice zip zit.length zic) := hW.2 10 (by omega); simp [go_sem, execOp, Act.eval, e0, e1, e2, e3, e4, e5, e6, e7, e8, e9, e10]
    simp only [List.getElem_toArray, List.getElem_cons_zero, List.getElem_cons_succ, Act.put, List.setIfInBounds_toArray, List.set_cons_succ, List.set_cons_zero]
    refine wpAnyH_all (rs := [8]) (by kernel_rfl) (by simp) (fun i2 hi2 => ?_)
    obtain rfl : i2 = 8 := by simpa using hi2
    clear hi2
    refine wpOp_step rfl (fun K hK => ite_yes rfl ?_)
    simp only [List.getElem_toArray, List.getElem_cons_zero, List.getElem_cons_succ]
    go_simp
    refine (HEd.out _ Rs2d).mono ?_
    rintro e s2 ⟨y0, rfl, Hy0, Rs2⟩
    go_simp
    refine hK _ _ ⟨HSac.out _ Rs2, ?_⟩
    clear hK K hS
    have hS := HSac.out _ Rs2
    refine wpAnyH_take (i := 9) (v := .tuple #[.bool dv, y0]) rfl (by kernel_rfl) (by kernel_rfl) (by kernel_rfl) (fun _ _ _ h => h) (Or.inl ⟨by rfl, ?r⟩) hS ?_
    case r => intro W hW; simp [go_sem, execOp, Act.eval]
    simp only [List.getElem_toArray, List.getElem_cons_zero, List.getElem_cons_succ, Act.put, List.setIfInBounds_toArray, List.set_cons_succ, List.set_cons_zero]
    refine wpAnyH_take (i := 10) (v := .bool dv) rfl (by kernel_rfl) (by kernel_rfl) (by kernel_rfl) (fun _ _ _ h => h) (Or.inl ⟨by rfl, ?r⟩) hS ?_
    case r => intro W hW; simp [go_sem, execOp, Act.eval]
    simp only [List.getElem_toArray, List.getElem_cons_zero, List.getElem_cons_succ, Act.put, List.setIfInBounds_toArray, List.set_cons_succ, List.set_cons_zero]
    refine wpAnyH_take (i := 11) (v := y0) rfl (by kernel_rfl) (by kernel_rfl) (by kernel_rfl) (fun _ _ _ h => h) (Or.inl ⟨by rfl, ?r⟩) hS ?_
    case r => intro W hW; simp [go_sem, execOp, Act.eval]
    simp only [List.getElem_toArray, List.getElem_cons_zero, List.getElem_cons_succ, Act.put, List.setIfInBounds_toArray, List.set_cons_succ, List.set_cons_zero]
    refine wpAnyH_take (i := 12) (v := .bool dv) rfl (by kernel_rfl) (by kernel_rfl) (by kernel_rfl) (fun _ _ _ h => h) (Or.inl ⟨by rfl, ?r⟩) hS ?_
    case r => intro W hW; simp [go_sem, execOp, Act.eval]
    simp only [List.getElem_toArray, List.getElem_cons_zero, List.getElem_cons_succ, Act.put, List.setIfInBounds_toArray, List.set_cons_succ, List.set_cons_zero]
    refine wpAnyH_take (i := 13) (v := y0) rfl (by kernel_rfl) (by kernel_rfl) (by kernel_rfl) (fun _ _ _ h => h) (Or.inl ⟨by rfl, ?r⟩) hS ?_
    case r => intro W hW; simp [go_sem, execOp, Act.eval]
    simp only [List.getElem_toArray, List.getElem_cons_zero, List.getElem_cons_succ, Act.put, List.setIfInBounds_toArray, List.set_cons_succ, List.set_cons_zero]
    refine wpAnyH_done (by kernel_rfl) ?_ _
    refine NoPanic.normal ?_
    try simp only [Act.put]
    clear hS Rs2d Bs2d
    have HT9 : Hid (Below W6.heap.size W6 s2) := HT3.out.trans (Rs2.mono HT3.out.size)
    clear HSbc HSac HEc HEd Rs1 Rs2 Hx0 Hy0
    cases av
    · clear HFt
      go_wp2_with fail
      exact ⟨⟨c + 1, (c : Int) + 1, by omega, by omega, HT9, _, _, _, _, _, _, _, _, _, _, _, _, _, _, _, _, _, _, _, _, _, _, _, _, _, _, _, _, _, _, _, _, _, _, _, _, _, _, _, _, rfl⟩, by simp [intOf]; omega⟩
    · cases cv
      · clear HFt
        go_wp2_with fail
        exact ⟨⟨c + 1, (c : Int) + 1, by omega, by omega, HT9, _, _, _, _, _, _, _, _, _, _, _, _, _, _, _, _, _, _, _, _, _, _, _, _, _, _, _, _, _, _, _, _, _, _, _, _, _, _, _, _, rfl⟩, by simp [intOf]; omega⟩
      · obtain rfl : dv = true := HFt.out rfl rfl
        clear HFt
        go_wp2_with fail
        exact ⟨⟨c + 1, (c : Int) + 1, by omega, by omega, HT9, _, _, _, _, _, _, _, _, _, _, _, _, _, _, _, _, _, _, _, _, _, _, _, _, _, _, _, _, _, _, _, _, _, _, _, _, _, _, _, _, rfl⟩, by simp [intOf]; omega⟩
  · have ltc : ¬ (c : Int) < 3 := by omega
    go_wp2_with fail
    exact HX.out _ _ _ _ _ _ _ _ _ _ _ _ _ _ _ _ _ _ _ _ _ _ _ _ _ _ _ _ _ _ _ _ _ _ _ _ _ _ _ _ _ _ HT3.out
end Go.Proofs.YtnhbpcmiolkllabDoor
