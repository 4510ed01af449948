/-
  The middle loop of ValueAlike.
-/
import Derived.Test.YtnhbpcmiolkllabDoorPu2
namespace Go.Proofs.YtnhbpcmiolkllabDoor
open Go.RowKit

attribute [local go_sem] refold2 cell3_0 cell3_1 b28_0 b28_01
set_option maxRecDepth 1000000 in
set_option maxHeartbeats 16000000 in
theorem middle_any (W6 : World) (g5 a : Nat) (P : MD) (ls : Nat → MD) (bad eb : Bool) (e0 : Value) (Q0 : Exit → Act → World → Prop) {c0 c1 c2 c3 c4 c5 c6 c7 c8 c9 c10 c13 c15 c17 c33 c34 c35 c36 c37 c38 c39 c40 c41 c42 c43 c44 c45 c46 c47 c48 c49 c50 c51 c52 c53 c54 c55 c56 c57 c58 c59 c60 c61 c62 c63 c64 c65 c66 c67 c68 c69 c70 c71 c72 c73 c74 c75 c76 c77 c78 c79 c80 c81 c82 c83 c84 c85 c86 c87 c88 c89 c90 c91 c92 c93 c94 c95 c96 c97 c98 c99 c100 c101 c102 c103 c104 c105 c106 c107 c108 c109 c110 c111 c112 c113 c114 c115 : Value}
    (HC : Hid (∀ W, Below W6.heap.size W6 W → ∀ i, i < 3 → MD.CellsAt W g5 (i * 11) (ls i))) (HC0 : Hid (∀ W, Below W6.heap.size W6 W → MD.CellsAt W g5 (a * 11) P))
    (HO : Hid (∀ i, MD.In W6.heap.size W6 4 (ls i) ∧ MD.right 4 (ls i) = true)) (HOa : Hid ((∀ W, Below W6.heap.size W6 W → MD.In W.heap.size W 4 P) ∧ MD.right 4 P = true))
    (HNm : Hid (∀ W, Below W6.heap.size W6 W → NamesAt W)) (HEQ : Hid (bad = brkR 4 P ∧ eb = ((MD.eqv 4 P P).2.size == 0))) (HE0 : Hid (IsErr e0 eb)) (lta : (a : Int) < 3) (w0 : World) (HT4 : Hid (Below W6.heap.size W6 w0)) (u19 u20 u21 u22 u23 u24 u25 u26 u27 u28 u29 u30 u31 u32 u116 u117 u118 u119 u120 u121 u122 u123 u124 u125 u126 u127 u128 u129 u130 u131 u132 u133 u134 u135 u136 u137 u138 u139 u140 u141 u142 u143 u144 u145 u146 u147 u148 u149 u150 u151 u152 u153 u154 u155 u156 u157 u158 u159 u160 u161 u162 u163 u164 u165 u166 u167 u168 u169 u170 u171 u172 u173 u174 u175 u176 u177 u178 u179 u180 u181 u182 u183 u184 u185 u186 u187 u188 u189 u190 u191 u192 u193 u194 u195 u196 u197 u198 u199 u200 u201 u202 u203 u204 u205 u206 u207 u208 u209 u210 u211 u212 u213 u214 u215 u216 u217 u218 u219 u220 u221 u222 u223 u224 u225 u226 u227 u228 u229 u230 u231 u232 u233 u234 u235 u236 u237 u238 u239 u240 u241 u242 u243 : Value)
    (hexit : ∀ (zb : Int) (u19 u20 u21 u22 u23 u24 u25 u26 u27 u28 u29 u30 u31 u32 u116 u117 u118 u119 u120 u121 u122 u123 u124 u125 u126 u127 u128 u129 u130 u131 u132 u133 u134 u135 u136 u137 u138 u139 u140 u141 u142 u143 u144 u145 u146 u147 u148 u149 u150 u151 u152 u153 u154 u155 u156 u157 u158 u159 u160 u161 u162 u163 u164 u165 u166 u167 u168 u169 u170 u171 u172 u173 u174 u175 u176 u177 u178 u179 u180 u181 u182 u183 u184 u185 u186 u187 u188 u189 u190 u191 u192 u193 u194 u195 u196 u197 u198 u199 u200 u201 u202 u203 u204 u205 u206 u207 u208 u209 u210 u211 u212 u213 u214 u215 u216 u217 u218 u219 u220 u221 u222 u223 u224 u225 u226 u227 u228 u229 u230 u231 u232 u233 u234 u235 u236 u237 u238 u239 u240 u241 u242 u243 : Value) (w' : World), Below W6.heap.size W6 w' → Q0 (.exit 2) ⟨List.toArray (c0 :: c1 :: c2 :: c3 :: c4 :: c5 :: c6 :: c7 :: c8 :: c9 :: c10 :: .slice (some ⟨g5, 0, none⟩) 3 3 :: .int .i64 (a : Nat) :: c13 :: .bool bad :: c15 :: e0 :: c17 :: .int .i64 zb :: u19 :: u20 :: u21 :: u22 :: u23 :: u24 :: u25 :: u26 :: u27 :: u28 :: u29 :: u30 :: u31 :: u32 :: c33 :: c34 :: c35 :: c36 :: c37 :: c38 :: c39 :: c40 :: c41 :: c42 :: c43 :: c44 :: c45 :: c46 :: c47 :: c48 :: c49 :: c50 :: c51 :: c52 :: c53 :: c54 :: c55 :: c56 :: c57 :: c58 :: c59 :: c60 :: c61 :: c62 :: c63 :: c64 :: c65 :: c66 :: c67 :: c68 :: c69 :: c70 :: c71 :: c72 :: c73 :: c74 :: c75 :: c76 :: c77 :: c78 :: c79 :: c80 :: c81 :: c82 :: c83 :: c84 :: c85 :: c86 :: c87 :: c88 :: c89 :: c90 :: c91 :: c92 :: c93 :: c94 :: c95 :: c96 :: c97 :: c98 :: c99 :: c100 :: c101 :: c102 :: c103 :: c104 :: c105 :: c106 :: c107 :: c108 :: c109 :: c110 :: c111 :: c112 :: c113 :: c114 :: c115 :: u116 :: u117 :: u118 :: u119 :: u120 :: u121 :: u122 :: u123 :: u124 :: u125 :: u126 :: u127 :: u128 :: u129 :: u130 :: u131 :: u132 :: u133 :: u134 :: u135 :: u136 :: u137 :: u138 :: u139 :: u140 :: u141 :: u142 :: u143 :: u144 :: u145 :: u146 :: u147 :: u148 :: u149 :: u150 :: u151 :: u152 :: u153 :: u154 :: u155 :: u156 :: u157 :: u158 :: u159 :: u160 :: u161 :: u162 :: u163 :: u164 :: u165 :: u166 :: u167 :: u168 :: u169 :: u170 :: u171 :: u172 :: u173 :: u174 :: u175 :: u176 :: u177 :: u178 :: u179 :: u180 :: u181 :: u182 :: u183 :: u184 :: u185 :: u186 :: u187 :: u188 :: u189 :: u190 :: u191 :: u192 :: u193 :: u194 :: u195 :: u196 :: u197 :: u198 :: u199 :: u200 :: u201 :: u202 :: u203 :: u204 :: u205 :: u206 :: u207 :: u208 :: u209 :: u210 :: u211 :: u212 :: u213 :: u214 :: u215 :: u216 :: u217 :: u218 :: u219 :: u220 :: u221 :: u222 :: u223 :: u224 :: u225 :: u226 :: u227 :: u228 :: u229 :: u230 :: u231 :: u232 :: u233 :: u234 :: u235 :: u236 :: u237 :: u238 :: u239 :: u240 :: u241 :: u242 :: u243 :: []), []⟩ w') :
    Code.wp Tryd.prog (Code.loop body2) Q0 ⟨List.toArray (c0 :: c1 :: c2 :: c3 :: c4 :: c5 :: c6 :: c7 :: c8 :: c9 :: c10 :: .slice (some ⟨g5, 0, none⟩) 3 3 :: .int .i64 (a : Nat) :: c13 :: .bool bad :: c15 :: e0 :: c17 :: .int .i64 0 :: u19 :: u20 :: u21 :: u22 :: u23 :: u24 :: u25 :: u26 :: u27 :: u28 :: u29 :: u30 :: u31 :: u32 :: c33 :: c34 :: c35 :: c36 :: c37 :: c38 :: c39 :: c40 :: c41 :: c42 :: c43 :: c44 :: c45 :: c46 :: c47 :: c48 :: c49 :: c50 :: c51 :: c52 :: c53 :: c54 :: c55 :: c56 :: c57 :: c58 :: c59 :: c60 :: c61 :: c62 :: c63 :: c64 :: c65 :: c66 :: c67 :: c68 :: c69 :: c70 :: c71 :: c72 :: c73 :: c74 :: c75 :: c76 :: c77 :: c78 :: c79 :: c80 :: c81 :: c82 :: c83 :: c84 :: c85 :: c86 :: c87 :: c88 :: c89 :: c90 :: c91 :: c92 :: c93 :: c94 :: c95 :: c96 :: c97 :: c98 :: c99 :: c100 :: c101 :: c102 :: c103 :: c104 :: c105 :: c106 :: c107 :: c108 :: c109 :: c110 :: c111 :: c112 :: c113 :: c114 :: c115 :: u116 :: u117 :: u118 :: u119 :: u120 :: u121 :: u122 :: u123 :: u124 :: u125 :: u126 :: u127 :: u128 :: u129 :: u130 :: u131 :: u132 :: u133 :: u134 :: u135 :: u136 :: u137 :: u138 :: u139 :: u140 :: u141 :: u142 :: u143 :: u144 :: u145 :: u146 :: u147 :: u148 :: u149 :: u150 :: u151 :: u152 :: u153 :: u154 :: u155 :: u156 :: u157 :: u158 :: u159 :: u160 :: u161 :: u162 :: u163 :: u164 :: u165 :: u166 :: u167 :: u168 :: u169 :: u170 :: u171 :: u172 :: u173 :: u174 :: u175 :: u176 :: u177 :: u178 :: u179 :: u180 :: u181 :: u182 :: u183 :: u184 :: u185 :: u186 :: u187 :: u188 :: u189 :: u190 :: u191 :: u192 :: u193 :: u194 :: u195 :: u196 :: u197 :: u198 :: u199 :: u200 :: u201 :: u202 :: u203 :: u204 :: u205 :: u206 :: u207 :: u208 :: u209 :: u210 :: u211 :: u212 :: u213 :: u214 :: u215 :: u216 :: u217 :: u218 :: u219 :: u220 :: u221 :: u222 :: u223 :: u224 :: u225 :: u226 :: u227 :: u228 :: u229 :: u230 :: u231 :: u232 :: u233 :: u234 :: u235 :: u236 :: u237 :: u238 :: u239 :: u240 :: u241 :: u242 :: u243 :: []), []⟩ w0 := by
  have HX : Hid (∀ (zb : Int) (u19 u20 u21 u22 u23 u24 u25 u26 u27 u28 u29 u30 u31 u32 u116 u117 u118 u119 u120 u121 u122 u123 u124 u125 u126 u127 u128 u129 u130 u131 u132 u133 u134 u135 u136 u137 u138 u139 u140 u141 u142 u143 u144 u145 u146 u147 u148 u149 u150 u151 u152 u153 u154 u155 u156 u157 u158 u159 u160 u161 u162 u163 u164 u165 u166 u167 u168 u169 u170 u171 u172 u173 u174 u175 u176 u177 u178 u179 u180 u181 u182 u183 u184 u185 u186 u187 u188 u189 u190 u191 u192 u193 u194 u195 u196 u197 u198 u199 u200 u201 u202 u203 u204 u205 u206 u207 u208 u209 u210 u211 u212 u213 u214 u215 u216 u217 u218 u219 u220 u221 u222 u223 u224 u225 u226 u227 u228 u229 u230 u231 u232 u233 u234 u235 u236 u237 u238 u239 u240 u241 u242 u243 : Value) (w' : World), Below W6.heap.size W6 w' → Q0 (.exit 2) ⟨List.toArray (c0 :: c1 :: c2 :: c3 :: c4 :: c5 :: c6 :: c7 :: c8 :: c9 :: c10 :: .slice (some ⟨g5, 0, none⟩) 3 3 :: .int .i64 (a : Nat) :: c13 :: .bool bad :: c15 :: e0 :: c17 :: .int .i64 zb :: u19 :: u20 :: u21 :: u22 :: u23 :: u24 :: u25 :: u26 :: u27 :: u28 :: u29 :: u30 :: u31 :: u32 :: c33 :: c34 :: c35 :: c36 :: c37 :: c38 :: c39 :: c40 :: c41 :: c42 :: c43 :: c44 :: c45 :: c46 :: c47 :: c48 :: c49 :: c50 :: c51 :: c52 :: c53 :: c54 :: c55 :: c56 :: c57 :: c58 :: c59 :: c60 :: c61 :: c62 :: c63 :: c64 :: c65 :: c66 :: c67 :: c68 :: c69 :: c70 :: c71 :: c72 :: c73 :: c74 :: c75 :: c76 :: c77 :: c78 :: c79 :: c80 :: c81 :: c82 :: c83 :: c84 :: c85 :: c86 :: c87 :: c88 :: c89 :: c90 :: c91 :: c92 :: c93 :: c94 :: c95 :: c96 :: c97 :: c98 :: c99 :: c100 :: c101 :: c102 :: c103 :: c104 :: c105 :: c106 :: c107 :: c108 :: c109 :: c110 :: c111 :: c112 :: c113 :: c114 :: c115 :: u116 :: u117 :: u118 :: u119 :: u120 :: u121 :: u122 :: u123 :: u124 :: u125 :: u126 :: u127 :: u128 :: u129 :: u130 :: u131 :: u132 :: u133 :: u134 :: u135 :: u136 :: u137 :: u138 :: u139 :: u140 :: u141 :: u142 :: u143 :: u144 :: u145 :: u146 :: u147 :: u148 :: u149 :: u150 :: u151 :: u152 :: u153 :: u154 :: u155 :: u156 :: u157 :: u158 :: u159 :: u160 :: u161 :: u162 :: u163 :: u164 :: u165 :: u166 :: u167 :: u168 :: u169 :: u170 :: u171 :: u172 :: u173 :: u174 :: u175 :: u176 :: u177 :: u178 :: u179 :: u180 :: u181 :: u182 :: u183 :: u184 :: u185 :: u186 :: u187 :: u188 :: u189 :: u190 :: u191 :: u192 :: u193 :: u194 :: u195 :: u196 :: u197 :: u198 :: u199 :: u200 :: u201 :: u202 :: u203 :: u204 :: u205 :: u206 :: u207 :: u208 :: u209 :: u210 :: u211 :: u212 :: u213 :: u214 :: u215 :: u216 :: u217 :: u218 :: u219 :: u220 :: u221 :: u222 :: u223 :: u224 :: u225 :: u226 :: u227 :: u228 :: u229 :: u230 :: u231 :: u232 :: u233 :: u234 :: u235 :: u236 :: u237 :: u238 :: u239 :: u240 :: u241 :: u242 :: u243 :: []), []⟩ w') := hexit
  clear hexit
  obtain ⟨⟨p0, p1, p2, p3, p4, p5, p6, p7, p8, pp, ppath, ppc⟩, pip, pic, pit⟩ := P
  refine wp_loop (fun x w' => ∃ (b : Nat) (zb : Int), b ≤ 3 ∧ zb = b ∧ Hid (Below W6.heap.size W6 w') ∧ ∃ (u19 u20 u21 u22 u23 u24 u25 u26 u27 u28 u29 u30 u31 u32 u116 u117 u118 u119 u120 u121 u122 u123 u124 u125 u126 u127 u128 u129 u130 u131 u132 u133 u134 u135 u136 u137 u138 u139 u140 u141 u142 u143 u144 u145 u146 u147 u148 u149 u150 u151 u152 u153 u154 u155 u156 u157 u158 u159 u160 u161 u162 u163 u164 u165 u166 u167 u168 u169 u170 u171 u172 u173 u174 u175 u176 u177 u178 u179 u180 u181 u182 u183 u184 u185 u186 u187 u188 u189 u190 u191 u192 u193 u194 u195 u196 u197 u198 u199 u200 u201 u202 u203 u204 u205 u206 u207 u208 u209 u210 u211 u212 u213 u214 u215 u216 u217 u218 u219 u220 u221 u222 u223 u224 u225 u226 u227 u228 u229 u230 u231 u232 u233 u234 u235 u236 u237 u238 u239 u240 u241 u242 u243 : Value), x = ⟨List.toArray (c0 :: c1 :: c2 :: c3 :: c4 :: c5 :: c6 :: c7 :: c8 :: c9 :: c10 :: .slice (some ⟨g5, 0, none⟩) 3 3 :: .int .i64 (a : Nat) :: c13 :: .bool bad :: c15 :: e0 :: c17 :: .int .i64 zb :: u19 :: u20 :: u21 :: u22 :: u23 :: u24 :: u25 :: u26 :: u27 :: u28 :: u29 :: u30 :: u31 :: u32 :: c33 :: c34 :: c35 :: c36 :: c37 :: c38 :: c39 :: c40 :: c41 :: c42 :: c43 :: c44 :: c45 :: c46 :: c47 :: c48 :: c49 :: c50 :: c51 :: c52 :: c53 :: c54 :: c55 :: c56 :: c57 :: c58 :: c59 :: c60 :: c61 :: c62 :: c63 :: c64 :: c65 :: c66 :: c67 :: c68 :: c69 :: c70 :: c71 :: c72 :: c73 :: c74 :: c75 :: c76 :: c77 :: c78 :: c79 :: c80 :: c81 :: c82 :: c83 :: c84 :: c85 :: c86 :: c87 :: c88 :: c89 :: c90 :: c91 :: c92 :: c93 :: c94 :: c95 :: c96 :: c97 :: c98 :: c99 :: c100 :: c101 :: c102 :: c103 :: c104 :: c105 :: c106 :: c107 :: c108 :: c109 :: c110 :: c111 :: c112 :: c113 :: c114 :: c115 :: u116 :: u117 :: u118 :: u119 :: u120 :: u121 :: u122 :: u123 :: u124 :: u125 :: u126 :: u127 :: u128 :: u129 :: u130 :: u131 :: u132 :: u133 :: u134 :: u135 :: u136 :: u137 :: u138 :: u139 :: u140 :: u141 :: u142 :: u143 :: u144 :: u145 :: u146 :: u147 :: u148 :: u149 :: u150 :: u151 :: u152 :: u153 :: u154 :: u155 :: u156 :: u157 :: u158 :: u159 :: u160 :: u161 :: u162 :: u163 :: u164 :: u165 :: u166 :: u167 :: u168 :: u169 :: u170 :: u171 :: u172 :: u173 :: u174 :: u175 :: u176 :: u177 :: u178 :: u179 :: u180 :: u181 :: u182 :: u183 :: u184 :: u185 :: u186 :: u187 :: u188 :: u189 :: u190 :: u191 :: u192 :: u193 :: u194 :: u195 :: u196 :: u197 :: u198 :: u199 :: u200 :: u201 :: u202 :: u203 :: u204 :: u205 :: u206 :: u207 :: u208 :: u209 :: u210 :: u211 :: u212 :: u213 :: u214 :: u215 :: u216 :: u217 :: u218 :: u219 :: u220 :: u221 :: u222 :: u223 :: u224 :: u225 :: u226 :: u227 :: u228 :: u229 :: u230 :: u231 :: u232 :: u233 :: u234 :: u235 :: u236 :: u237 :: u238 :: u239 :: u240 :: u241 :: u242 :: u243 :: []), []⟩) (fun x _ => 3 - (intOf (x.tmps.getD 18 undef)).toNat) ⟨0, 0, by omega, rfl, HT4, u19, u20, u21, u22, u23, u24, u25, u26, u27, u28, u29, u30, u31, u32, u116, u117, u118, u119, u120, u121, u122, u123, u124, u125, u126, u127, u128, u129, u130, u131, u132, u133, u134, u135, u136, u137, u138, u139, u140, u141, u142, u143, u144, u145, u146, u147, u148, u149, u150, u151, u152, u153, u154, u155, u156, u157, u158, u159, u160, u161, u162, u163, u164, u165, u166, u167, u168, u169, u170, u171, u172, u173, u174, u175, u176, u177, u178, u179, u180, u181, u182, u183, u184, u185, u186, u187, u188, u189, u190, u191, u192, u193, u194, u195, u196, u197, u198, u199, u200, u201, u202, u203, u204, u205, u206, u207, u208, u209, u210, u211, u212, u213, u214, u215, u216, u217, u218, u219, u220, u221, u222, u223, u224, u225, u226, u227, u228, u229, u230, u231, u232, u233, u234, u235, u236, u237, u238, u239, u240, u241, u242, u243, rfl⟩ ?_
  clear u19 u20 u21 u22 u23 u24 u25 u26 u27 u28 u29 u30 u31 u32 u116 u117 u118 u119 u120 u121 u122 u123 u124 u125 u126 u127 u128 u129 u130 u131 u132 u133 u134 u135 u136 u137 u138 u139 u140 u141 u142 u143 u144 u145 u146 u147 u148 u149 u150 u151 u152 u153 u154 u155 u156 u157 u158 u159 u160 u161 u162 u163 u164 u165 u166 u167 u168 u169 u170 u171 u172 u173 u174 u175 u176 u177 u178 u179 u180 u181 u182 u183 u184 u185 u186 u187 u188 u189 u190 u191 u192 u193 u194 u195 u196 u197 u198 u199 u200 u201 u202 u203 u204 u205 u206 u207 u208 u209 u210 u211 u212 u213 u214 u215 u216 u217 u218 u219 u220 u221 u222 u223 u224 u225 u226 u227 u228 u229 u230 u231 u232 u233 u234 u235 u236 u237 u238 u239 u240 u241 u242 u243 HT4
  rintro x wr ⟨b, zb, hb3, hzb, HT2, hI⟩
  obtain ⟨u19, hI⟩ := hI
  obtain ⟨u20, hI⟩ := hI
  obtain ⟨u21, hI⟩ := hI
  obtain ⟨u22, hI⟩ := hI
  obtain ⟨u23, hI⟩ := hI
  obtain ⟨u24, hI⟩ := hI
  obtain ⟨u25, hI⟩ := hI
  obtain ⟨u26, hI⟩ := hI
  obtain ⟨u27, hI⟩ := hI
  obtain ⟨u28, hI⟩ := hI
  obtain ⟨u29, hI⟩ := hI
  obtain ⟨u30, hI⟩ := hI
  obtain ⟨u31, hI⟩ := hI
  obtain ⟨u32, hI⟩ := hI
  obtain ⟨u116, hI⟩ := hI
  obtain ⟨u117, hI⟩ := hI
  obtain ⟨u118, hI⟩ := hI
  obtain ⟨u119, hI⟩ := hI
  obtain ⟨u120, hI⟩ := hI
  obtain ⟨u121, hI⟩ := hI
  obtain ⟨u122, hI⟩ := hI
  obtain ⟨u123, hI⟩ := hI
  obtain ⟨u124, hI⟩ := hI
  obtain ⟨u125, hI⟩ := hI
  obtain ⟨u126, hI⟩ := hI
  obtain ⟨u127, hI⟩ := hI
  obtain ⟨u128, hI⟩ := hI
  obtain ⟨u129, hI⟩ := hI
  obtain ⟨u130, hI⟩ := hI
  obtain ⟨u131, hI⟩ := hI
  obtain ⟨u132, hI⟩ := hI
  obtain ⟨u133, hI⟩ := hI
  obtain ⟨u134, hI⟩ := hI
  obtain ⟨u135, hI⟩ := hI
  obtain ⟨u136, hI⟩ := hI
  obtain ⟨u137, hI⟩ := hI
  obtain ⟨u138, hI⟩ := hI
  obtain ⟨u139, hI⟩ := hI
  obtain ⟨u140, hI⟩ := hI
  obtain ⟨u141, hI⟩ := hI
  obtain ⟨u142, hI⟩ := hI
  obtain ⟨u143, hI⟩ := hI
  obtain ⟨u144, hI⟩ := hI
  obtain ⟨u145, hI⟩ := hI
  obtain ⟨u146, hI⟩ := hI
  obtain ⟨u147, hI⟩ := hI
  obtain ⟨u148, hI⟩ := hI
  obtain ⟨u149, hI⟩ := hI
  obtain ⟨u150, hI⟩ := hI
  obtain ⟨u151, hI⟩ := hI
  obtain ⟨u152, hI⟩ := hI
  obtain ⟨u153, hI⟩ := hI
  obtain ⟨u154, hI⟩ := hI
  obtain ⟨u155, hI⟩ := hI
  obtain ⟨u156, hI⟩ := hI
  obtain ⟨u157, hI⟩ := hI
  obtain ⟨u158, hI⟩ := hI
  obtain ⟨u159, hI⟩ := hI
  obtain ⟨u160, hI⟩ := hI
  obtain ⟨u161, hI⟩ := hI
  obtain ⟨u162, hI⟩ := hI
  obtain ⟨u163, hI⟩ := hI
  obtain ⟨u164, hI⟩ := hI
  obtain ⟨u165, hI⟩ := hI
  obtain ⟨u166, hI⟩ := hI
  obtain ⟨u167, hI⟩ := hI
  obtain ⟨u168, hI⟩ := hI
  obtain ⟨u169, hI⟩ := hI
  obtain ⟨u170, hI⟩ := hI
  obtain ⟨u171, hI⟩ := hI
  obtain ⟨u172, hI⟩ := hI
  obtain ⟨u173, hI⟩ := hI
  obtain ⟨u174, hI⟩ := hI
  obtain ⟨u175, hI⟩ := hI
  obtain ⟨u176, hI⟩ := hI
  obtain ⟨u177, hI⟩ := hI
  obtain ⟨u178, hI⟩ := hI
  obtain ⟨u179, hI⟩ := hI
  obtain ⟨u180, hI⟩ := hI
  obtain ⟨u181, hI⟩ := hI
  obtain ⟨u182, hI⟩ := hI
  obtain ⟨u183, hI⟩ := hI
  obtain ⟨u184, hI⟩ := hI
  obtain ⟨u185, hI⟩ := hI
  obtain ⟨u186, hI⟩ := hI
  obtain ⟨u187, hI⟩ := hI
  obtain ⟨u188, hI⟩ := hI
  obtain ⟨u189, hI⟩ := hI
  obtain ⟨u190, hI⟩ := hI
  obtain ⟨u191, hI⟩ := hI
  obtain ⟨u192, hI⟩ := hI
  obtain ⟨u193, hI⟩ := hI
  obtain ⟨u194, hI⟩ := hI
  obtain ⟨u195, hI⟩ := hI
  obtain ⟨u196, hI⟩ := hI
  obtain ⟨u197, hI⟩ := hI
  obtain ⟨u198, hI⟩ := hI
  obtain ⟨u199, hI⟩ := hI
  obtain ⟨u200, hI⟩ := hI
  obtain ⟨u201, hI⟩ := hI
  obtain ⟨u202, hI⟩ := hI
  obtain ⟨u203, hI⟩ := hI
  obtain ⟨u204, hI⟩ := hI
  obtain ⟨u205, hI⟩ := hI
  obtain ⟨u206, hI⟩ := hI
  obtain ⟨u207, hI⟩ := hI
  obtain ⟨u208, hI⟩ := hI
  obtain ⟨u209, hI⟩ := hI
  obtain ⟨u210, hI⟩ := hI
  obtain ⟨u211, hI⟩ := hI
  obtain ⟨u212, hI⟩ := hI
  obtain ⟨u213, hI⟩ := hI
  obtain ⟨u214, hI⟩ := hI
  obtain ⟨u215, hI⟩ := hI
  obtain ⟨u216, hI⟩ := hI
  obtain ⟨u217, hI⟩ := hI
  obtain ⟨u218, hI⟩ := hI
  obtain ⟨u219, hI⟩ := hI
  obtain ⟨u220, hI⟩ := hI
  obtain ⟨u221, hI⟩ := hI
  obtain ⟨u222, hI⟩ := hI
  obtain ⟨u223, hI⟩ := hI
  obtain ⟨u224, hI⟩ := hI
  obtain ⟨u225, hI⟩ := hI
  obtain ⟨u226, hI⟩ := hI
  obtain ⟨u227, hI⟩ := hI
  obtain ⟨u228, hI⟩ := hI
  obtain ⟨u229, hI⟩ := hI
  obtain ⟨u230, hI⟩ := hI
  obtain ⟨u231, hI⟩ := hI
  obtain ⟨u232, hI⟩ := hI
  obtain ⟨u233, hI⟩ := hI
  obtain ⟨u234, hI⟩ := hI
  obtain ⟨u235, hI⟩ := hI
  obtain ⟨u236, hI⟩ := hI
  obtain ⟨u237, hI⟩ := hI
  obtain ⟨u238, hI⟩ := hI
  obtain ⟨u239, hI⟩ := hI
  obtain ⟨u240, hI⟩ := hI
  obtain ⟨u241, hI⟩ := hI
  obtain ⟨u242, hI⟩ := hI
  obtain ⟨u243, hI⟩ := hI
  subst hI
  subst hzb
  conv => arg 2; whnf
  have Rwr : Below wr.heap.size wr wr := Below.refl _ _
  by_cases ltb' : b < 3
  · have ltb : (b : Int) < 3 := by omega
    have HOb : Hid ((∀ W, Below W6.heap.size W6 W → MD.In W.heap.size W 4 (ls b)) ∧ MD.right 4 (ls b) = true) := ⟨fun W hW => (HO.out b).1.later (Nat.le_refl _) hW, (HO.out b).2⟩
    have HC1 : Hid (∀ W, Below W6.heap.size W6 W → MD.CellsAt W g5 (b * 11) (ls b)) := fun W hW => HC.out W hW b ltb'
    have HE1 : Hid (∀ W, Below wr.heap.size wr W → Calls Tryd.prog 10 #[MD.val ⟨⟨p0, p1, p2, p3, p4, p5, p6, p7, p8, pp, ppath, ppc⟩, pip, pic, pit⟩, (ls b).val] W (fun r w' => ∃ v, r = .returned (.tuple #[.bool (MD.eqv 4 ⟨⟨p0, p1, p2, p3, p4, p5, p6, p7, p8, pp, ppath, ppc⟩, pip, pic, pit⟩ (ls b)).1, v]) ∧ IsErr v ((MD.eqv 4 ⟨⟨p0, p1, p2, p3, p4, p5, p6, p7, p8, pp, ppath, ppc⟩, pip, pic, pit⟩ (ls b)).2.size == 0) ∧ Below wr.heap.size wr w')) := fun W hW => (Equal_all _ _ W (HNm.out W (HT2.out.trans (hW.mono HT2.out.size))) (HOa.out.1 W (HT2.out.trans (hW.mono HT2.out.size))) (HOb.out.1 W (HT2.out.trans (hW.mono HT2.out.size))) HOa.out.2 HOb.out.2).mono fun _ _ ⟨v, e1, e2, e3⟩ => ⟨v, e1, e2, hW.trans (e3.mono hW.size)⟩
    have HE2 : Hid (∀ W, Below wr.heap.size wr W → Calls Tryd.prog 10 #[(ls b).val, MD.val ⟨⟨p0, p1, p2, p3, p4, p5, p6, p7, p8, pp, ppath, ppc⟩, pip, pic, pit⟩] W (fun r w' => ∃ v, r = .returned (.tuple #[.bool (MD.eqv 4 ⟨⟨p0, p1, p2, p3, p4, p5, p6, p7, p8, pp, ppath, ppc⟩, pip, pic, pit⟩ (ls b)).1, v]) ∧ IsErr v ((MD.eqv 4 ⟨⟨p0, p1, p2, p3, p4, p5, p6, p7, p8, pp, ppath, ppc⟩, pip, pic, pit⟩ (ls b)).2.size == 0) ∧ Below wr.heap.size wr w')) := by
      rw [eqv_comm 4 ⟨⟨p0, p1, p2, p3, p4, p5, p6, p7, p8, pp, ppath, ppc⟩, pip, pic, pit⟩ (ls b) (fl_of HOa.out.1) (fl_of HOb.out.1)]
      exact fun W hW => (Equal_all _ _ W (HNm.out W (HT2.out.trans (hW.mono HT2.out.size))) (HOb.out.1 W (HT2.out.trans (hW.mono HT2.out.size))) (HOa.out.1 W (HT2.out.trans (hW.mono HT2.out.size))) HOb.out.2 HOa.out.2).mono fun _ _ ⟨v, e1, e2, e3⟩ => ⟨v, e1, e2, hW.trans (e3.mono hW.size)⟩
    have HHa : Hid (∀ W, Below wr.heap.size wr W → Calls Tryd.prog 13 #[MD.val ⟨⟨p0, p1, p2, p3, p4, p5, p6, p7, p8, pp, ppath, ppc⟩, pip, pic, pit⟩] W (fun r w' => ∃ (n : Int) (v : Value), r = .returned (.tuple #[.int .u64 n, v]) ∧ ((MD.eqv 4 ⟨⟨p0, p1, p2, p3, p4, p5, p6, p7, p8, pp, ppath, ppc⟩, pip, pic, pit⟩ (ls b)).1 = true → n = MD.hash 4 14695981039346656037 ⟨⟨p0, p1, p2, p3, p4, p5, p6, p7, p8, pp, ppath, ppc⟩, pip, pic, pit⟩ ∧ v = .nilIface) ∧ Below wr.heap.size wr w')) := fun W hW => (Hash_all _ W (HNm.out W (HT2.out.trans (hW.mono HT2.out.size))) (HOa.out.1 W (HT2.out.trans (hW.mono HT2.out.size))) HOa.out.2).mono fun _ _ ⟨n, v, e1, e2, e3⟩ => ⟨n, v, e1, fun h => e2 (two_fact (fl_of HOa.out.1) (fl_of HOb.out.1) HOa.out.2 HOb.out.2 h).1, hW.trans (e3.mono hW.size)⟩
    have HHb : Hid (∀ W, Below wr.heap.size wr W → Calls Tryd.prog 13 #[(ls b).val] W (fun r w' => ∃ (n : Int) (v : Value), r = .returned (.tuple #[.int .u64 n, v]) ∧ ((MD.eqv 4 ⟨⟨p0, p1, p2, p3, p4, p5, p6, p7, p8, pp, ppath, ppc⟩, pip, pic, pit⟩ (ls b)).1 = true → n = MD.hash 4 14695981039346656037 ⟨⟨p0, p1, p2, p3, p4, p5, p6, p7, p8, pp, ppath, ppc⟩, pip, pic, pit⟩ ∧ v = .nilIface) ∧ Below wr.heap.size wr w')) := fun W hW => (Hash_all _ W (HNm.out W (HT2.out.trans (hW.mono HT2.out.size))) (HOb.out.1 W (HT2.out.trans (hW.mono HT2.out.size))) HOb.out.2).mono fun _ _ ⟨n, v, e1, e2, e3⟩ => ⟨n, v, e1, fun h => by
      obtain ⟨t1, t2, t3⟩ := two_fact (fl_of HOa.out.1) (fl_of HOb.out.1) HOa.out.2 HOb.out.2 h
      rw [t3]; exact e2 t2, hW.trans (e3.mono hW.size)⟩
    have HSm2 : Hid (∀ W, Below wr.heap.size wr W → Calls Tryd.prog 12 #[MD.val ⟨⟨p0, p1, p2, p3, p4, p5, p6, p7, p8, pp, ppath, ppc⟩, pip, pic, pit⟩, (ls b).val] W (fun r w' => r = .returned (.bool (MD.same 4 ⟨⟨p0, p1, p2, p3, p4, p5, p6, p7, p8, pp, ppath, ppc⟩, pip, pic, pit⟩ (ls b))) ∧ Below wr.heap.size wr w')) := fun W hW => (same_any 4 _ _ W (HOa.out.1 W (HT2.out.trans (hW.mono HT2.out.size))) (HOb.out.1 W (HT2.out.trans (hW.mono HT2.out.size)))).mono fun _ _ h => ⟨h.1, hW.trans (h.2.mono hW.size)⟩
    have HF3 : Hid (MD.same 4 ⟨⟨p0, p1, p2, p3, p4, p5, p6, p7, p8, pp, ppath, ppc⟩, pip, pic, pit⟩ (ls b) = true → bad = false → eb = true → (MD.eqv 4 ⟨⟨p0, p1, p2, p3, p4, p5, p6, p7, p8, pp, ppath, ppc⟩, pip, pic, pit⟩ (ls b)).1 = true) := fun h1 h2 h3 => same_fact (fl_of HOa.out.1) HOa.out.2 (HEQ.out.1.symm.trans h2) h1 (HEQ.out.2.symm.trans h3)
    generalize ((MD.eqv 4 ⟨⟨p0, p1, p2, p3, p4, p5, p6, p7, p8, pp, ppath, ppc⟩, pip, pic, pit⟩ (ls b)).2.size == 0) = fb at HE1 HE2
    obtain ⟨av, hav⟩ : ∃ av, av = (MD.eqv 4 ⟨⟨p0, p1, p2, p3, p4, p5, p6, p7, p8, pp, ppath, ppc⟩, pip, pic, pit⟩ (ls b)).1 := ⟨_, rfl⟩
    rw [← hav] at HE1 HE2 HHa HHb HF3
    generalize MD.hash 4 14695981039346656037 ⟨⟨p0, p1, p2, p3, p4, p5, p6, p7, p8, pp, ppath, ppc⟩, pip, pic, pit⟩ = N0 at HHa HHb
    generalize MD.same 4 ⟨⟨p0, p1, p2, p3, p4, p5, p6, p7, p8, pp, ppath, ppc⟩, pip, pic, pit⟩ (ls b) = sm at HSm2 HF3
    have HEQ2 : Hid (av = (MD.eqv 4 ⟨⟨p0, p1, p2, p3, p4, p5, p6, p7, p8, pp, ppath, ppc⟩, pip, pic, pit⟩ (ls b)).1) := hav
    clear hav
    generalize ls b = xb at HOb HC1 HE1 HE2 HHb HSm2 HEQ2
    obtain ⟨⟨q0, q1, q2, q3, q4, q5, q6, q7, q8, qp, qpath, qpc⟩, qip, qic, qit⟩ := xb
    simp only [MD.val, D] at HE1 HE2 HHa HHb HSm2
    have HSab : Hid (∀ W, Below wr.heap.size wr W → MD.CellsAt W g5 (a * 11) ⟨⟨p0, p1, p2, p3, p4, p5, p6, p7, p8, pp, ppath, ppc⟩, pip, pic, pit⟩ ∧ MD.CellsAt W g5 (b * 11) ⟨⟨q0, q1, q2, q3, q4, q5, q6, q7, q8, qp, qpath, qpc⟩, qip, qic, qit⟩) := fun W hW => ⟨HC0.out W (HT2.out.trans (hW.mono HT2.out.size)), HC1.out W (HT2.out.trans (hW.mono HT2.out.size))⟩
    have HSba : Hid (∀ W, Below wr.heap.size wr W → MD.CellsAt W g5 (b * 11) ⟨⟨q0, q1, q2, q3, q4, q5, q6, q7, q8, qp, qpath, qpc⟩, qip, qic, qit⟩ ∧ MD.CellsAt W g5 (a * 11) ⟨⟨p0, p1, p2, p3, p4, p5, p6, p7, p8, pp, ppath, ppc⟩, pip, pic, pit⟩) := fun W hW => ⟨(HSab.out W hW).2, (HSab.out W hW).1⟩
    go_wp2_with fail
    refine wp_region_noPanic ?_
    refine wp_region_held (S := fun W => (∀ i, i < 11 → W.cell? ⟨g5, a * 11 + i, none⟩ = (#[.int .i64 p0, .string p1, .int .i64 p2, .int .u64 p3, .string p4, .int .i64 p5, .int .i64 p6, .int .i64 p7, .int .i64 p8, .slice pp ppath.length ppc, .slice pip pit.length pic] : Array Value)[i]?) ∧ (∀ i, i < 11 → W.cell? ⟨g5, b * 11 + i, none⟩ = (#[.int .i64 q0, .string q1, .int .i64 q2, .int .u64 q3, .string q4, .int .i64 q5, .int .i64 q6, .int .i64 q7, .int .i64 q8, .slice qp qpath.length qpc, .slice qip qit.length qic] : Array Value)[i]?)) (by kernel_rfl) ?_
    obtain ⟨u1d, hu1d⟩ : ∃ W4, W4 = wr.drew := ⟨_, rfl⟩
    have e4 : ({ wr with drawn := wr.drawn + 1 } : World) = u1d := hu1d.symm
    rw [e4]
    have Bu1d : Below wr.heap.size wr u1d := by rw [hu1d]; exact (Below.refl _ _).drew
    have Ru1d : Below wr.heap.size wr u1d := Rwr.trans (Bu1d.mono Rwr.size)
    have hS := HSab.out u1d Ru1d
    clear e4 hu1d
    refine wpAnyH_take (i := 0) (v := .slice (some ⟨g5, 0, none⟩) 3 3) rfl (by kernel_rfl) (by kernel_rfl) (by kernel_rfl) (fun _ _ _ h => h) (Or.inl ⟨by rfl, ?r⟩) hS ?_
    case r => intro W hW; simp [go_sem, execOp, Act.eval]
    simp only [List.getElem_toArray, List.getElem_cons_zero, Act.put, List.setIfInBounds_toArray, List.set_cons_succ, List.set_cons_zero]
    refine wpAnyH_take (i := 1) (v := .int .i64 a) rfl (by kernel_rfl) (by kernel_rfl) (by kernel_rfl) (fun _ _ _ h => h) (Or.inl ⟨by rfl, ?r⟩) hS ?_
    case r => intro W hW; simp [go_sem, execOp, Act.eval]
    simp only [List.getElem_toArray, List.getElem_cons_zero, List.getElem_cons_succ, Act.put, List.setIfInBounds_toArray, List.set_cons_succ, List.set_cons_zero]
    refine wpAnyH_take (i := 2) (v := .pointer (some ⟨g5, a * 11, none⟩)) rfl (by kernel_rfl) (by kernel_rfl) (by kernel_rfl) (fun _ _ _ h => h) (Or.inl ⟨by rfl, ?r⟩) hS ?_
    case r => intro W hW; simp [go_sem, execOp, Act.eval, lta]
    simp only [List.getElem_toArray, List.getElem_cons_zero, List.getElem_cons_succ, Act.put, List.setIfInBounds_toArray, List.set_cons_succ, List.set_cons_zero]
    refine wpAnyH_take (i := 3) (v := .agg #[.int .i64 p0, .string p1, .int .i64 p2, .int .u64 p3, .string p4, .int .i64 p5, .int .i64 p6, .int .i64 p7, .int .i64 p8, .slice pp ppath.length ppc, .slice pip pit.length pic]) rfl (by kernel_rfl) (by kernel_rfl) (by kernel_rfl) (fun _ _ _ h => h) (Or.inl ⟨by rfl, ?r⟩) hS ?_
    case r => intro W hW; have e0 : W.cell? ⟨g5, a * 11, none⟩ = some (.int .i64 p0) := hW.1 0 (by omega); have e1 : W.cell? ⟨g5, a * 11 + 1, none⟩ = some (.string p1) := hW.1 1 (by omega); have e2 : W.cell? ⟨g5, a * 11 + 2, none⟩ = some (.int .i64 p2) := hW.1 2 (by omega); have e3 : W.cell? ⟨g5, a * 11 + 3, none⟩ = some (.int .u64 p3) := hW.1 3 (by omega); have e4 : W.cell? ⟨g5, a * 11 + 4, none⟩ = some (.string p4) := hW.1 4 (by omega); have e5 : W.cell? ⟨g5, a * 11 + 5, none⟩ = some (.int .i64 p5) := hW.1 5 (by omega); have e6 : W.cell? ⟨g5, a * 11 + 6, none⟩ = some (.int .i64 p6) := hW.1 6 (by omega); have e7 : W.cell? ⟨g5, a * 11 + 7, none⟩ = some (.int .i64 p7) := hW.1 7 (by omega); have e8 : W.cell? ⟨g5, a * 11 + 8, none⟩ = some (.int .i64 p8) := hW.1 8 (by omega); have e9 : W.cell? ⟨g5, a * 11 + 9, none⟩ = some (.slice pp ppath.length ppc) := hW.1 9 (by omega); have e10 : W.cell? ⟨g5, a * 11 + 10, none⟩ = some (.slice pip pit.length pic) := hW.1 10 (by omega); simp [go_sem, execOp, Act.eval, e0, e1, e2, e3, e4, e5, e6, e7, e8, e9, e10]
    simp only [List.getElem_toArray, List.getElem_cons_zero, List.getElem_cons_succ, Act.put, List.setIfInBounds_toArray, List.set_cons_succ, List.set_cons_zero]
    refine wpAnyH_take (i := 4) (v := .slice (some ⟨g5, 0, none⟩) 3 3) rfl (by kernel_rfl) (by kernel_rfl) (by kernel_rfl) (fun _ _ _ h => h) (Or.inl ⟨by rfl, ?r⟩) hS ?_
    case r => intro W hW; simp [go_sem, execOp, Act.eval]
    simp only [List.getElem_toArray, List.getElem_cons_zero, List.getElem_cons_succ, Act.put, List.setIfInBounds_toArray, List.set_cons_succ, List.set_cons_zero]
    refine wpAnyH_take (i := 5) (v := .int .i64 b) rfl (by kernel_rfl) (by kernel_rfl) (by kernel_rfl) (fun _ _ _ h => h) (Or.inl ⟨by rfl, ?r⟩) hS ?_
    case r => intro W hW; simp [go_sem, execOp, Act.eval]
    simp only [List.getElem_toArray, List.getElem_cons_zero, List.getElem_cons_succ, Act.put, List.setIfInBounds_toArray, List.set_cons_succ, List.set_cons_zero]
    refine wpAnyH_take (i := 6) (v := .pointer (some ⟨g5, b * 11, none⟩)) rfl (by kernel_rfl) (by kernel_rfl) (by kernel_rfl) (fun _ _ _ h => h) (Or.inl ⟨by rfl, ?r⟩) hS ?_
    case r => intro W hW; simp [go_sem, execOp, Act.eval, ltb]
    simp only [List.getElem_toArray, List.getElem_cons_zero, List.getElem_cons_succ, Act.put, List.setIfInBounds_toArray, List.set_cons_succ, List.set_cons_zero]
    refine wpAnyH_take (i := 7) (v := .agg #[.int .i64 q0, .string q1, .int .i64 q2, .int .u64 q3, .string q4, .int .i64 q5, .int .i64 q6, .int .i64 q7, .int .i64 q8, .slice qp qpath.length qpc, .slice qip qit.length qic]) rfl (by kernel_rfl) (by kernel_rfl) (by kernel_rfl) (fun _ _ _ h => h) (Or.inl ⟨by rfl, ?r⟩) hS ?_
    case r => intro W hW; have e0 : W.cell? ⟨g5, b * 11, none⟩ = some (.int .i64 q0) := hW.2 0 (by omega); have e1 : W.cell? ⟨g5, b * 11 + 1, none⟩ = some (.string q1) := hW.2 1 (by omega); have e2 : W.cell? ⟨g5, b * 11 + 2, none⟩ = some (.int .i64 q2) := hW.2 2 (by omega); have e3 : W.cell? ⟨g5, b * 11 + 3, none⟩ = some (.int .u64 q3) := hW.2 3 (by omega); have e4 : W.cell? ⟨g5, b * 11 + 4, none⟩ = some (.string q4) := hW.2 4 (by omega); have e5 : W.cell? ⟨g5, b * 11 + 5, none⟩ = some (.int .i64 q5) := hW.2 5 (by omega); have e6 : W.cell? ⟨g5, b * 11 + 6, none⟩ = some (.int .i64 q6) := hW.2 6 (by omega); have e7 : W.cell? ⟨g5, b * 11 + 7, none⟩ = some (.int .i64 q7) := hW.2 7 (by omega); have e8 : W.cell? ⟨g5, b * 11 + 8, none⟩ = some (.int .i64 q8) := hW.2 8 (by omega); have e9 : W.cell? ⟨g5, b * 11 + 9, none⟩ = some (.slice qp qpath.length qpc) := hW.2 9 (by omega); have e10 : W.cell? ⟨g5, b * 11 + 10, none⟩ = some (.slice qip qit.length qic) := hW.2 10 (by omega); simp [go_sem, execOp, Act.eval, e0, e1, e2, e3, e4, e5, e6, e7, e8, e9, e10]
    simp only [List.getElem_toArray, List.getElem_cons_zero, List.getElem_cons_succ, Act.put, List.setIfInBounds_toArray, List.set_cons_succ, List.set_cons_zero]
    refine wpAnyH_all (rs := [8]) (by kernel_rfl) (by simp) (fun i2 hi2 => ?_)
    obtain rfl : i2 = 8 := by simpa using hi2
    clear hi2
    refine wpOp_step rfl (fun K hK => ite_yes rfl ?_)
    simp only [List.getElem_toArray, List.getElem_cons_zero, List.getElem_cons_succ]
    go_simp
    refine (HE1.out _ Ru1d).mono ?_
    rintro e u1 ⟨f0, rfl, Hf0, Ru1⟩
    go_simp
    refine hK _ _ ⟨HSab.out _ Ru1, ?_⟩
    clear hK K hS
    have hS := HSab.out _ Ru1
    refine wpAnyH_take (i := 9) (v := .tuple #[.bool av, f0]) rfl (by kernel_rfl) (by kernel_rfl) (by kernel_rfl) (fun _ _ _ h => h) (Or.inl ⟨by rfl, ?r⟩) hS ?_
    case r => intro W hW; simp [go_sem, execOp, Act.eval]
    simp only [List.getElem_toArray, List.getElem_cons_zero, List.getElem_cons_succ, Act.put, List.setIfInBounds_toArray, List.set_cons_succ, List.set_cons_zero]
    refine wpAnyH_take (i := 10) (v := .bool av) rfl (by kernel_rfl) (by kernel_rfl) (by kernel_rfl) (fun _ _ _ h => h) (Or.inl ⟨by rfl, ?r⟩) hS ?_
    case r => intro W hW; simp [go_sem, execOp, Act.eval]
    simp only [List.getElem_toArray, List.getElem_cons_zero, List.getElem_cons_succ, Act.put, List.setIfInBounds_toArray, List.set_cons_succ, List.set_cons_zero]
    refine wpAnyH_take (i := 11) (v := f0) rfl (by kernel_rfl) (by kernel_rfl) (by kernel_rfl) (fun _ _ _ h => h) (Or.inl ⟨by rfl, ?r⟩) hS ?_
    case r => intro W hW; simp [go_sem, execOp, Act.eval]
    simp only [List.getElem_toArray, List.getElem_cons_zero, List.getElem_cons_succ, Act.put, List.setIfInBounds_toArray, List.set_cons_succ, List.set_cons_zero]
    refine wpAnyH_take (i := 12) (v := .bool av) rfl (by kernel_rfl) (by kernel_rfl) (by kernel_rfl) (fun _ _ _ h => h) (Or.inl ⟨by rfl, ?r⟩) hS ?_
    case r => intro W hW; simp [go_sem, execOp, Act.eval]
    simp only [List.getElem_toArray, List.getElem_cons_zero, List.getElem_cons_succ, Act.put, List.setIfInBounds_toArray, List.set_cons_succ, List.set_cons_zero]
    refine wpAnyH_take (i := 13) (v := f0) rfl (by kernel_rfl) (by kernel_rfl) (by kernel_rfl) (fun _ _ _ h => h) (Or.inl ⟨by rfl, ?r⟩) hS ?_
    case r => intro W hW; simp [go_sem, execOp, Act.eval]
    simp only [List.getElem_toArray, List.getElem_cons_zero, List.getElem_cons_succ, Act.put, List.setIfInBounds_toArray, List.set_cons_succ, List.set_cons_zero]
    refine wpAnyH_done (by kernel_rfl) ?_ _
    refine NoPanic.normal ?_
    try simp only [Act.put]
    clear hS Ru1d Bu1d
    go_wp2_with fail
    refine wp_region_noPanic ?_
    refine wp_region_held (S := fun W => (∀ i, i < 11 → W.cell? ⟨g5, b * 11 + i, none⟩ = (#[.int .i64 q0, .string q1, .int .i64 q2, .int .u64 q3, .string q4, .int .i64 q5, .int .i64 q6, .int .i64 q7, .int .i64 q8, .slice qp qpath.length qpc, .slice qip qit.length qic] : Array Value)[i]?) ∧ (∀ i, i < 11 → W.cell? ⟨g5, a * 11 + i, none⟩ = (#[.int .i64 p0, .string p1, .int .i64 p2, .int .u64 p3, .string p4, .int .i64 p5, .int .i64 p6, .int .i64 p7, .int .i64 p8, .slice pp ppath.length ppc, .slice pip pit.length pic] : Array Value)[i]?)) (by kernel_rfl) ?_
    obtain ⟨u2d, hu2d⟩ : ∃ W4, W4 = u1.drew := ⟨_, rfl⟩
    have e4 : ({ u1 with drawn := u1.drawn + 1 } : World) = u2d := hu2d.symm
    rw [e4]
    have Bu2d : Below u1.heap.size u1 u2d := by rw [hu2d]; exact (Below.refl _ _).drew
    have Ru2d : Below wr.heap.size wr u2d := Ru1.trans (Bu2d.mono Ru1.size)
    have hS := HSba.out u2d Ru2d
    clear e4 hu2d
    refine wpAnyH_take (i := 0) (v := .slice (some ⟨g5, 0, none⟩) 3 3) rfl (by kernel_rfl) (by kernel_rfl) (by kernel_rfl) (fun _ _ _ h => h) (Or.inl ⟨by rfl, ?r⟩) hS ?_
    case r => intro W hW; simp [go_sem, execOp, Act.eval]
    simp only [List.getElem_toArray, List.getElem_cons_zero, Act.put, List.setIfInBounds_toArray, List.set_cons_succ, List.set_cons_zero]
    refine wpAnyH_take (i := 1) (v := .int .i64 b) rfl (by kernel_rfl) (by kernel_rfl) (by kernel_rfl) (fun _ _ _ h => h) (Or.inl ⟨by rfl, ?r⟩) hS ?_
    case r => intro W hW; simp [go_sem, execOp, Act.eval]
    simp only [List.getElem_toArray, List.getElem_cons_zero, List.getElem_cons_succ, Act.put, List.setIfInBounds_toArray, List.set_cons_succ, List.set_cons_zero]
    refine wpAnyH_take (i := 2) (v := .pointer (some ⟨g5, b * 11, none⟩)) rfl (by kernel_rfl) (by kernel_rfl) (by kernel_rfl) (fun _ _ _ h => h) (Or.inl ⟨by rfl, ?r⟩) hS ?_
    case r => intro W hW; simp [go_sem, execOp, Act.eval, ltb]
    simp only [List.getElem_toArray, List.getElem_cons_zero, List.getElem_cons_succ, Act.put, List.setIfInBounds_toArray, List.set_cons_succ, List.set_cons_zero]
    refine wpAnyH_take (i := 3) (v := .agg #[.int .i64 q0, .string q1, .int .i64 q2, .int .u64 q3, .string q4, .int .i64 q5, .int .i64 q6, .int .i64 q7, .int .i64 q8, .slice qp qpath.length qpc, .slice qip qit.length qic]) rfl (by kernel_rfl) (by kernel_rfl) (by kernel_rfl) (fun _ _ _ h => h) (Or.inl ⟨by rfl, ?r⟩) hS ?_
    case r => intro W hW; have e0 : W.cell? ⟨g5, b * 11, none⟩ = some (.int .i64 q0) := hW.1 0 (by omega); have e1 : W.cell? ⟨g5, b * 11 + 1, none⟩ = some (.string q1) := hW.1 1 (by omega); have e2 : W.cell? ⟨g5, b * 11 + 2, none⟩ = some (.int .i64 q2) := hW.1 2 (by omega); have e3 : W.cell? ⟨g5, b * 11 + 3, none⟩ = some (.int .u64 q3) := hW.1 3 (by omega); have e4 : W.cell? ⟨g5, b * 11 + 4, none⟩ = some (.string q4) := hW.1 4 (by omega); have e5 : W.cell? ⟨g5, b * 11 + 5, none⟩ = some (.int .i64 q5) := hW.1 5 (by omega); have e6 : W.cell? ⟨g5, b * 11 + 6, none⟩ = some (.int .i64 q6) := hW.1 6 (by omega); have e7 : W.cell? ⟨g5, b * 11 + 7, none⟩ = some (.int .i64 q7) := hW.1 7 (by omega); have e8 : W.cell? ⟨g5, b * 11 + 8, none⟩ = some (.int .i64 q8) := hW.1 8 (by omega); have e9 : W.cell? ⟨g5, b * 11 + 9, none⟩ = some (.slice qp qpath.length qpc) := hW.1 9 (by omega); have e10 : W.cell? ⟨g5, b * 11 + 10, none⟩ = some (.slice qip qit.length qic) := hW.1 10 (by omega); simp [go_sem, execOp, Act.eval, e0, e1, e2, e3, e4, e5, e6, e7, e8, e9, e10]
    simp only [List.getElem_toArray, List.getElem_cons_zero, List.getElem_cons_succ, Act.put, List.setIfInBounds_toArray, List.set_cons_succ, List.set_cons_zero]
    refine wpAnyH_take (i := 4) (v := .slice (some ⟨g5, 0, none⟩) 3 3) rfl (by kernel_rfl) (by kernel_rfl) (by kernel_rfl) (fun _ _ _ h => h) (Or.inl ⟨by rfl, ?r⟩) hS ?_
    case r => intro W hW; simp [go_sem, execOp, Act.eval]
    simp only [List.getElem_toArray, List.getElem_cons_zero, List.getElem_cons_succ, Act.put, List.setIfInBounds_toArray, List.set_cons_succ, List.set_cons_zero]
    refine wpAnyH_take (i := 5) (v := .int .i64 a) rfl (by kernel_rfl) (by kernel_rfl) (by kernel_rfl) (fun _ _ _ h => h) (Or.inl ⟨by rfl, ?r⟩) hS ?_
    case r => intro W hW; simp [go_sem, execOp, Act.eval]
    simp only [List.getElem_toArray, List.getElem_cons_zero, List.getElem_cons_succ, Act.put, List.setIfInBounds_toArray, List.set_cons_succ, List.set_cons_zero]
    refine wpAnyH_take (i := 6) (v := .pointer (some ⟨g5, a * 11, none⟩)) rfl (by kernel_rfl) (by kernel_rfl) (by kernel_rfl) (fun _ _ _ h => h) (Or.inl ⟨by rfl, ?r⟩) hS ?_
    case r => intro W hW; simp [go_sem, execOp, Act.eval, lta]
    simp only [List.getElem_toArray, List.getElem_cons_zero, List.getElem_cons_succ, Act.put, List.setIfInBounds_toArray, List.set_cons_succ, List.set_cons_zero]
    refine wpAnyH_take (i := 7) (v := .agg #[.int .i64 p0, .string p1, .int .i64 p2, .int .u64 p3, .string p4, .int .i64 p5, .int .i64 p6, .int .i64 p7, .int .i64 p8, .slice pp ppath.length ppc, .slice pip pit.length pic]) rfl (by kernel_rfl) (by kernel_rfl) (by kernel_rfl) (fun _ _ _ h => h) (Or.inl ⟨by rfl, ?r⟩) hS ?_
    case r => intro W hW; have e0 : W.cell? ⟨g5, a * 11, none⟩ = some (.int .i64 p0) := hW.2 0 (by omega); have e1 : W.cell? ⟨g5, a * 11 + 1, none⟩ = some (.string p1) := hW.2 1 (by omega); have e2 : W.cell? ⟨g5, a * 11 + 2, none⟩ = some (.int .i64 p2) := hW.2 2 (by omega); have e3 : W.cell? ⟨g5, a * 11 + 3, none⟩ = some (.int .u64 p3) := hW.2 3 (by omega); have e4 : W.cell? ⟨g5, a * 11 + 4, none⟩ = some (.string p4) := hW.2 4 (by omega); have e5 : W.cell? ⟨g5, a * 11 + 5, none⟩ = some (.int .i64 p5) := hW.2 5 (by omega); have e6 : W.cell? ⟨g5, a * 11 + 6, none⟩ = some (.int .i64 p6) := hW.2 6 (by omega); have e7 : W.cell? ⟨g5, a * 11 + 7, none⟩ = some (.int .i64 p7) := hW.2 7 (by omega); have e8 : W.cell? ⟨g5, a * 11 + 8, none⟩ = some (.int .i64 p8) := hW.2 8 (by omega); have e9 : W.cell? ⟨g5, a * 11 + 9, none⟩ = some (.slice pp ppath.length ppc) := hW.2 9 (by omega); have e10 : W.cell? ⟨g5, a * 11 + 10, none⟩ = some (.slice pip pit.length pic) := hW.2 10 (by omega); simp [go_sem, execOp, Act.eval, e0, e1, e2, e3, e4, e5, e6, e7, e8, e9, e10]
    simp only [List.getElem_toArray, List.getElem_cons_zero, List.getElem_cons_succ, Act.put, List.setIfInBounds_toArray, List.set_cons_succ, List.set_cons_zero]
    refine wpAnyH_all (rs := [8]) (by kernel_rfl) (by simp) (fun i2 hi2 => ?_)
    obtain rfl : i2 = 8 := by simpa using hi2
    clear hi2
    refine wpOp_step rfl (fun K hK => ite_yes rfl ?_)
    simp only [List.getElem_toArray, List.getElem_cons_zero, List.getElem_cons_succ]
    go_simp
    refine (HE2.out _ Ru2d).mono ?_
    rintro e u2 ⟨g0, rfl, Hg0, Ru2⟩
    go_simp
    refine hK _ _ ⟨HSba.out _ Ru2, ?_⟩
    clear hK K hS
    have hS := HSba.out _ Ru2
    refine wpAnyH_take (i := 9) (v := .tuple #[.bool av, g0]) rfl (by kernel_rfl) (by kernel_rfl) (by kernel_rfl) (fun _ _ _ h => h) (Or.inl ⟨by rfl, ?r⟩) hS ?_
    case r => intro W hW; simp [go_sem, execOp, Act.eval]
    simp only [List.getElem_toArray, List.getElem_cons_zero, List.getElem_cons_succ, Act.put, List.setIfInBounds_toArray, List.set_cons_succ, List.set_cons_zero]
    refine wpAnyH_take (i := 10) (v := .bool av) rfl (by kernel_rfl) (by kernel_rfl) (by kernel_rfl) (fun _ _ _ h => h) (Or.inl ⟨by rfl, ?r⟩) hS ?_
    case r => intro W hW; simp [go_sem, execOp, Act.eval]
    simp only [List.getElem_toArray, List.getElem_cons_zero, List.getElem_cons_succ, Act.put, List.setIfInBounds_toArray, List.set_cons_succ, List.set_cons_zero]
    refine wpAnyH_take (i := 11) (v := g0) rfl (by kernel_rfl) (by kernel_rfl) (by kernel_rfl) (fun _ _ _ h => h) (Or.inl ⟨by rfl, ?r⟩) hS ?_
    case r => intro W hW; simp [go_sem, execOp, Act.eval]
    simp only [List.getElem_toArray, List.getElem_cons_zero, List.getElem_cons_succ, Act.put, List.setIfInBounds_toArray, List.set_cons_succ, List.set_cons_zero]
    refine wpAnyH_take (i := 12) (v := .bool av) rfl (by kernel_rfl) (by kernel_rfl) (by kernel_rfl) (fun _ _ _ h => h) (Or.inl ⟨by rfl, ?r⟩) hS ?_
    case r => intro W hW; simp [go_sem, execOp, Act.eval]
    simp only [List.getElem_toArray, List.getElem_cons_zero, List.getElem_cons_succ, Act.put, List.setIfInBounds_toArray, List.set_cons_succ, List.set_cons_zero]
    refine wpAnyH_take (i := 13) (v := g0) rfl (by kernel_rfl) (by kernel_rfl) (by kernel_rfl) (fun _ _ _ h => h) (Or.inl ⟨by rfl, ?r⟩) hS ?_
    case r => intro W hW; simp [go_sem, execOp, Act.eval]
    simp only [List.getElem_toArray, List.getElem_cons_zero, List.getElem_cons_succ, Act.put, List.setIfInBounds_toArray, List.set_cons_succ, List.set_cons_zero]
    refine wpAnyH_done (by kernel_rfl) ?_ _
    refine NoPanic.normal ?_
    try simp only [Act.put]
    clear hS Ru2d Bu2d
    have hCp := (HSab.out _ Ru2).1
    have pc0 : u2.cell? ⟨g5, a * 11, none⟩ = some (.int .i64 p0) := hCp 0 (by omega)
    have pc1 : u2.cell? ⟨g5, a * 11 + 1, none⟩ = some (.string p1) := hCp 1 (by omega)
    have pc2 : u2.cell? ⟨g5, a * 11 + 2, none⟩ = some (.int .i64 p2) := hCp 2 (by omega)
    have pc3 : u2.cell? ⟨g5, a * 11 + 3, none⟩ = some (.int .u64 p3) := hCp 3 (by omega)
    have pc4 : u2.cell? ⟨g5, a * 11 + 4, none⟩ = some (.string p4) := hCp 4 (by omega)
    have pc5 : u2.cell? ⟨g5, a * 11 + 5, none⟩ = some (.int .i64 p5) := hCp 5 (by omega)
    have pc6 : u2.cell? ⟨g5, a * 11 + 6, none⟩ = some (.int .i64 p6) := hCp 6 (by omega)
    have pc7 : u2.cell? ⟨g5, a * 11 + 7, none⟩ = some (.int .i64 p7) := hCp 7 (by omega)
    have pc8 : u2.cell? ⟨g5, a * 11 + 8, none⟩ = some (.int .i64 p8) := hCp 8 (by omega)
    have pc9 : u2.cell? ⟨g5, a * 11 + 9, none⟩ = some (.slice pp ppath.length ppc) := hCp 9 (by omega)
    have pc10 : u2.cell? ⟨g5, a * 11 + 10, none⟩ = some (.slice pip pit.length pic) := hCp 10 (by omega)
    clear hCp
    go_wp2_with fail
    refine (HHa.out _ Ru2).mono ?_
    rintro r u3 ⟨n1, hv, rfl, Hn1, Ru3⟩
    clear pc0 pc1 pc2 pc3 pc4 pc5 pc6 pc7 pc8 pc9 pc10
    have HN1 : Hid _ := Hn1
    clear Hn1
    have hCq := (HSab.out _ Ru3).2
    have qc0 : u3.cell? ⟨g5, b * 11, none⟩ = some (.int .i64 q0) := hCq 0 (by omega)
    have qc1 : u3.cell? ⟨g5, b * 11 + 1, none⟩ = some (.string q1) := hCq 1 (by omega)
    have qc2 : u3.cell? ⟨g5, b * 11 + 2, none⟩ = some (.int .i64 q2) := hCq 2 (by omega)
    have qc3 : u3.cell? ⟨g5, b * 11 + 3, none⟩ = some (.int .u64 q3) := hCq 3 (by omega)
    have qc4 : u3.cell? ⟨g5, b * 11 + 4, none⟩ = some (.string q4) := hCq 4 (by omega)
    have qc5 : u3.cell? ⟨g5, b * 11 + 5, none⟩ = some (.int .i64 q5) := hCq 5 (by omega)
    have qc6 : u3.cell? ⟨g5, b * 11 + 6, none⟩ = some (.int .i64 q6) := hCq 6 (by omega)
    have qc7 : u3.cell? ⟨g5, b * 11 + 7, none⟩ = some (.int .i64 q7) := hCq 7 (by omega)
    have qc8 : u3.cell? ⟨g5, b * 11 + 8, none⟩ = some (.int .i64 q8) := hCq 8 (by omega)
    have qc9 : u3.cell? ⟨g5, b * 11 + 9, none⟩ = some (.slice qp qpath.length qpc) := hCq 9 (by omega)
    have qc10 : u3.cell? ⟨g5, b * 11 + 10, none⟩ = some (.slice qip qit.length qic) := hCq 10 (by omega)
    clear hCq
    go_wp2_with fail
    refine (HHb.out _ Ru3).mono ?_
    rintro r u4 ⟨n2, ov, rfl, Hn2, Ru4⟩
    clear qc0 qc1 qc2 qc3 qc4 qc5 qc6 qc7 qc8 qc9 qc10
    have HHt : Hid (av = true → hv = .nilIface ∧ ov = .nilIface ∧ n1 = n2) := fun h => ⟨(HN1.out h).2, (Hn2 h).2, (HN1.out h).1.trans (Hn2 h).1.symm⟩
    clear Hn2 HN1 HE1 HE2 HHa HHb
    go_wp2_with fail
    refine wp_region_noPanic ?_
    refine wp_region_held (S := fun W => (∀ i, i < 11 → W.cell? ⟨g5, a * 11 + i, none⟩ = (#[.int .i64 p0, .string p1, .int .i64 p2, .int .u64 p3, .string p4, .int .i64 p5, .int .i64 p6, .int .i64 p7, .int .i64 p8, .slice pp ppath.length ppc, .slice pip pit.length pic] : Array Value)[i]?) ∧ (∀ i, i < 11 → W.cell? ⟨g5, b * 11 + i, none⟩ = (#[.int .i64 q0, .string q1, .int .i64 q2, .int .u64 q3, .string q4, .int .i64 q5, .int .i64 q6, .int .i64 q7, .int .i64 q8, .slice qp qpath.length qpc, .slice qip qit.length qic] : Array Value)[i]?)) (by kernel_rfl) ?_
    obtain ⟨u5d, hu5d⟩ : ∃ W4, W4 = u4.drew := ⟨_, rfl⟩
    have e4 : ({ u4 with drawn := u4.drawn + 1 } : World) = u5d := hu5d.symm
    rw [e4]
    have Bu5d : Below u4.heap.size u4 u5d := by rw [hu5d]; exact (Below.refl _ _).drew
    have Ru5d : Below wr.heap.size wr u5d := Ru4.trans (Bu5d.mono Ru4.size)
    have hS := HSab.out u5d Ru5d
    clear e4 hu5d
    refine wpAnyH_take (i := 0) (v := .slice (some ⟨g5, 0, none⟩) 3 3) rfl (by kernel_rfl) (by kernel_rfl) (by kernel_rfl) (fun _ _ _ h => h) (Or.inl ⟨by rfl, ?r⟩) hS ?_
    case r => intro W hW; simp [go_sem, execOp, Act.eval]
    simp only [List.getElem_toArray, List.getElem_cons_zero, Act.put, List.setIfInBounds_toArray, List.set_cons_succ, List.set_cons_zero]
    refine wpAnyH_take (i := 1) (v := .int .i64 a) rfl (by kernel_rfl) (by kernel_rfl) (by kernel_rfl) (fun _ _ _ h => h) (Or.inl ⟨by rfl, ?r⟩) hS ?_
    case r => intro W hW; simp [go_sem, execOp, Act.eval]
    simp only [List.getElem_toArray, List.getElem_cons_zero, List.getElem_cons_succ, Act.put, List.setIfInBounds_toArray, List.set_cons_succ, List.set_cons_zero]
    refine wpAnyH_take (i := 2) (v := .pointer (some ⟨g5, a * 11, none⟩)) rfl (by kernel_rfl) (by kernel_rfl) (by kernel_rfl) (fun _ _ _ h => h) (Or.inl ⟨by rfl, ?r⟩) hS ?_
    case r => intro W hW; simp [go_sem, execOp, Act.eval, lta]
    simp only [List.getElem_toArray, List.getElem_cons_zero, List.getElem_cons_succ, Act.put, List.setIfInBounds_toArray, List.set_cons_succ, List.set_cons_zero]
    refine wpAnyH_take (i := 3) (v := .agg #[.int .i64 p0, .string p1, .int .i64 p2, .int .u64 p3, .string p4, .int .i64 p5, .int .i64 p6, .int .i64 p7, .int .i64 p8, .slice pp ppath.length ppc, .slice pip pit.length pic]) rfl (by kernel_rfl) (by kernel_rfl) (by kernel_rfl) (fun _ _ _ h => h) (Or.inl ⟨by rfl, ?r⟩) hS ?_
    case r => intro W hW; have e0 : W.cell? ⟨g5, a * 11, none⟩ = some (.int .i64 p0) := hW.1 0 (by omega); have e1 : W.cell? ⟨g5, a * 11 + 1, none⟩ = some (.string p1) := hW.1 1 (by omega); have e2 : W.cell? ⟨g5, a * 11 + 2, none⟩ = some (.int .i64 p2) := hW.1 2 (by omega); have e3 : W.cell? ⟨g5, a * 11 + 3, none⟩ = some (.int .u64 p3) := hW.1 3 (by omega); have e4 : W.cell? ⟨g5, a * 11 + 4, none⟩ = some (.string p4) := hW.1 4 (by omega); have e5 : W.cell? ⟨g5, a * 11 + 5, none⟩ = some (.int .i64 p5) := hW.1 5 (by omega); have e6 : W.cell? ⟨g5, a * 11 + 6, none⟩ = some (.int .i64 p6) := hW.1 6 (by omega); have e7 : W.cell? ⟨g5, a * 11 + 7, none⟩ = some (.int .i64 p7) := hW.1 7 (by omega); have e8 : W.cell? ⟨g5, a * 11 + 8, none⟩ = some (.int .i64 p8) := hW.1 8 (by omega); have e9 : W.cell? ⟨g5, a * 11 + 9, none⟩ = some (.slice pp ppath.length ppc) := hW.1 9 (by omega); have e10 : W.cell? ⟨g5, a * 11 + 10, none⟩ = some (.slice pip pit.length pic) := hW.1 10 (by omega); simp [go_sem, execOp, Act.eval, e0, e1, e2, e3, e4, e5, e6, e7, e8, e9, e10]
    simp only [List.getElem_toArray, List.getElem_cons_zero, List.getElem_cons_succ, Act.put, List.setIfInBounds_toArray, List.set_cons_succ, List.set_cons_zero]
    refine wpAnyH_take (i := 4) (v := .slice (some ⟨g5, 0, none⟩) 3 3) rfl (by kernel_rfl) (by kernel_rfl) (by kernel_rfl) (fun _ _ _ h => h) (Or.inl ⟨by rfl, ?r⟩) hS ?_
    case r => intro W hW; simp [go_sem, execOp, Act.eval]
    simp only [List.getElem_toArray, List.getElem_cons_zero, List.getElem_cons_succ, Act.put, List.setIfInBounds_toArray, List.set_cons_succ, List.set_cons_zero]
    refine wpAnyH_take (i := 5) (v := .int .i64 b) rfl (by kernel_rfl) (by kernel_rfl) (by kernel_rfl) (fun _ _ _ h => h) (Or.inl ⟨by rfl, ?r⟩) hS ?_
    case r => intro W hW; simp [go_sem, execOp, Act.eval]
    simp only [List.getElem_toArray, List.getElem_cons_zero, List.getElem_cons_succ, Act.put, List.setIfInBounds_toArray, List.set_cons_succ, List.set_cons_zero]
    refine wpAnyH_take (i := 6) (v := .pointer (some ⟨g5, b * 11, none⟩)) rfl (by kernel_rfl) (by kernel_rfl) (by kernel_rfl) (fun _ _ _ h => h) (Or.inl ⟨by rfl, ?r⟩) hS ?_
    case r => intro W hW; simp [go_sem, execOp, Act.eval, ltb]
    simp only [List.getElem_toArray, List.getElem_cons_zero, List.getElem_cons_succ, Act.put, List.setIfInBounds_toArray, List.set_cons_succ, List.set_cons_zero]
    refine wpAnyH_take (i := 7) (v := .agg #[.int .i64 q0, .string q1, .int .i64 q2, .int .u64 q3, .string q4, .int .i64 q5, .int .i64 q6, .int .i64 q7, .int .i64 q8, .slice qp qpath.length qpc, .slice qip qit.length qic]) rfl (by kernel_rfl) (by kernel_rfl) (by kernel_rfl) (fun _ _ _ h => h) (Or.inl ⟨by rfl, ?r⟩) hS ?_
    case r => intro W hW; have e0 : W.cell? ⟨g5, b * 11, none⟩ = some (.int .i64 q0) := hW.2 0 (by omega); have e1 : W.cell? ⟨g5, b * 11 + 1, none⟩ = some (.string q1) := hW.2 1 (by omega); have e2 : W.cell? ⟨g5, b * 11 + 2, none⟩ = some (.int .i64 q2) := hW.2 2 (by omega); have e3 : W.cell? ⟨g5, b * 11 + 3, none⟩ = some (.int .u64 q3) := hW.2 3 (by omega); have e4 : W.cell? ⟨g5, b * 11 + 4, none⟩ = some (.string q4) := hW.2 4 (by omega); have e5 : W.cell? ⟨g5, b * 11 + 5, none⟩ = some (.int .i64 q5) := hW.2 5 (by omega); have e6 : W.cell? ⟨g5, b * 11 + 6, none⟩ = some (.int .i64 q6) := hW.2 6 (by omega); have e7 : W.cell? ⟨g5, b * 11 + 7, none⟩ = some (.int .i64 q7) := hW.2 7 (by omega); have e8 : W.cell? ⟨g5, b * 11 + 8, none⟩ = some (.int .i64 q8) := hW.2 8 (by omega); have e9 : W.cell? ⟨g5, b * 11 + 9, none⟩ = some (.slice qp qpath.length qpc) := hW.2 9 (by omega); have e10 : W.cell? ⟨g5, b * 11 + 10, none⟩ = some (.slice qip qit.length qic) := hW.2 10 (by omega); simp [go_sem, execOp, Act.eval, e0, e1, e2, e3, e4, e5, e6, e7, e8, e9, e10]
    simp only [List.getElem_toArray, List.getElem_cons_zero, List.getElem_cons_succ, Act.put, List.setIfInBounds_toArray, List.set_cons_succ, List.set_cons_zero]
    refine wpAnyH_all (rs := [8]) (by kernel_rfl) (by simp) (fun i2 hi2 => ?_)
    obtain rfl : i2 = 8 := by simpa using hi2
    clear hi2
    refine wpOp_step rfl (fun K hK => ite_yes rfl ?_)
    simp only [List.getElem_toArray, List.getElem_cons_zero, List.getElem_cons_succ]
    go_simp
    refine (HSm2.out _ Ru5d).mono ?_
    rintro e u5 ⟨rfl, Ru5⟩
    go_simp
    refine hK _ _ ⟨HSab.out _ Ru5, ?_⟩
    clear hK K hS
    have hS := HSab.out _ Ru5
    refine wpAnyH_take (i := 9) (v := .bool sm) rfl (by kernel_rfl) (by kernel_rfl) (by kernel_rfl) (fun _ _ _ h => h) (Or.inl ⟨by rfl, ?r⟩) hS ?_
    case r => intro W hW; simp [go_sem, execOp, Act.eval]
    simp only [List.getElem_toArray, List.getElem_cons_zero, List.getElem_cons_succ, Act.put, List.setIfInBounds_toArray, List.set_cons_succ, List.set_cons_zero]
    refine wpAnyH_done (by kernel_rfl) ?_ _
    refine NoPanic.normal ?_
    try simp only [Act.put]
    clear hS Ru5d Bu5d
    clear HSab HSba HSm2
    go_wp2_with fail
    refine wp_region_noPanic ?_
    refine wp_region_held (S := fun W => True) (by kernel_rfl) ?_
    obtain ⟨u6d, hu6d⟩ : ∃ W4, W4 = u5.drew := ⟨_, rfl⟩
    have e4 : ({ u5 with drawn := u5.drawn + 1 } : World) = u6d := hu6d.symm
    rw [e4]
    have Bu6d : Below u5.heap.size u5 u6d := by rw [hu6d]; exact (Below.refl _ _).drew
    have Ru6d : Below wr.heap.size wr u6d := Ru5.trans (Bu6d.mono Ru5.size)
    have hS : True := trivial
    clear e4 hu6d
    refine wpAnyH_take (i := 0) (v := .bool av) rfl (by kernel_rfl) (by kernel_rfl) (by kernel_rfl) (fun _ _ _ h => h) (Or.inl ⟨by rfl, ?r⟩) hS ?_
    case r => intro W hW; simp [go_sem, execOp, Act.eval]
    simp only [List.getElem_toArray, List.getElem_cons_zero, Act.put, List.setIfInBounds_toArray, List.set_cons_succ, List.set_cons_zero]
    refine wpAnyH_take (i := 1) (v := .bool av) rfl (by kernel_rfl) (by kernel_rfl) (by kernel_rfl) (fun _ _ _ h => h) (Or.inl ⟨by rfl, ?r⟩) hS ?_
    case r => intro W hW; simp [go_sem, execOp, Act.eval]
    simp only [List.getElem_toArray, List.getElem_cons_zero, List.getElem_cons_succ, Act.put, List.setIfInBounds_toArray, List.set_cons_succ, List.set_cons_zero]
    refine wpAnyH_take (i := 2) (v := .bool false) rfl (by kernel_rfl) (by kernel_rfl) (by kernel_rfl) (fun _ _ _ h => h) (Or.inl ⟨by rfl, ?r⟩) hS ?_
    case r => intro W hW; cases av <;> simp [go_sem, execOp, Act.eval]
    simp only [List.getElem_toArray, List.getElem_cons_zero, List.getElem_cons_succ, Act.put, List.setIfInBounds_toArray, List.set_cons_succ, List.set_cons_zero]
    refine wpAnyH_take (i := 3) (v := .bool false) rfl (by kernel_rfl) (by kernel_rfl) (by kernel_rfl) (fun _ _ _ h => h) (Or.inl ⟨by rfl, ?r⟩) hS ?_
    case r => intro W hW; simp [go_sem, execOp, Act.eval]
    simp only [List.getElem_toArray, List.getElem_cons_zero, List.getElem_cons_succ, Act.put, List.setIfInBounds_toArray, List.set_cons_succ, List.set_cons_zero]
    refine wpAnyH_take (i := 4) (v := f0) rfl (by kernel_rfl) (by kernel_rfl) (by kernel_rfl) (fun _ _ _ h => h) (Or.inl ⟨by rfl, ?r⟩) hS ?_
    case r => intro W hW; simp [go_sem, execOp, Act.eval]
    simp only [List.getElem_toArray, List.getElem_cons_zero, List.getElem_cons_succ, Act.put, List.setIfInBounds_toArray, List.set_cons_succ, List.set_cons_zero]
    refine wpAnyH_take (i := 5) (v := .bool fb) rfl (by kernel_rfl) (by kernel_rfl) (by kernel_rfl) (fun _ _ _ h => h) (Or.inl ⟨by rfl, ?r⟩) hS ?_
    case r => intro W hW; rcases Hf0 with ⟨he, hv⟩ | ⟨he, m, hv⟩ <;> (subst he hv; simp [go_sem, execOp, Act.eval])
    simp only [List.getElem_toArray, List.getElem_cons_zero, List.getElem_cons_succ, Act.put, List.setIfInBounds_toArray, List.set_cons_succ, List.set_cons_zero]
    refine wpAnyH_take (i := 6) (v := g0) rfl (by kernel_rfl) (by kernel_rfl) (by kernel_rfl) (fun _ _ _ h => h) (Or.inl ⟨by rfl, ?r⟩) hS ?_
    case r => intro W hW; simp [go_sem, execOp, Act.eval]
    simp only [List.getElem_toArray, List.getElem_cons_zero, List.getElem_cons_succ, Act.put, List.setIfInBounds_toArray, List.set_cons_succ, List.set_cons_zero]
    refine wpAnyH_take (i := 7) (v := .bool fb) rfl (by kernel_rfl) (by kernel_rfl) (by kernel_rfl) (fun _ _ _ h => h) (Or.inl ⟨by rfl, ?r⟩) hS ?_
    case r => intro W hW; rcases Hg0 with ⟨he, hv⟩ | ⟨he, m, hv⟩ <;> (subst he hv; simp [go_sem, execOp, Act.eval])
    simp only [List.getElem_toArray, List.getElem_cons_zero, List.getElem_cons_succ, Act.put, List.setIfInBounds_toArray, List.set_cons_succ, List.set_cons_zero]
    refine wpAnyH_take (i := 8) (v := .bool false) rfl (by kernel_rfl) (by kernel_rfl) (by kernel_rfl) (fun _ _ _ h => h) (Or.inl ⟨by rfl, ?r⟩) hS ?_
    case r => intro W hW; cases fb <;> simp [go_sem, execOp, Act.eval]
    simp only [List.getElem_toArray, List.getElem_cons_zero, List.getElem_cons_succ, Act.put, List.setIfInBounds_toArray, List.set_cons_succ, List.set_cons_zero]
    refine wpAnyH_take (i := 9) (v := .bool false) rfl (by kernel_rfl) (by kernel_rfl) (by kernel_rfl) (fun _ _ _ h => h) (Or.inl ⟨by rfl, ?r⟩) hS ?_
    case r => intro W hW; simp [go_sem, execOp, Act.eval]
    simp only [List.getElem_toArray, List.getElem_cons_zero, List.getElem_cons_succ, Act.put, List.setIfInBounds_toArray, List.set_cons_succ, List.set_cons_zero]
    refine wpAnyH_take (i := 10) (v := .bool false) rfl (by kernel_rfl) (by kernel_rfl) (by kernel_rfl) (fun _ _ _ h => h) (Or.inl ⟨by rfl, ?r⟩) hS ?_
    case r => intro W hW; simp [go_sem, execOp, Act.eval]
    simp only [List.getElem_toArray, List.getElem_cons_zero, List.getElem_cons_succ, Act.put, List.setIfInBounds_toArray, List.set_cons_succ, List.set_cons_zero]
    refine wpAnyH_take (i := 11) (v := .bool av) rfl (by kernel_rfl) (by kernel_rfl) (by kernel_rfl) (fun _ _ _ h => h) (Or.inl ⟨by rfl, ?r⟩) hS ?_
    case r => intro W hW; simp [go_sem, execOp, Act.eval]
    simp only [List.getElem_toArray, List.getElem_cons_zero, List.getElem_cons_succ, Act.put, List.setIfInBounds_toArray, List.set_cons_succ, List.set_cons_zero]
    refine wpAnyH_take (i := 12) (v := .bool av) rfl (by kernel_rfl) (by kernel_rfl) (by kernel_rfl) (fun _ _ _ h => h) (Or.inl ⟨by rfl, ?r⟩) hS ?_
    case r => intro W hW; simp [go_sem, execOp, Act.eval]
    simp only [List.getElem_toArray, List.getElem_cons_zero, List.getElem_cons_succ, Act.put, List.setIfInBounds_toArray, List.set_cons_succ, List.set_cons_zero]
    refine wpAnyH_take (i := 13) (v := (bif av then hv else undef)) rfl (by kernel_rfl) (by kernel_rfl) (by kernel_rfl) (fun _ _ _ h => h) ?yld hS ?_
    case yld =>
      clear hS
      cases av
      · exact Or.inr ⟨by rfl, rfl⟩
      · obtain ⟨h1, h2, h3⟩ := HHt.out rfl
        subst h1 h2 h3
        exact Or.inl ⟨by rfl, fun W hW => by simp [go_sem, execOp, Act.eval]⟩
    simp only [List.getElem_toArray, List.getElem_cons_zero, List.getElem_cons_succ, Act.put, List.setIfInBounds_toArray, List.set_cons_succ, List.set_cons_zero]
    refine wpAnyH_take (i := 14) (v := (bif av then .bool false else undef)) rfl (by kernel_rfl) (by kernel_rfl) (by kernel_rfl) (fun _ _ _ h => h) ?yld hS ?_
    case yld =>
      clear hS
      cases av
      · exact Or.inr ⟨by rfl, rfl⟩
      · obtain ⟨h1, h2, h3⟩ := HHt.out rfl
        subst h1 h2 h3
        exact Or.inl ⟨by rfl, fun W hW => by simp [go_sem, execOp, Act.eval]⟩
    simp only [List.getElem_toArray, List.getElem_cons_zero, List.getElem_cons_succ, Act.put, List.setIfInBounds_toArray, List.set_cons_succ, List.set_cons_zero]
    refine wpAnyH_take (i := 15) (v := (bif av then .bool false else undef)) rfl (by kernel_rfl) (by kernel_rfl) (by kernel_rfl) (fun _ _ _ h => h) ?yld hS ?_
    case yld =>
      clear hS
      cases av
      · exact Or.inr ⟨by rfl, rfl⟩
      · obtain ⟨h1, h2, h3⟩ := HHt.out rfl
        subst h1 h2 h3
        exact Or.inl ⟨by rfl, fun W hW => by simp [go_sem, execOp, Act.eval]⟩
    simp only [List.getElem_toArray, List.getElem_cons_zero, List.getElem_cons_succ, Act.put, List.setIfInBounds_toArray, List.set_cons_succ, List.set_cons_zero]
    refine wpAnyH_take (i := 16) (v := (bif av then ov else undef)) rfl (by kernel_rfl) (by kernel_rfl) (by kernel_rfl) (fun _ _ _ h => h) ?yld hS ?_
    case yld =>
      clear hS
      cases av
      · exact Or.inr ⟨by rfl, rfl⟩
      · obtain ⟨h1, h2, h3⟩ := HHt.out rfl
        subst h1 h2 h3
        exact Or.inl ⟨by rfl, fun W hW => by simp [go_sem, execOp, Act.eval]⟩
    simp only [List.getElem_toArray, List.getElem_cons_zero, List.getElem_cons_succ, Act.put, List.setIfInBounds_toArray, List.set_cons_succ, List.set_cons_zero]
    refine wpAnyH_take (i := 17) (v := (bif av then .bool false else undef)) rfl (by kernel_rfl) (by kernel_rfl) (by kernel_rfl) (fun _ _ _ h => h) ?yld hS ?_
    case yld =>
      clear hS
      cases av
      · exact Or.inr ⟨by rfl, rfl⟩
      · obtain ⟨h1, h2, h3⟩ := HHt.out rfl
        subst h1 h2 h3
        exact Or.inl ⟨by rfl, fun W hW => by simp [go_sem, execOp, Act.eval]⟩
    simp only [List.getElem_toArray, List.getElem_cons_zero, List.getElem_cons_succ, Act.put, List.setIfInBounds_toArray, List.set_cons_succ, List.set_cons_zero]
    refine wpAnyH_take (i := 18) (v := (bif av then .bool false else undef)) rfl (by kernel_rfl) (by kernel_rfl) (by kernel_rfl) (fun _ _ _ h => h) ?yld hS ?_
    case yld =>
      clear hS
      cases av
      · exact Or.inr ⟨by rfl, rfl⟩
      · obtain ⟨h1, h2, h3⟩ := HHt.out rfl
        subst h1 h2 h3
        exact Or.inl ⟨by rfl, fun W hW => by simp [go_sem, execOp, Act.eval]⟩
    simp only [List.getElem_toArray, List.getElem_cons_zero, List.getElem_cons_succ, Act.put, List.setIfInBounds_toArray, List.set_cons_succ, List.set_cons_zero]
    refine wpAnyH_take (i := 19) (v := (bif av then .bool false else undef)) rfl (by kernel_rfl) (by kernel_rfl) (by kernel_rfl) (fun _ _ _ h => h) ?yld hS ?_
    case yld =>
      clear hS
      cases av
      · exact Or.inr ⟨by rfl, rfl⟩
      · obtain ⟨h1, h2, h3⟩ := HHt.out rfl
        subst h1 h2 h3
        exact Or.inl ⟨by rfl, fun W hW => by simp [go_sem, execOp, Act.eval]⟩
    simp only [List.getElem_toArray, List.getElem_cons_zero, List.getElem_cons_succ, Act.put, List.setIfInBounds_toArray, List.set_cons_succ, List.set_cons_zero]
    refine wpAnyH_take (i := 20) (v := (bif av then .int .u64 n1 else undef)) rfl (by kernel_rfl) (by kernel_rfl) (by kernel_rfl) (fun _ _ _ h => h) ?yld hS ?_
    case yld =>
      clear hS
      cases av
      · exact Or.inr ⟨by rfl, rfl⟩
      · obtain ⟨h1, h2, h3⟩ := HHt.out rfl
        subst h1 h2 h3
        exact Or.inl ⟨by rfl, fun W hW => by simp [go_sem, execOp, Act.eval]⟩
    simp only [List.getElem_toArray, List.getElem_cons_zero, List.getElem_cons_succ, Act.put, List.setIfInBounds_toArray, List.set_cons_succ, List.set_cons_zero]
    refine wpAnyH_take (i := 21) (v := (bif av then .int .u64 n2 else undef)) rfl (by kernel_rfl) (by kernel_rfl) (by kernel_rfl) (fun _ _ _ h => h) ?yld hS ?_
    case yld =>
      clear hS
      cases av
      · exact Or.inr ⟨by rfl, rfl⟩
      · obtain ⟨h1, h2, h3⟩ := HHt.out rfl
        subst h1 h2 h3
        exact Or.inl ⟨by rfl, fun W hW => by simp [go_sem, execOp, Act.eval]⟩
    simp only [List.getElem_toArray, List.getElem_cons_zero, List.getElem_cons_succ, Act.put, List.setIfInBounds_toArray, List.set_cons_succ, List.set_cons_zero]
    refine wpAnyH_take (i := 22) (v := (bif av then .bool false else undef)) rfl (by kernel_rfl) (by kernel_rfl) (by kernel_rfl) (fun _ _ _ h => h) ?yld hS ?_
    case yld =>
      clear hS
      cases av
      · exact Or.inr ⟨by rfl, rfl⟩
      · obtain ⟨h1, h2, h3⟩ := HHt.out rfl
        subst h1 h2 h3
        exact Or.inl ⟨by rfl, fun W hW => by simp [go_sem, execOp, Act.eval]⟩
    simp only [List.getElem_toArray, List.getElem_cons_zero, List.getElem_cons_succ, Act.put, List.setIfInBounds_toArray, List.set_cons_succ, List.set_cons_zero]
    refine wpAnyH_take (i := 23) (v := (bif av then .bool false else undef)) rfl (by kernel_rfl) (by kernel_rfl) (by kernel_rfl) (fun _ _ _ h => h) ?yld hS ?_
    case yld =>
      clear hS
      cases av
      · exact Or.inr ⟨by rfl, rfl⟩
      · obtain ⟨h1, h2, h3⟩ := HHt.out rfl
        subst h1 h2 h3
        exact Or.inl ⟨by rfl, fun W hW => by simp [go_sem, execOp, Act.eval]⟩
    simp only [List.getElem_toArray, List.getElem_cons_zero, List.getElem_cons_succ, Act.put, List.setIfInBounds_toArray, List.set_cons_succ, List.set_cons_zero]
    refine wpAnyH_take (i := 24) (v := .bool false) rfl (by kernel_rfl) (by kernel_rfl) (by kernel_rfl) (fun _ _ _ h => h) (Or.inl ⟨by rfl, ?r⟩) hS ?_
    case r => intro W hW; cases av <;> simp [go_sem, execOp, Act.eval]
    simp only [List.getElem_toArray, List.getElem_cons_zero, List.getElem_cons_succ, Act.put, List.setIfInBounds_toArray, List.set_cons_succ, List.set_cons_zero]
    refine wpAnyH_take (i := 25) (v := .bool false) rfl (by kernel_rfl) (by kernel_rfl) (by kernel_rfl) (fun _ _ _ h => h) (Or.inl ⟨by rfl, ?r⟩) hS ?_
    case r => intro W hW; simp [go_sem, execOp, Act.eval]
    simp only [List.getElem_toArray, List.getElem_cons_zero, List.getElem_cons_succ, Act.put, List.setIfInBounds_toArray, List.set_cons_succ, List.set_cons_zero]
    refine wpAnyH_done (by kernel_rfl) ?_ _
    refine NoPanic.normal ?_
    try simp only [Act.put]
    clear hS
    have HT5 : Hid (Below W6.heap.size W6 u6d) := HT2.out.trans (Ru6d.mono HT2.out.size)
    clear Ru1 Ru2 Ru3 Ru4 Ru5 Ru6d Bu6d HHt Hf0 Hg0
    have hD : sm = false ∨ (sm = true ∧ bad = true) ∨ (sm = true ∧ bad = false ∧ ∃ m, e0 = .iface 97 (.pointer (some ⟨m, 0, none⟩))) ∨ (sm = true ∧ bad = false ∧ e0 = .nilIface ∧ av = true) := by
      cases sm
      · exact .inl rfl
      · rcases Bool.eq_false_or_eq_true bad with hb | hb
        · exact .inr (.inl ⟨rfl, hb⟩)
        · rcases HE0.out with ⟨h1, h2⟩ | ⟨h1, h2⟩
          · exact .inr (.inr (.inr ⟨rfl, hb, h2, HF3.out rfl hb h1⟩))
          · exact .inr (.inr (.inl ⟨rfl, hb, h2⟩))
    clear HF3
    rcases hD with rfl | ⟨rfl, rfl⟩ | ⟨rfl, rfl, m9, rfl⟩ | ⟨rfl, rfl, rfl, rfl⟩
    all_goals
      go_wp2_with fail
      refine inner_any W6 g5 a b ⟨⟨p0, p1, p2, p3, p4, p5, p6, p7, p8, pp, ppath, ppc⟩, pip, pic, pit⟩ ⟨⟨q0, q1, q2, q3, q4, q5, q6, q7, q8, qp, qpath, qpc⟩, qip, qic, qit⟩ ls _ _ HC HC0 HC1 HO HOa HOb HNm HEQ2 lta ltb _ HT5 _ _ _ _ _ _ _ _ _ _ _ _ _ _ _ _ _ _ _ _ _ _ _ _ _ _ _ _ _ _ _ _ _ _ _ _ _ _ _ _ ?_
      intro zc u29 u30 u31 u32 u208 u209 u210 u211 u212 u213 u214 u215 u216 u217 u218 u219 u220 u221 u222 u223 u224 u225 u226 u227 u228 u229 u230 u231 u232 u233 u234 u235 u236 u237 u238 u239 u240 u241 u242 u243 w7 hb7
      go_wp2_with fail
      exact ⟨⟨b + 1, (b : Int) + 1, by omega, by omega, hb7, _, _, _, _, _, _, _, _, _, _, _, _, _, _, _, _, _, _, _, _, _, _, _, _, _, _, _, _, _, _, _, _, _, _, _, _, _, _, _, _, _, _, _, _, _, _, _, _, _, _, _, _, _, _, _, _, _, _, _, _, _, _, _, _, _, _, _, _, _, _, _, _, _, _, _, _, _, _, _, _, _, _, _, _, _, _, _, _, _, _, _, _, _, _, _, _, _, _, _, _, _, _, _, _, _, _, _, _, _, _, _, _, _, _, _, _, _, _, _, _, _, _, _, _, _, _, _, _, _, _, _, _, _, _, _, _, _, _, _, _, _, _, rfl⟩, by simp [intOf]; omega⟩
  · have ltb : ¬ (b : Int) < 3 := by omega
    go_wp2_with fail
    exact HX.out _ _ _ _ _ _ _ _ _ _ _ _ _ _ _ _ _ _ _ _ _ _ _ _ _ _ _ _ _ _ _ _ _ _ _ _ _ _ _ _ _ _ _ _ _ _ _ _ _ _ _ _ _ _ _ _ _ _ _ _ _ _ _ _ _ _ _ _ _ _ _ _ _ _ _ _ _ _ _ _ _ _ _ _ _ _ _ _ _ _ _ _ _ _ _ _ _ _ _ _ _ _ _ _ _ _ _ _ _ _ _ _ _ _ _ _ _ _ _ _ _ _ _ _ _ _ _ _ _ _ _ _ _ _ _ _ _ _ _ _ _ _ _ _ HT2.out
end Go.Proofs.YtnhbpcmiolkllabDoor
