/-
  The law TraceSums.
-/
import Derived.Test.YtapakbibofnhkaaDoorSa
namespace Go.Proofs.YtapakbibofnhkaaDoor
open Go.RowKit Go.ChangeMaps

/-- So far, from a world on. -/
def BkRel (n : Nat) (W0 : World) (i : Value) (W : World) : Prop := ∃ k : Nat, i = .int .i64 k ∧ k ≤ n ∧ Below W0.heap.size W0 W
def L1 (s : ByteArray) (av bv abv : Value) (n1 n2 n3 : Value) (n : Nat) (W0 : World) (x : Act) (W : World) : Prop := ∃ (u : Nat → Value) (i : Value), BkRel n W0 i W ∧ x = ⟨#[.string s, av, bv, u 3, u 4, u 5, .bool false, .bool true, abv, n1, n2, n3, i, u 13, u 14, u 15, u 16, u 17, u 18, u 19, u 20, u 21, u 22, u 23, u 24, u 25, u 26, u 27, u 28, u 29, u 30, u 31, u 32, u 33, u 34, u 35, u 36, u 37, u 38, u 39, u 40, u 41, u 42, u 43, u 44, u 45, u 46, u 47, u 48, u 49, u 50, u 51, u 52, u 53, u 54, u 55, u 56, u 57, u 58, u 59, u 60, u 61, u 62, u 63, u 64, u 65, u 66, u 67, u 68, u 69, u 70, u 71, u 72, u 73, u 74, u 75, u 76, u 77, u 78, u 79, u 80, u 81, u 82, u 83, u 84, u 85, u 86, u 87, u 88, u 89, u 90, u 91, u 92, u 93, u 94, u 95, u 96, u 97, u 98, u 99, u 100, u 101, u 102, u 103, u 104, u 105, u 106, u 107, u 108, u 109, u 110, u 111, u 112, u 113, u 114, u 115, u 116, u 117, u 118, u 119, u 120, u 121, u 122, u 123, u 124, u 125, u 126, u 127, u 128, u 129, u 130, u 131, u 132, u 133, u 134, u 135, u 136, u 137, u 138, u 139, u 140, u 141, u 142, u 143, u 144, u 145, u 146, u 147, u 148, u 149, u 150, u 151, u 152, u 153, u 154, u 155, u 156, u 157, u 158, u 159, u 160, u 161, u 162, u 163, u 164, u 165, u 166, u 167, u 168, u 169, u 170, u 171, u 172, u 173, u 174, u 175, u 176, u 177, u 178, u 179, u 180, u 181, u 182, u 183, u 184, u 185], []⟩
theorem l1_close (s : ByteArray) (av bv abv : Value) (n1 n2 n3 : Value) (n : Nat) (W0 : World) (a : Act) (W : World) (h : BkRel n W0 (a.tmps.getD 12 undef) W) (ha : a = ⟨#[.string s, av, bv, a.tmps.getD 3 undef, a.tmps.getD 4 undef, a.tmps.getD 5 undef, .bool false, .bool true, abv, n1, n2, n3, a.tmps.getD 12 undef, a.tmps.getD 13 undef, a.tmps.getD 14 undef, a.tmps.getD 15 undef, a.tmps.getD 16 undef, a.tmps.getD 17 undef, a.tmps.getD 18 undef, a.tmps.getD 19 undef, a.tmps.getD 20 undef, a.tmps.getD 21 undef, a.tmps.getD 22 undef, a.tmps.getD 23 undef, a.tmps.getD 24 undef, a.tmps.getD 25 undef, a.tmps.getD 26 undef, a.tmps.getD 27 undef, a.tmps.getD 28 undef, a.tmps.getD 29 undef, a.tmps.getD 30 undef, a.tmps.getD 31 undef, a.tmps.getD 32 undef, a.tmps.getD 33 undef, a.tmps.getD 34 undef, a.tmps.getD 35 undef, a.tmps.getD 36 undef, a.tmps.getD 37 undef, a.tmps.getD 38 undef, a.tmps.getD 39 undef, a.tmps.getD 40 undef, a.tmps.getD 41 undef, a.tmps.getD 42 undef, a.tmps.getD 43 undef, a.tmps.getD 44 undef, a.tmps.getD 45 undef, a.tmps.getD 46 undef, a.tmps.getD 47 undef, a.tmps.getD 48 undef, a.tmps.getD 49 undef, a.tmps.getD 50 undef, a.tmps.getD 51 undef, a.tmps.getD 52 undef, a.tmps.getD 53 undef, a.tmps.getD 54 undef, a.tmps.getD 55 undef, a.tmps.getD 56 undef, a.tmps.getD 57 undef, a.tmps.getD 58 undef, a.tmps.getD 59 undef, a.tmps.getD 60 undef, a.tmps.getD 61 undef, a.tmps.getD 62 undef, a.tmps.getD 63 undef, a.tmps.getD 64 undef, a.tmps.getD 65 undef, a.tmps.getD 66 undef, a.tmps.getD 67 undef, a.tmps.getD 68 undef, a.tmps.getD 69 undef, a.tmps.getD 70 undef, a.tmps.getD 71 undef, a.tmps.getD 72 undef, a.tmps.getD 73 undef, a.tmps.getD 74 undef, a.tmps.getD 75 undef, a.tmps.getD 76 undef, a.tmps.getD 77 undef, a.tmps.getD 78 undef, a.tmps.getD 79 undef, a.tmps.getD 80 undef, a.tmps.getD 81 undef, a.tmps.getD 82 undef, a.tmps.getD 83 undef, a.tmps.getD 84 undef, a.tmps.getD 85 undef, a.tmps.getD 86 undef, a.tmps.getD 87 undef, a.tmps.getD 88 undef, a.tmps.getD 89 undef, a.tmps.getD 90 undef, a.tmps.getD 91 undef, a.tmps.getD 92 undef, a.tmps.getD 93 undef, a.tmps.getD 94 undef, a.tmps.getD 95 undef, a.tmps.getD 96 undef, a.tmps.getD 97 undef, a.tmps.getD 98 undef, a.tmps.getD 99 undef, a.tmps.getD 100 undef, a.tmps.getD 101 undef, a.tmps.getD 102 undef, a.tmps.getD 103 undef, a.tmps.getD 104 undef, a.tmps.getD 105 undef, a.tmps.getD 106 undef, a.tmps.getD 107 undef, a.tmps.getD 108 undef, a.tmps.getD 109 undef, a.tmps.getD 110 undef, a.tmps.getD 111 undef, a.tmps.getD 112 undef, a.tmps.getD 113 undef, a.tmps.getD 114 undef, a.tmps.getD 115 undef, a.tmps.getD 116 undef, a.tmps.getD 117 undef, a.tmps.getD 118 undef, a.tmps.getD 119 undef, a.tmps.getD 120 undef, a.tmps.getD 121 undef, a.tmps.getD 122 undef, a.tmps.getD 123 undef, a.tmps.getD 124 undef, a.tmps.getD 125 undef, a.tmps.getD 126 undef, a.tmps.getD 127 undef, a.tmps.getD 128 undef, a.tmps.getD 129 undef, a.tmps.getD 130 undef, a.tmps.getD 131 undef, a.tmps.getD 132 undef, a.tmps.getD 133 undef, a.tmps.getD 134 undef, a.tmps.getD 135 undef, a.tmps.getD 136 undef, a.tmps.getD 137 undef, a.tmps.getD 138 undef, a.tmps.getD 139 undef, a.tmps.getD 140 undef, a.tmps.getD 141 undef, a.tmps.getD 142 undef, a.tmps.getD 143 undef, a.tmps.getD 144 undef, a.tmps.getD 145 undef, a.tmps.getD 146 undef, a.tmps.getD 147 undef, a.tmps.getD 148 undef, a.tmps.getD 149 undef, a.tmps.getD 150 undef, a.tmps.getD 151 undef, a.tmps.getD 152 undef, a.tmps.getD 153 undef, a.tmps.getD 154 undef, a.tmps.getD 155 undef, a.tmps.getD 156 undef, a.tmps.getD 157 undef, a.tmps.getD 158 undef, a.tmps.getD 159 undef, a.tmps.getD 160 undef, a.tmps.getD 161 undef, a.tmps.getD 162 undef, a.tmps.getD 163 undef, a.tmps.getD 164 undef, a.tmps.getD 165 undef, a.tmps.getD 166 undef, a.tmps.getD 167 undef, a.tmps.getD 168 undef, a.tmps.getD 169 undef, a.tmps.getD 170 undef, a.tmps.getD 171 undef, a.tmps.getD 172 undef, a.tmps.getD 173 undef, a.tmps.getD 174 undef, a.tmps.getD 175 undef, a.tmps.getD 176 undef, a.tmps.getD 177 undef, a.tmps.getD 178 undef, a.tmps.getD 179 undef, a.tmps.getD 180 undef, a.tmps.getD 181 undef, a.tmps.getD 182 undef, a.tmps.getD 183 undef, a.tmps.getD 184 undef, a.tmps.getD 185 undef], []⟩) : L1 s av bv abv n1 n2 n3 n W0 a W := ⟨fun k => a.tmps.getD k undef, _, h, ha⟩
def m12 (n : Nat) (a : Act) (_ : World) : Nat := n - (intOf (a.tmps.getD 12 undef)).toNat
def L2 (s : ByteArray) (av bv abv : Value) (dv : Value) (n : Nat) (W0 : World) (x : Act) (W : World) : Prop := ∃ (u : Nat → Value) (i : Value), BkRel n W0 i W ∧ x = ⟨#[.string s, av, bv, u 3, u 4, u 5, .bool false, .bool true, abv, u 9, u 10, u 11, u 12, dv, i, u 15, u 16, u 17, u 18, u 19, u 20, u 21, u 22, u 23, u 24, u 25, u 26, u 27, u 28, u 29, u 30, u 31, u 32, u 33, u 34, u 35, u 36, u 37, u 38, u 39, u 40, u 41, u 42, u 43, u 44, u 45, u 46, u 47, u 48, u 49, u 50, u 51, u 52, u 53, u 54, u 55, u 56, u 57, u 58, u 59, u 60, u 61, u 62, u 63, u 64, u 65, u 66, u 67, u 68, u 69, u 70, u 71, u 72, u 73, u 74, u 75, u 76, u 77, u 78, u 79, u 80, u 81, u 82, u 83, u 84, u 85, u 86, u 87, u 88, u 89, u 90, u 91, u 92, u 93, u 94, u 95, u 96, u 97, u 98, u 99, u 100, u 101, u 102, u 103, u 104, u 105, u 106, u 107, u 108, u 109, u 110, u 111, u 112, u 113, u 114, u 115, u 116, u 117, u 118, u 119, u 120, u 121, u 122, u 123, u 124, u 125, u 126, u 127, u 128, u 129, u 130, u 131, u 132, u 133, u 134, u 135, u 136, u 137, u 138, u 139, u 140, u 141, u 142, u 143, u 144, u 145, u 146, u 147, u 148, u 149, u 150, u 151, u 152, u 153, u 154, u 155, u 156, u 157, u 158, u 159, u 160, u 161, u 162, u 163, u 164, u 165, u 166, u 167, u 168, u 169, u 170, u 171, u 172, u 173, u 174, u 175, u 176, u 177, u 178, u 179, u 180, u 181, u 182, u 183, u 184, u 185], []⟩
theorem l2_close (s : ByteArray) (av bv abv : Value) (dv : Value) (n : Nat) (W0 : World) (a : Act) (W : World) (h : BkRel n W0 (a.tmps.getD 14 undef) W) (ha : a = ⟨#[.string s, av, bv, a.tmps.getD 3 undef, a.tmps.getD 4 undef, a.tmps.getD 5 undef, .bool false, .bool true, abv, a.tmps.getD 9 undef, a.tmps.getD 10 undef, a.tmps.getD 11 undef, a.tmps.getD 12 undef, dv, a.tmps.getD 14 undef, a.tmps.getD 15 undef, a.tmps.getD 16 undef, a.tmps.getD 17 undef, a.tmps.getD 18 undef, a.tmps.getD 19 undef, a.tmps.getD 20 undef, a.tmps.getD 21 undef, a.tmps.getD 22 undef, a.tmps.getD 23 undef, a.tmps.getD 24 undef, a.tmps.getD 25 undef, a.tmps.getD 26 undef, a.tmps.getD 27 undef, a.tmps.getD 28 undef, a.tmps.getD 29 undef, a.tmps.getD 30 undef, a.tmps.getD 31 undef, a.tmps.getD 32 undef, a.tmps.getD 33 undef, a.tmps.getD 34 undef, a.tmps.getD 35 undef, a.tmps.getD 36 undef, a.tmps.getD 37 undef, a.tmps.getD 38 undef, a.tmps.getD 39 undef, a.tmps.getD 40 undef, a.tmps.getD 41 undef, a.tmps.getD 42 undef, a.tmps.getD 43 undef, a.tmps.getD 44 undef, a.tmps.getD 45 undef, a.tmps.getD 46 undef, a.tmps.getD 47 undef, a.tmps.getD 48 undef, a.tmps.getD 49 undef, a.tmps.getD 50 undef, a.tmps.getD 51 undef, a.tmps.getD 52 undef, a.tmps.getD 53 undef, a.tmps.getD 54 undef, a.tmps.getD 55 undef, a.tmps.getD 56 undef, a.tmps.getD 57 undef, a.tmps.getD 58 undef, a.tmps.getD 59 undef, a.tmps.getD 60 undef, a.tmps.getD 61 undef, a.tmps.getD 62 undef, a.tmps.getD 63 undef, a.tmps.getD 64 undef, a.tmps.getD 65 undef, a.tmps.getD 66 undef, a.tmps.getD 67 undef, a.tmps.getD 68 undef, a.tmps.getD 69 undef, a.tmps.getD 70 undef, a.tmps.getD 71 undef, a.tmps.getD 72 undef, a.tmps.getD 73 undef, a.tmps.getD 74 undef, a.tmps.getD 75 undef, a.tmps.getD 76 undef, a.tmps.getD 77 undef, a.tmps.getD 78 undef, a.tmps.getD 79 undef, a.tmps.getD 80 undef, a.tmps.getD 81 undef, a.tmps.getD 82 undef, a.tmps.getD 83 undef, a.tmps.getD 84 undef, a.tmps.getD 85 undef, a.tmps.getD 86 undef, a.tmps.getD 87 undef, a.tmps.getD 88 undef, a.tmps.getD 89 undef, a.tmps.getD 90 undef, a.tmps.getD 91 undef, a.tmps.getD 92 undef, a.tmps.getD 93 undef, a.tmps.getD 94 undef, a.tmps.getD 95 undef, a.tmps.getD 96 undef, a.tmps.getD 97 undef, a.tmps.getD 98 undef, a.tmps.getD 99 undef, a.tmps.getD 100 undef, a.tmps.getD 101 undef, a.tmps.getD 102 undef, a.tmps.getD 103 undef, a.tmps.getD 104 undef, a.tmps.getD 105 undef, a.tmps.getD 106 undef, a.tmps.getD 107 undef, a.tmps.getD 108 undef, a.tmps.getD 109 undef, a.tmps.getD 110 undef, a.tmps.getD 111 undef, a.tmps.getD 112 undef, a.tmps.getD 113 undef, a.tmps.getD 114 undef, a.tmps.getD 115 undef, a.tmps.getD 116 undef, a.tmps.getD 117 undef, a.tmps.getD 118 undef, a.tmps.getD 119 undef, a.tmps.getD 120 undef, a.tmps.getD 121 undef, a.tmps.getD 122 undef, a.tmps.getD 123 undef, a.tmps.getD 124 undef, a.tmps.getD 125 undef, a.tmps.getD 126 undef, a.tmps.getD 127 undef, a.tmps.getD 128 undef, a.tmps.getD 129 undef, a.tmps.getD 130 undef, a.tmps.getD 131 undef, a.tmps.getD 132 undef, a.tmps.getD 133 undef, a.tmps.getD 134 undef, a.tmps.getD 135 undef, a.tmps.getD 136 undef, a.tmps.getD 137 undef, a.tmps.getD 138 undef, a.tmps.getD 139 undef, a.tmps.getD 140 undef, a.tmps.getD 141 undef, a.tmps.getD 142 undef, a.tmps.getD 143 undef, a.tmps.getD 144 undef, a.tmps.getD 145 undef, a.tmps.getD 146 undef, a.tmps.getD 147 undef, a.tmps.getD 148 undef, a.tmps.getD 149 undef, a.tmps.getD 150 undef, a.tmps.getD 151 undef, a.tmps.getD 152 undef, a.tmps.getD 153 undef, a.tmps.getD 154 undef, a.tmps.getD 155 undef, a.tmps.getD 156 undef, a.tmps.getD 157 undef, a.tmps.getD 158 undef, a.tmps.getD 159 undef, a.tmps.getD 160 undef, a.tmps.getD 161 undef, a.tmps.getD 162 undef, a.tmps.getD 163 undef, a.tmps.getD 164 undef, a.tmps.getD 165 undef, a.tmps.getD 166 undef, a.tmps.getD 167 undef, a.tmps.getD 168 undef, a.tmps.getD 169 undef, a.tmps.getD 170 undef, a.tmps.getD 171 undef, a.tmps.getD 172 undef, a.tmps.getD 173 undef, a.tmps.getD 174 undef, a.tmps.getD 175 undef, a.tmps.getD 176 undef, a.tmps.getD 177 undef, a.tmps.getD 178 undef, a.tmps.getD 179 undef, a.tmps.getD 180 undef, a.tmps.getD 181 undef, a.tmps.getD 182 undef, a.tmps.getD 183 undef, a.tmps.getD 184 undef, a.tmps.getD 185 undef], []⟩) : L2 s av bv abv dv n W0 a W := ⟨fun k => a.tmps.getD k undef, _, h, ha⟩
def m14 (n : Nat) (a : Act) (_ : World) : Nat := n - (intOf (a.tmps.getD 14 undef)).toNat
def E1 (s : ByteArray) (av bv abv : Value) (x : Act) : Prop := ∃ u : Nat → Value, x = ⟨#[.string s, av, bv, u 3, u 4, u 5, .bool false, .bool true, abv, u 9, u 10, u 11, u 12, u 13, u 14, u 15, u 16, u 17, u 18, u 19, u 20, u 21, u 22, u 23, u 24, u 25, u 26, u 27, u 28, u 29, u 30, u 31, u 32, u 33, u 34, u 35, u 36, u 37, u 38, u 39, u 40, u 41, u 42, u 43, u 44, u 45, u 46, u 47, u 48, u 49, u 50, u 51, u 52, u 53, u 54, u 55, u 56, u 57, u 58, u 59, u 60, u 61, u 62, u 63, u 64, u 65, u 66, u 67, u 68, u 69, u 70, u 71, u 72, u 73, u 74, u 75, u 76, u 77, u 78, u 79, u 80, u 81, u 82, u 83, u 84, u 85, u 86, u 87, u 88, u 89, u 90, u 91, u 92, u 93, u 94, u 95, u 96, u 97, u 98, u 99, u 100, u 101, u 102, u 103, u 104, u 105, u 106, u 107, u 108, u 109, u 110, u 111, u 112, u 113, u 114, u 115, u 116, u 117, u 118, u 119, u 120, u 121, u 122, u 123, u 124, u 125, u 126, u 127, u 128, u 129, u 130, u 131, u 132, u 133, u 134, u 135, u 136, u 137, u 138, u 139, u 140, u 141, u 142, u 143, u 144, u 145, u 146, u 147, u 148, u 149, u 150, u 151, u 152, u 153, u 154, u 155, u 156, u 157, u 158, u 159, u 160, u 161, u 162, u 163, u 164, u 165, u 166, u 167, u 168, u 169, u 170, u 171, u 172, u 173, u 174, u 175, u 176, u 177, u 178, u 179, u 180, u 181, u 182, u 183, u 184, u 185], []⟩
theorem e1_close (s : ByteArray) (av bv abv : Value) (a : Act) (ha : a = ⟨#[.string s, av, bv, a.tmps.getD 3 undef, a.tmps.getD 4 undef, a.tmps.getD 5 undef, .bool false, .bool true, abv, a.tmps.getD 9 undef, a.tmps.getD 10 undef, a.tmps.getD 11 undef, a.tmps.getD 12 undef, a.tmps.getD 13 undef, a.tmps.getD 14 undef, a.tmps.getD 15 undef, a.tmps.getD 16 undef, a.tmps.getD 17 undef, a.tmps.getD 18 undef, a.tmps.getD 19 undef, a.tmps.getD 20 undef, a.tmps.getD 21 undef, a.tmps.getD 22 undef, a.tmps.getD 23 undef, a.tmps.getD 24 undef, a.tmps.getD 25 undef, a.tmps.getD 26 undef, a.tmps.getD 27 undef, a.tmps.getD 28 undef, a.tmps.getD 29 undef, a.tmps.getD 30 undef, a.tmps.getD 31 undef, a.tmps.getD 32 undef, a.tmps.getD 33 undef, a.tmps.getD 34 undef, a.tmps.getD 35 undef, a.tmps.getD 36 undef, a.tmps.getD 37 undef, a.tmps.getD 38 undef, a.tmps.getD 39 undef, a.tmps.getD 40 undef, a.tmps.getD 41 undef, a.tmps.getD 42 undef, a.tmps.getD 43 undef, a.tmps.getD 44 undef, a.tmps.getD 45 undef, a.tmps.getD 46 undef, a.tmps.getD 47 undef, a.tmps.getD 48 undef, a.tmps.getD 49 undef, a.tmps.getD 50 undef, a.tmps.getD 51 undef, a.tmps.getD 52 undef, a.tmps.getD 53 undef, a.tmps.getD 54 undef, a.tmps.getD 55 undef, a.tmps.getD 56 undef, a.tmps.getD 57 undef, a.tmps.getD 58 undef, a.tmps.getD 59 undef, a.tmps.getD 60 undef, a.tmps.getD 61 undef, a.tmps.getD 62 undef, a.tmps.getD 63 undef, a.tmps.getD 64 undef, a.tmps.getD 65 undef, a.tmps.getD 66 undef, a.tmps.getD 67 undef, a.tmps.getD 68 undef, a.tmps.getD 69 undef, a.tmps.getD 70 undef, a.tmps.getD 71 undef, a.tmps.getD 72 undef, a.tmps.getD 73 undef, a.tmps.getD 74 undef, a.tmps.getD 75 undef, a.tmps.getD 76 undef, a.tmps.getD 77 undef, a.tmps.getD 78 undef, a.tmps.getD 79 undef, a.tmps.getD 80 undef, a.tmps.getD 81 undef, a.tmps.getD 82 undef, a.tmps.getD 83 undef, a.tmps.getD 84 undef, a.tmps.getD 85 undef, a.tmps.getD 86 undef, a.tmps.getD 87 undef, a.tmps.getD 88 undef, a.tmps.getD 89 undef, a.tmps.getD 90 undef, a.tmps.getD 91 undef, a.tmps.getD 92 undef, a.tmps.getD 93 undef, a.tmps.getD 94 undef, a.tmps.getD 95 undef, a.tmps.getD 96 undef, a.tmps.getD 97 undef, a.tmps.getD 98 undef, a.tmps.getD 99 undef, a.tmps.getD 100 undef, a.tmps.getD 101 undef, a.tmps.getD 102 undef, a.tmps.getD 103 undef, a.tmps.getD 104 undef, a.tmps.getD 105 undef, a.tmps.getD 106 undef, a.tmps.getD 107 undef, a.tmps.getD 108 undef, a.tmps.getD 109 undef, a.tmps.getD 110 undef, a.tmps.getD 111 undef, a.tmps.getD 112 undef, a.tmps.getD 113 undef, a.tmps.getD 114 undef, a.tmps.getD 115 undef, a.tmps.getD 116 undef, a.tmps.getD 117 undef, a.tmps.getD 118 undef, a.tmps.getD 119 undef, a.tmps.getD 120 undef, a.tmps.getD 121 undef, a.tmps.getD 122 undef, a.tmps.getD 123 undef, a.tmps.getD 124 undef, a.tmps.getD 125 undef, a.tmps.getD 126 undef, a.tmps.getD 127 undef, a.tmps.getD 128 undef, a.tmps.getD 129 undef, a.tmps.getD 130 undef, a.tmps.getD 131 undef, a.tmps.getD 132 undef, a.tmps.getD 133 undef, a.tmps.getD 134 undef, a.tmps.getD 135 undef, a.tmps.getD 136 undef, a.tmps.getD 137 undef, a.tmps.getD 138 undef, a.tmps.getD 139 undef, a.tmps.getD 140 undef, a.tmps.getD 141 undef, a.tmps.getD 142 undef, a.tmps.getD 143 undef, a.tmps.getD 144 undef, a.tmps.getD 145 undef, a.tmps.getD 146 undef, a.tmps.getD 147 undef, a.tmps.getD 148 undef, a.tmps.getD 149 undef, a.tmps.getD 150 undef, a.tmps.getD 151 undef, a.tmps.getD 152 undef, a.tmps.getD 153 undef, a.tmps.getD 154 undef, a.tmps.getD 155 undef, a.tmps.getD 156 undef, a.tmps.getD 157 undef, a.tmps.getD 158 undef, a.tmps.getD 159 undef, a.tmps.getD 160 undef, a.tmps.getD 161 undef, a.tmps.getD 162 undef, a.tmps.getD 163 undef, a.tmps.getD 164 undef, a.tmps.getD 165 undef, a.tmps.getD 166 undef, a.tmps.getD 167 undef, a.tmps.getD 168 undef, a.tmps.getD 169 undef, a.tmps.getD 170 undef, a.tmps.getD 171 undef, a.tmps.getD 172 undef, a.tmps.getD 173 undef, a.tmps.getD 174 undef, a.tmps.getD 175 undef, a.tmps.getD 176 undef, a.tmps.getD 177 undef, a.tmps.getD 178 undef, a.tmps.getD 179 undef, a.tmps.getD 180 undef, a.tmps.getD 181 undef, a.tmps.getD 182 undef, a.tmps.getD 183 undef, a.tmps.getD 184 undef, a.tmps.getD 185 undef], []⟩) : E1 s av bv abv a := ⟨fun k => a.tmps.getD k undef, ha⟩
def E2 (s : ByteArray) (av bv abv : Value) (dv : Value) (x : Act) : Prop := ∃ u : Nat → Value, x = ⟨#[.string s, av, bv, u 3, u 4, u 5, .bool false, .bool true, abv, u 9, u 10, u 11, u 12, dv, u 14, u 15, u 16, u 17, u 18, u 19, u 20, u 21, u 22, u 23, u 24, u 25, u 26, u 27, u 28, u 29, u 30, u 31, u 32, u 33, u 34, u 35, u 36, u 37, u 38, u 39, u 40, u 41, u 42, u 43, u 44, u 45, u 46, u 47, u 48, u 49, u 50, u 51, u 52, u 53, u 54, u 55, u 56, u 57, u 58, u 59, u 60, u 61, u 62, u 63, u 64, u 65, u 66, u 67, u 68, u 69, u 70, u 71, u 72, u 73, u 74, u 75, u 76, u 77, u 78, u 79, u 80, u 81, u 82, u 83, u 84, u 85, u 86, u 87, u 88, u 89, u 90, u 91, u 92, u 93, u 94, u 95, u 96, u 97, u 98, u 99, u 100, u 101, u 102, u 103, u 104, u 105, u 106, u 107, u 108, u 109, u 110, u 111, u 112, u 113, u 114, u 115, u 116, u 117, u 118, u 119, u 120, u 121, u 122, u 123, u 124, u 125, u 126, u 127, u 128, u 129, u 130, u 131, u 132, u 133, u 134, u 135, u 136, u 137, u 138, u 139, u 140, u 141, u 142, u 143, u 144, u 145, u 146, u 147, u 148, u 149, u 150, u 151, u 152, u 153, u 154, u 155, u 156, u 157, u 158, u 159, u 160, u 161, u 162, u 163, u 164, u 165, u 166, u 167, u 168, u 169, u 170, u 171, u 172, u 173, u 174, u 175, u 176, u 177, u 178, u 179, u 180, u 181, u 182, u 183, u 184, u 185], []⟩
theorem e2_close (s : ByteArray) (av bv abv : Value) (dv : Value) (a : Act) (ha : a = ⟨#[.string s, av, bv, a.tmps.getD 3 undef, a.tmps.getD 4 undef, a.tmps.getD 5 undef, .bool false, .bool true, abv, a.tmps.getD 9 undef, a.tmps.getD 10 undef, a.tmps.getD 11 undef, a.tmps.getD 12 undef, dv, a.tmps.getD 14 undef, a.tmps.getD 15 undef, a.tmps.getD 16 undef, a.tmps.getD 17 undef, a.tmps.getD 18 undef, a.tmps.getD 19 undef, a.tmps.getD 20 undef, a.tmps.getD 21 undef, a.tmps.getD 22 undef, a.tmps.getD 23 undef, a.tmps.getD 24 undef, a.tmps.getD 25 undef, a.tmps.getD 26 undef, a.tmps.getD 27 undef, a.tmps.getD 28 undef, a.tmps.getD 29 undef, a.tmps.getD 30 undef, a.tmps.getD 31 undef, a.tmps.getD 32 undef, a.tmps.getD 33 undef, a.tmps.getD 34 undef, a.tmps.getD 35 undef, a.tmps.getD 36 undef, a.tmps.getD 37 undef, a.tmps.getD 38 undef, a.tmps.getD 39 undef, a.tmps.getD 40 undef, a.tmps.getD 41 undef, a.tmps.getD 42 undef, a.tmps.getD 43 undef, a.tmps.getD 44 undef, a.tmps.getD 45 undef, a.tmps.getD 46 undef, a.tmps.getD 47 undef, a.tmps.getD 48 undef, a.tmps.getD 49 undef, a.tmps.getD 50 undef, a.tmps.getD 51 undef, a.tmps.getD 52 undef, a.tmps.getD 53 undef, a.tmps.getD 54 undef, a.tmps.getD 55 undef, a.tmps.getD 56 undef, a.tmps.getD 57 undef, a.tmps.getD 58 undef, a.tmps.getD 59 undef, a.tmps.getD 60 undef, a.tmps.getD 61 undef, a.tmps.getD 62 undef, a.tmps.getD 63 undef, a.tmps.getD 64 undef, a.tmps.getD 65 undef, a.tmps.getD 66 undef, a.tmps.getD 67 undef, a.tmps.getD 68 undef, a.tmps.getD 69 undef, a.tmps.getD 70 undef, a.tmps.getD 71 undef, a.tmps.getD 72 undef, a.tmps.getD 73 undef, a.tmps.getD 74 undef, a.tmps.getD 75 undef, a.tmps.getD 76 undef, a.tmps.getD 77 undef, a.tmps.getD 78 undef, a.tmps.getD 79 undef, a.tmps.getD 80 undef, a.tmps.getD 81 undef, a.tmps.getD 82 undef, a.tmps.getD 83 undef, a.tmps.getD 84 undef, a.tmps.getD 85 undef, a.tmps.getD 86 undef, a.tmps.getD 87 undef, a.tmps.getD 88 undef, a.tmps.getD 89 undef, a.tmps.getD 90 undef, a.tmps.getD 91 undef, a.tmps.getD 92 undef, a.tmps.getD 93 undef, a.tmps.getD 94 undef, a.tmps.getD 95 undef, a.tmps.getD 96 undef, a.tmps.getD 97 undef, a.tmps.getD 98 undef, a.tmps.getD 99 undef, a.tmps.getD 100 undef, a.tmps.getD 101 undef, a.tmps.getD 102 undef, a.tmps.getD 103 undef, a.tmps.getD 104 undef, a.tmps.getD 105 undef, a.tmps.getD 106 undef, a.tmps.getD 107 undef, a.tmps.getD 108 undef, a.tmps.getD 109 undef, a.tmps.getD 110 undef, a.tmps.getD 111 undef, a.tmps.getD 112 undef, a.tmps.getD 113 undef, a.tmps.getD 114 undef, a.tmps.getD 115 undef, a.tmps.getD 116 undef, a.tmps.getD 117 undef, a.tmps.getD 118 undef, a.tmps.getD 119 undef, a.tmps.getD 120 undef, a.tmps.getD 121 undef, a.tmps.getD 122 undef, a.tmps.getD 123 undef, a.tmps.getD 124 undef, a.tmps.getD 125 undef, a.tmps.getD 126 undef, a.tmps.getD 127 undef, a.tmps.getD 128 undef, a.tmps.getD 129 undef, a.tmps.getD 130 undef, a.tmps.getD 131 undef, a.tmps.getD 132 undef, a.tmps.getD 133 undef, a.tmps.getD 134 undef, a.tmps.getD 135 undef, a.tmps.getD 136 undef, a.tmps.getD 137 undef, a.tmps.getD 138 undef, a.tmps.getD 139 undef, a.tmps.getD 140 undef, a.tmps.getD 141 undef, a.tmps.getD 142 undef, a.tmps.getD 143 undef, a.tmps.getD 144 undef, a.tmps.getD 145 undef, a.tmps.getD 146 undef, a.tmps.getD 147 undef, a.tmps.getD 148 undef, a.tmps.getD 149 undef, a.tmps.getD 150 undef, a.tmps.getD 151 undef, a.tmps.getD 152 undef, a.tmps.getD 153 undef, a.tmps.getD 154 undef, a.tmps.getD 155 undef, a.tmps.getD 156 undef, a.tmps.getD 157 undef, a.tmps.getD 158 undef, a.tmps.getD 159 undef, a.tmps.getD 160 undef, a.tmps.getD 161 undef, a.tmps.getD 162 undef, a.tmps.getD 163 undef, a.tmps.getD 164 undef, a.tmps.getD 165 undef, a.tmps.getD 166 undef, a.tmps.getD 167 undef, a.tmps.getD 168 undef, a.tmps.getD 169 undef, a.tmps.getD 170 undef, a.tmps.getD 171 undef, a.tmps.getD 172 undef, a.tmps.getD 173 undef, a.tmps.getD 174 undef, a.tmps.getD 175 undef, a.tmps.getD 176 undef, a.tmps.getD 177 undef, a.tmps.getD 178 undef, a.tmps.getD 179 undef, a.tmps.getD 180 undef, a.tmps.getD 181 undef, a.tmps.getD 182 undef, a.tmps.getD 183 undef, a.tmps.getD 184 undef, a.tmps.getD 185 undef], []⟩) : E2 s av bv abv dv a := ⟨fun k => a.tmps.getD k undef, ha⟩

set_option maxRecDepth 100000 in
set_option maxHeartbeats 16000000 in
theorem sumsLaw_any (s : ByteArray) (a b : List Ev) (pa pb : Option Addr) (ca cb : Nat) (w : World) (ha : EvsAt w pa a) (hb : EvsAt w pb b) (hla : a.length ≤ 1048576) (hlb : b.length ≤ 1048576) (htab : Tab w) :
    Calls Tryd.prog 6 #[.string s, .slice pa a.length ca, .slice pb b.length cb] w fun r w' => r = .returned (.bool true) ∧ Below w.heap.size w w' := by
  have HA0 : Hid (EvsAt w pa a) := ha
  have HB0 : Hid (EvsAt w pb b) := hb
  have HZ0 : Hid (Below w.heap.size w w) := Below.refl _ _
  have HTAB : Hid (Tab w) := htab
  clear ha hb htab
  go_enter Tryd.func6, Tryd.ntmps6
  refine wp_seq_o (fun K QQ hK hQ => ?_)
  have HK4 : Hid _ := hK
  clear hK hQ
  go_wp2_with fail
  refine HK4.out _ _ ?_
  clear HK4 K
  refine wp_seq_o (fun K QQ hK hQ => ?_)
  have HK4 : Hid _ := hK
  clear hK hQ
  go_wp2_with fail
  refine (examples_any _ HTAB.out).mono ?_
  rintro _ w1 ⟨rfl, b1⟩
  have HZ1 : Hid (Below w.heap.size w w1) := HZ0.out.trans (b1.mono HZ0.out.size)
  go_wp2_with fail
  refine HK4.out _ _ ?_
  clear HK4 K
  clear b1
  refine wp_seq_o (fun K QQ hK hQ => ?_)
  have HK4 : Hid _ := hK
  clear hK hQ
  have hz1 := HZ1.out.size
  go_wp2_with (at_builtin; first | (refine wpList_append_evs rfl _ _ rfl w.heap.size (.slice none 0 0) [] rfl (World.ownsRow_nil _ _ _ _) a pa ca rfl (HA0.out.below HZ1.out (Nat.le_refl _)) (by simp; omega) hz1 ?_; intro v1 w2 ho1 hg1; rw [List.nil_append] at ho1; have HO1 : Hid (w2.ownsRow w.heap.size 33 3 v1 a.length (evCells a)) := ho1; have HZ2 : Hid (Below w.heap.size w w2) := Below.grown HZ1.out hg1 hz1 (fun j hj => by simp [Value.ownBlock] at hj); have hz2' := HZ2.out.size; clear ho1 hg1) | (refine wpList_append_evs rfl _ _ rfl w.heap.size v1 a rfl HO1.out b pb cb rfl (HB0.out.below HZ2.out (Nat.le_refl _)) (by omega) hz2' ?_; intro v2 w3 ho2 hg2; have HO2 : Hid (w3.ownsRow w.heap.size 33 3 v2 (a ++ b).length (evCells (a ++ b))) := ho2; have HZ3 : Hid (Below w.heap.size w w3) := Below.grown HZ2.out hg2 hz2' (fun j hj => (HO1.out.lt j hj).1); clear ho2 hg2))
  refine HK4.out _ _ ?_
  clear HK4 K
  have HAL : Hid ((a ++ b).length = a.length + b.length) := List.length_append
  have HTA : Hid (∀ i, (tL s (a ++ b)).getD i 0 = (tL s a).getD i 0 + (tL s b).getD i 0) := tL_app s a b
  obtain ⟨ab, hab⟩ : ∃ x, a ++ b = x := ⟨_, rfl⟩
  have HABE : Hid (a ++ b = ab) := hab
  rw [hab] at HO2 HAL HTA
  clear hab
  obtain ⟨p2, c2, rfl, hc2, hab⟩ := evs_own HO2.out
  have HAB3 : Hid (EvsAt w3 p2 ab) := hab
  clear hab HO1 HO2 hz1 hz2' HZ1 HZ2
  refine wp_seq_o (fun K QQ hK hQ => ?_)
  have HK4 : Hid _ := hK
  clear hK hQ
  go_wp2_with fail
  refine (lines_all s a pa ca w3 (HA0.out.below HZ3.out (Nat.le_refl _)) (by omega)).mono ?_
  rintro _ w4 ⟨q1, rfl, b4, r1, m1⟩
  have HZ4 : Hid (Below w.heap.size w w4) := HZ3.out.trans (b4.mono HZ3.out.size)
  have HAB4 : Hid (EvsAt w4 p2 ab) := HAB3.out.below b4 (Nat.le_refl _)
  have HR14 : Hid (RowI w4 q1 (tL s a)) := r1
  have HM1 : Hid (∀ x ∈ tL s a, 0 ≤ x ∧ x ≤ (a.length : Int)) := m1
  clear b4 r1 m1 HAB3 HZ3
  go_wp2_with fail
  refine HK4.out _ _ ?_
  clear HK4 K
  refine wp_seq_o (fun K QQ hK hQ => ?_)
  have HK4 : Hid _ := hK
  clear hK hQ
  go_wp2_with fail
  refine (lines_all s b pb cb w4 (HB0.out.below HZ4.out (Nat.le_refl _)) (by omega)).mono ?_
  rintro _ w5 ⟨q2, rfl, b5, r2, m2⟩
  have HZ5 : Hid (Below w.heap.size w w5) := HZ4.out.trans (b5.mono HZ4.out.size)
  have HAB5 : Hid (EvsAt w5 p2 ab) := HAB4.out.below b5 (Nat.le_refl _)
  have HR15 : Hid (RowI w5 q1 (tL s a)) := RowI.below HR14.out b5
  have HR25 : Hid (RowI w5 q2 (tL s b)) := r2
  have HM2 : Hid (∀ x ∈ tL s b, 0 ≤ x ∧ x ≤ (b.length : Int)) := m2
  clear b5 r2 m2 HAB4 HZ4 HR14
  go_wp2_with fail
  refine HK4.out _ _ ?_
  clear HK4 K
  refine wp_seq_o (fun K QQ hK hQ => ?_)
  have HK4 : Hid _ := hK
  clear hK hQ
  go_wp2_with fail
  refine (lines_all s ab p2 c2 w5 HAB5.out (by have := HAL.out; omega)).mono ?_
  rintro _ w6 ⟨q3, rfl, b6, r3, m3⟩
  have HZ6 : Hid (Below w.heap.size w w6) := HZ5.out.trans (b6.mono HZ5.out.size)
  have HAB : Hid (EvsAt w6 p2 ab) := HAB5.out.below b6 (Nat.le_refl _)
  have HR1 : Hid (RowI w6 q1 (tL s a)) := RowI.below HR15.out b6
  have HR2 : Hid (RowI w6 q2 (tL s b)) := RowI.below HR25.out b6
  have HR3 : Hid (RowI w6 q3 (tL s ab)) := r3
  clear b6 r3 m3 HAB5 HZ5 HR15 HR25
  go_wp2_with fail
  refine HK4.out _ _ ?_
  clear HK4 K
  have hnn := tN_le s
  have hl1 : Hid ((tL s a).length = tN s) := tL_len s a
  have hl2 : Hid ((tL s b).length = tN s) := tL_len s b
  have hl3 : Hid ((tL s ab).length = tN s) := tL_len s ab
  obtain ⟨n, hn⟩ : ∃ n, tN s = n := ⟨_, rfl⟩
  rw [hn] at hnn hl1 hl2 hl3 ⊢
  clear hn
  refine wp_seq_o (fun K QQ hK hQ => ?_)
  have HK4 : Hid _ := hK
  clear hK hQ
  refine wp_seq_o (fun K QQ hK hQ => ?_)
  have HK5 : Hid _ := hK
  clear hK hQ
  go_wp2_with fail
  refine HK5.out _ _ ?_
  clear HK5 K
  refine wp_cond_false rfl ?_
  refine wp_skip ?_
  refine HK4.out _ _ ?_
  clear HK4 K
  refine wp_seq_o (fun K0 Q0 hK0 hQ0 => ?_)
  have HK0 : Hid _ := hK0
  clear hK0 hQ0
  have tail : ∀ (x : Act) (W : World), E1 s (.slice pa a.length ca) (.slice pb b.length cb) (.slice p2 ab.length c2) x → Below w6.heap.size w6 W → K0 x W := by
    clear HR1 HR2 HR3 HM1 HM2 HTA hl1 hl2 hl3 hnn
    intro x W hx hW
    obtain ⟨u, rfl⟩ := hx
    refine HK0.out _ _ ?_
    clear HK0
    have HZW : Hid (Below w.heap.size w W) := HZ6.out.trans (hW.mono HZ6.out.size)
    have HABW : Hid (EvsAt W p2 ab) := HAB.out.below hW (Nat.le_refl _)
    clear hW HAB HZ6
    refine wp_seq_o (fun K QQ hK hQ => ?_)
    have HK4 : Hid _ := hK
    clear hK hQ
    go_wp2_with fail
    refine (differ_any a b pa pb ca cb W (HA0.out.below HZW.out (Nat.le_refl _)) (HB0.out.below HZW.out (Nat.le_refl _)) (by unfold maxLen; have := HAL.out; omega) (by unfold maxLen; have := HAL.out; omega)).mono ?_
    rintro _ W1 ⟨rfl, bW1⟩
    have HZW1 : Hid (Below w.heap.size w W1) := HZW.out.trans (bW1.mono HZW.out.size)
    have HABW1 : Hid (EvsAt W1 p2 ab) := HABW.out.below bW1 (Nat.le_refl _)
    clear bW1
    clear HABW HZW
    obtain ⟨d, hd⟩ : ∃ d, diff a b = d := ⟨_, rfl⟩
    rw [hd]
    have HDE : Hid (diff a b = d) := hd
    clear hd
    go_wp2_with fail
    refine HK4.out _ _ ?_
    clear HK4 K
    by_cases hcase : pre a b = a.length ∧ a.length = b.length
    · obtain ⟨hp, hlen⟩ := hcase
      obtain rfl : d = -1 := by have := HDE.out; unfold diff at this; rw [if_pos ⟨hp, hlen⟩] at this; exact this.symm
      have HSAME : Hid (∀ i, i < a.length → a[i]? = b[i]?) := fun i hi => pre_same a b i (by omega)
      have HLEN : Hid (a.length = b.length) := hlen
      rw [← hlen]
      clear hp hlen HDE
      have n1 : ¬ (a.length : Int) < -1 := by omega
      refine wp_seq_o (fun K QQ hK hQ => ?_)
      have HK4 : Hid _ := hK
      clear hK hQ
      refine wp_seq_o (fun K QQ hK hQ => ?_)
      have HK5 : Hid _ := hK
      clear hK hQ
      go_wp2_with fail
      refine HK5.out _ _ ?_
      clear HK5 K
      refine wp_cond_false rfl ?_
      refine wp_skip ?_
      refine HK4.out _ _ ?_
      clear HK4 K
      refine wp_seq_o (fun K0 Q0 hK0 hQ0 => ?_)
      have HK0 : Hid _ := hK0
      clear hK0 hQ0
      have tail2 : ∀ (x : Act) (W : World), E2 s (.slice pa a.length ca) (.slice pb a.length cb) (.slice p2 ab.length c2) (.int .i64 (-1)) x → Below W1.heap.size W1 W → K0 x W := by
        intro x W2 hx hW
        obtain ⟨u, rfl⟩ := hx
        refine HK0.out _ _ ?_
        clear HK0
        have HZW2 : Hid (Below w.heap.size w W2) := HZW1.out.trans (hW.mono HZW1.out.size)
        have HABW2 : Hid (EvsAt W2 p2 ab) := HABW1.out.below hW (Nat.le_refl _)
        clear hW
        refine wp_seq_o (fun K QQ hK hQ => ?_)
        have HK6 : Hid _ := hK
        clear hK hQ
        refine wp_region_noPanic ?_
        refine wp_region_held (S := fun W => True) (by kernel_rfl) ?_
        obtain ⟨W3, hW3⟩ : ∃ W4, W4 = (W2).drew := ⟨_, rfl⟩
        have e4 : ({ W2 with drawn := (W2).drawn + 1 } : World) = W3 := hW3.symm
        rw [e4]
        have hB4 : Below (W2).heap.size (W2) W3 := by rw [hW3]; exact (Below.refl _ _).drew
        have hS : True := trivial
        have HW3 : Hid (W3 = (W2).drew) := hW3
        clear e4 hW3
        refine wpAnyH_take (i := 0) (v := .int .i64 (-1)) rfl (by kernel_rfl) (by kernel_rfl) (by kernel_rfl) (fun _ _ _ h => h) (Or.inl ⟨by rfl, ?r⟩) hS ?_
        case r => intro W hW; simp [go_sem, execOp, Act.eval]
        simp only [List.getElem_toArray, List.getElem_cons_zero, Act.put, List.setIfInBounds_toArray, List.set_cons_succ, List.set_cons_zero]
        refine wpAnyH_take (i := 1) (v := .bool true) rfl (by kernel_rfl) (by kernel_rfl) (by kernel_rfl) (fun _ _ _ h => h) (Or.inl ⟨by rfl, ?r⟩) hS ?_
        case r => intro W hW; simp [go_sem, execOp, Act.eval]
        simp only [List.getElem_toArray, List.getElem_cons_zero, List.getElem_cons_succ, Act.put, List.setIfInBounds_toArray, List.set_cons_succ, List.set_cons_zero]
        refine wpAnyH_take (i := 2) (v := .bool true) rfl (by kernel_rfl) (by kernel_rfl) (by kernel_rfl) (fun _ _ _ h => h) (Or.inl ⟨by rfl, ?r⟩) hS ?_
        case r => intro W hW; simp [go_sem, execOp, Act.eval]
        simp only [List.getElem_toArray, List.getElem_cons_zero, List.getElem_cons_succ, Act.put, List.setIfInBounds_toArray, List.set_cons_succ, List.set_cons_zero]
        refine wpAnyH_take (i := 3) (v := undef) rfl (by kernel_rfl) (by kernel_rfl) (by kernel_rfl) (fun _ _ _ h => h) (Or.inr ⟨rfl, rfl⟩) hS ?_
        simp only [List.getElem_toArray, List.getElem_cons_zero, List.getElem_cons_succ, Act.put, List.setIfInBounds_toArray, List.set_cons_succ, List.set_cons_zero]
        refine wpAnyH_take (i := 4) (v := undef) rfl (by kernel_rfl) (by kernel_rfl) (by kernel_rfl) (fun _ _ _ h => h) (Or.inr ⟨rfl, rfl⟩) hS ?_
        simp only [List.getElem_toArray, List.getElem_cons_zero, List.getElem_cons_succ, Act.put, List.setIfInBounds_toArray, List.set_cons_succ, List.set_cons_zero]
        refine wpAnyH_take (i := 5) (v := undef) rfl (by kernel_rfl) (by kernel_rfl) (by kernel_rfl) (fun _ _ _ h => h) (Or.inr ⟨rfl, rfl⟩) hS ?_
        simp only [List.getElem_toArray, List.getElem_cons_zero, List.getElem_cons_succ, Act.put, List.setIfInBounds_toArray, List.set_cons_succ, List.set_cons_zero]
        refine wpAnyH_take (i := 6) (v := undef) rfl (by kernel_rfl) (by kernel_rfl) (by kernel_rfl) (fun _ _ _ h => h) (Or.inr ⟨rfl, rfl⟩) hS ?_
        simp only [List.getElem_toArray, List.getElem_cons_zero, List.getElem_cons_succ, Act.put, List.setIfInBounds_toArray, List.set_cons_succ, List.set_cons_zero]
        refine wpAnyH_take (i := 7) (v := .bool true) rfl (by kernel_rfl) (by kernel_rfl) (by kernel_rfl) (fun _ _ _ h => h) (Or.inl ⟨by rfl, ?r⟩) hS ?_
        case r => intro W hW; simp [go_sem, execOp, Act.eval]
        simp only [List.getElem_toArray, List.getElem_cons_zero, List.getElem_cons_succ, Act.put, List.setIfInBounds_toArray, List.set_cons_succ, List.set_cons_zero]
        refine wpAnyH_take (i := 8) (v := .bool true) rfl (by kernel_rfl) (by kernel_rfl) (by kernel_rfl) (fun _ _ _ h => h) (Or.inl ⟨by rfl, ?r⟩) hS ?_
        case r => intro W hW; simp [go_sem, execOp, Act.eval]
        simp only [List.getElem_toArray, List.getElem_cons_zero, List.getElem_cons_succ, Act.put, List.setIfInBounds_toArray, List.set_cons_succ, List.set_cons_zero]
        refine wpAnyH_take (i := 9) (v := undef) rfl (by kernel_rfl) (by kernel_rfl) (by kernel_rfl) (fun _ _ _ h => h) (Or.inr ⟨rfl, rfl⟩) hS ?_
        simp only [List.getElem_toArray, List.getElem_cons_zero, List.getElem_cons_succ, Act.put, List.setIfInBounds_toArray, List.set_cons_succ, List.set_cons_zero]
        refine wpAnyH_take (i := 10) (v := undef) rfl (by kernel_rfl) (by kernel_rfl) (by kernel_rfl) (fun _ _ _ h => h) (Or.inr ⟨rfl, rfl⟩) hS ?_
        simp only [List.getElem_toArray, List.getElem_cons_zero, List.getElem_cons_succ, Act.put, List.setIfInBounds_toArray, List.set_cons_succ, List.set_cons_zero]
        refine wpAnyH_take (i := 11) (v := undef) rfl (by kernel_rfl) (by kernel_rfl) (by kernel_rfl) (fun _ _ _ h => h) (Or.inr ⟨rfl, rfl⟩) hS ?_
        simp only [List.getElem_toArray, List.getElem_cons_zero, List.getElem_cons_succ, Act.put, List.setIfInBounds_toArray, List.set_cons_succ, List.set_cons_zero]
        refine wpAnyH_take (i := 12) (v := undef) rfl (by kernel_rfl) (by kernel_rfl) (by kernel_rfl) (fun _ _ _ h => h) (Or.inr ⟨rfl, rfl⟩) hS ?_
        simp only [List.getElem_toArray, List.getElem_cons_zero, List.getElem_cons_succ, Act.put, List.setIfInBounds_toArray, List.set_cons_succ, List.set_cons_zero]
        refine wpAnyH_take (i := 13) (v := .bool true) rfl (by kernel_rfl) (by kernel_rfl) (by kernel_rfl) (fun _ _ _ h => h) (Or.inl ⟨by rfl, ?r⟩) hS ?_
        case r => intro W hW; simp [go_sem, execOp, Act.eval]
        simp only [List.getElem_toArray, List.getElem_cons_zero, List.getElem_cons_succ, Act.put, List.setIfInBounds_toArray, List.set_cons_succ, List.set_cons_zero]
        refine wpAnyH_take (i := 14) (v := .bool true) rfl (by kernel_rfl) (by kernel_rfl) (by kernel_rfl) (fun _ _ _ h => h) (Or.inl ⟨by rfl, ?r⟩) hS ?_
        case r => intro W hW; simp [go_sem, execOp, Act.eval]
        simp only [List.getElem_toArray, List.getElem_cons_zero, List.getElem_cons_succ, Act.put, List.setIfInBounds_toArray, List.set_cons_succ, List.set_cons_zero]
        refine wpAnyH_take (i := 15) (v := undef) rfl (by kernel_rfl) (by kernel_rfl) (by kernel_rfl) (fun _ _ _ h => h) (Or.inr ⟨rfl, rfl⟩) hS ?_
        simp only [List.getElem_toArray, List.getElem_cons_zero, List.getElem_cons_succ, Act.put, List.setIfInBounds_toArray, List.set_cons_succ, List.set_cons_zero]
        refine wpAnyH_take (i := 16) (v := undef) rfl (by kernel_rfl) (by kernel_rfl) (by kernel_rfl) (fun _ _ _ h => h) (Or.inr ⟨rfl, rfl⟩) hS ?_
        simp only [List.getElem_toArray, List.getElem_cons_zero, List.getElem_cons_succ, Act.put, List.setIfInBounds_toArray, List.set_cons_succ, List.set_cons_zero]
        refine wpAnyH_take (i := 17) (v := undef) rfl (by kernel_rfl) (by kernel_rfl) (by kernel_rfl) (fun _ _ _ h => h) (Or.inr ⟨rfl, rfl⟩) hS ?_
        simp only [List.getElem_toArray, List.getElem_cons_zero, List.getElem_cons_succ, Act.put, List.setIfInBounds_toArray, List.set_cons_succ, List.set_cons_zero]
        refine wpAnyH_take (i := 18) (v := undef) rfl (by kernel_rfl) (by kernel_rfl) (by kernel_rfl) (fun _ _ _ h => h) (Or.inr ⟨rfl, rfl⟩) hS ?_
        simp only [List.getElem_toArray, List.getElem_cons_zero, List.getElem_cons_succ, Act.put, List.setIfInBounds_toArray, List.set_cons_succ, List.set_cons_zero]
        refine wpAnyH_take (i := 19) (v := undef) rfl (by kernel_rfl) (by kernel_rfl) (by kernel_rfl) (fun _ _ _ h => h) (Or.inr ⟨rfl, rfl⟩) hS ?_
        simp only [List.getElem_toArray, List.getElem_cons_zero, List.getElem_cons_succ, Act.put, List.setIfInBounds_toArray, List.set_cons_succ, List.set_cons_zero]
        refine wpAnyH_take (i := 20) (v := undef) rfl (by kernel_rfl) (by kernel_rfl) (by kernel_rfl) (fun _ _ _ h => h) (Or.inr ⟨rfl, rfl⟩) hS ?_
        simp only [List.getElem_toArray, List.getElem_cons_zero, List.getElem_cons_succ, Act.put, List.setIfInBounds_toArray, List.set_cons_succ, List.set_cons_zero]
        refine wpAnyH_take (i := 21) (v := undef) rfl (by kernel_rfl) (by kernel_rfl) (by kernel_rfl) (fun _ _ _ h => h) (Or.inr ⟨rfl, rfl⟩) hS ?_
        simp only [List.getElem_toArray, List.getElem_cons_zero, List.getElem_cons_succ, Act.put, List.setIfInBounds_toArray, List.set_cons_succ, List.set_cons_zero]
        refine wpAnyH_take (i := 22) (v := undef) rfl (by kernel_rfl) (by kernel_rfl) (by kernel_rfl) (fun _ _ _ h => h) (Or.inr ⟨rfl, rfl⟩) hS ?_
        simp only [List.getElem_toArray, List.getElem_cons_zero, List.getElem_cons_succ, Act.put, List.setIfInBounds_toArray, List.set_cons_succ, List.set_cons_zero]
        refine wpAnyH_take (i := 23) (v := undef) rfl (by kernel_rfl) (by kernel_rfl) (by kernel_rfl) (fun _ _ _ h => h) (Or.inr ⟨rfl, rfl⟩) hS ?_
        simp only [List.getElem_toArray, List.getElem_cons_zero, List.getElem_cons_succ, Act.put, List.setIfInBounds_toArray, List.set_cons_succ, List.set_cons_zero]
        refine wpAnyH_take (i := 24) (v := .bool true) rfl (by kernel_rfl) (by kernel_rfl) (by kernel_rfl) (fun _ _ _ h => h) (Or.inl ⟨by rfl, ?r⟩) hS ?_
        case r => intro W hW; simp [go_sem, execOp, Act.eval]
        simp only [List.getElem_toArray, List.getElem_cons_zero, List.getElem_cons_succ, Act.put, List.setIfInBounds_toArray, List.set_cons_succ, List.set_cons_zero]
        refine wpAnyH_take (i := 25) (v := .bool true) rfl (by kernel_rfl) (by kernel_rfl) (by kernel_rfl) (fun _ _ _ h => h) (Or.inl ⟨by rfl, ?r⟩) hS ?_
        case r => intro W hW; simp [go_sem, execOp, Act.eval]
        simp only [List.getElem_toArray, List.getElem_cons_zero, List.getElem_cons_succ, Act.put, List.setIfInBounds_toArray, List.set_cons_succ, List.set_cons_zero]
        refine wpAnyH_done (by kernel_rfl) ?_ _
        refine NoPanic.normal ?_
        try simp only [Act.put]
        have HZW3 : Hid (Below w.heap.size w W3) := HZW2.out.trans (hB4.mono HZW2.out.size)
        have HABW3 : Hid (EvsAt W3 p2 ab) := HABW2.out.below hB4 (Nat.le_refl _)
        clear hB4 hS
        refine HK6.out _ _ ?_
        clear HK6 K
        refine wp_seq_o (fun K QQ hK hQ => ?_)
        have HK6 : Hid _ := hK
        clear hK hQ
        go_wp2_with fail
        refine HK6.out _ _ ?_
        clear HK6 K
        refine wp_seq_o (fun K QQ hK hQ => ?_)
        have HK6 : Hid _ := hK
        clear hK hQ
        go_wp2_with fail
        refine HK6.out _ _ ?_
        clear HK6 K
        refine wp_seq_o (fun K QQ hK hQ => ?_)
        have HK6 : Hid _ := hK
        clear hK hQ
        refine wp_seq_o (fun K QQ hK hQ => ?_)
        have HK7 : Hid _ := hK
        clear hK hQ
        by_cases hbl : 0 < a.length
        · have k1 : (0 : Int) < a.length := by omega
          go_wp2_with fail
          refine HK7.out _ _ ?_
          clear HK7 K
          refine wp_cond_true rfl ?_
          go_wp2_with fail
          refine HK6.out _ _ ?_
          clear HK6 K
          have HD2 : Hid (diff a ab = (a.length : Int)) := (show diff a ab = (a.length : Int) by rw [← HABE.out, diff_app, if_pos (by have := HLEN.out; omega)])
          refine wp_seq_o (fun K QQ hK hQ => ?_)
          have HK6 : Hid _ := hK
          clear hK hQ
          go_wp2_with fail
          refine (differ_any a a _ _ _ _ W3 (HA0.out.below HZW3.out (Nat.le_refl _)) (HA0.out.below HZW3.out (Nat.le_refl _)) (by unfold maxLen; have := HAL.out; omega) (by unfold maxLen; have := HAL.out; omega)).mono ?_
          rintro _ W4 ⟨rfl, bW4⟩
          rw [diff_self]
          have HZW4 : Hid (Below w.heap.size w W4) := HZW3.out.trans (bW4.mono HZW3.out.size)
          have HABW4 : Hid (EvsAt W4 p2 ab) := HABW3.out.below bW4 (Nat.le_refl _)
          clear bW4
          go_wp2_with fail
          refine (differ_any ab ab _ _ _ _ W4 HABW4.out HABW4.out (by unfold maxLen; have := HAL.out; omega) (by unfold maxLen; have := HAL.out; omega)).mono ?_
          rintro _ W5 ⟨rfl, bW5⟩
          rw [diff_self]
          have HZW5 : Hid (Below w.heap.size w W5) := HZW4.out.trans (bW5.mono HZW4.out.size)
          have HABW5 : Hid (EvsAt W5 p2 ab) := HABW4.out.below bW5 (Nat.le_refl _)
          clear bW5
          go_wp2_with fail
          refine (differ_any a ab _ _ _ _ W5 (HA0.out.below HZW5.out (Nat.le_refl _)) HABW5.out (by unfold maxLen; have := HAL.out; omega) (by unfold maxLen; have := HAL.out; omega)).mono ?_
          rintro _ W6 ⟨rfl, bW6⟩
          rw [HD2.out]
          have HZW6 : Hid (Below w.heap.size w W6) := HZW5.out.trans (bW6.mono HZW5.out.size)
          have HABW6 : Hid (EvsAt W6 p2 ab) := HABW5.out.below bW6 (Nat.le_refl _)
          clear bW6
          go_wp2_with fail
          refine HK6.out _ _ ?_
          clear HK6 K
          go_wp2_with fail
          go_ret
          exact ⟨rfl, HZW6.out⟩
        · have k1 : ¬ (0 : Int) < a.length := by omega
          go_wp2_with fail
          refine HK7.out _ _ ?_
          clear HK7 K
          refine wp_cond_false rfl ?_
          refine wp_skip ?_
          refine HK6.out _ _ ?_
          clear HK6 K
          have HD2 : Hid (diff a ab = (-1)) := (show diff a ab = (-1) by rw [← HABE.out, diff_app, if_neg (by have := HLEN.out; omega)])
          refine wp_seq_o (fun K QQ hK hQ => ?_)
          have HK6 : Hid _ := hK
          clear hK hQ
          go_wp2_with fail
          refine (differ_any a a _ _ _ _ W3 (HA0.out.below HZW3.out (Nat.le_refl _)) (HA0.out.below HZW3.out (Nat.le_refl _)) (by unfold maxLen; have := HAL.out; omega) (by unfold maxLen; have := HAL.out; omega)).mono ?_
          rintro _ W4 ⟨rfl, bW4⟩
          rw [diff_self]
          have HZW4 : Hid (Below w.heap.size w W4) := HZW3.out.trans (bW4.mono HZW3.out.size)
          have HABW4 : Hid (EvsAt W4 p2 ab) := HABW3.out.below bW4 (Nat.le_refl _)
          clear bW4
          go_wp2_with fail
          refine (differ_any ab ab _ _ _ _ W4 HABW4.out HABW4.out (by unfold maxLen; have := HAL.out; omega) (by unfold maxLen; have := HAL.out; omega)).mono ?_
          rintro _ W5 ⟨rfl, bW5⟩
          rw [diff_self]
          have HZW5 : Hid (Below w.heap.size w W5) := HZW4.out.trans (bW5.mono HZW4.out.size)
          have HABW5 : Hid (EvsAt W5 p2 ab) := HABW4.out.below bW5 (Nat.le_refl _)
          clear bW5
          go_wp2_with fail
          refine (differ_any a ab _ _ _ _ W5 (HA0.out.below HZW5.out (Nat.le_refl _)) HABW5.out (by unfold maxLen; have := HAL.out; omega) (by unfold maxLen; have := HAL.out; omega)).mono ?_
          rintro _ W6 ⟨rfl, bW6⟩
          rw [HD2.out]
          have HZW6 : Hid (Below w.heap.size w W6) := HZW5.out.trans (bW6.mono HZW5.out.size)
          have HABW6 : Hid (EvsAt W6 p2 ab) := HABW5.out.below bW6 (Nat.le_refl _)
          clear bW6
          go_wp2_with fail
          refine HK6.out _ _ ?_
          clear HK6 K
          go_wp2_with fail
          go_ret
          exact ⟨rfl, HZW6.out⟩
      have HT2 : Hid _ := tail2
      clear tail2 HK0
      refine wp_seq_o (fun K QQ hK hQ => ?_)
      have HK4 : Hid _ := hK
      clear hK hQ
      go_wp2_with fail
      refine HK4.out _ _ ?_
      clear HK4 K
      refine wp_block ?_
      refine wp_loop (L2 s (.slice pa a.length ca) (.slice pb a.length cb) (.slice p2 ab.length c2) (.int .i64 (-1)) a.length W1) (m14 a.length) (l2_close _ _ _ _ _ _ _ _ _ ⟨0, rfl, Nat.zero_le _, Below.refl _ _⟩ rfl) (fun x0 wr hL => ?_)
      obtain ⟨u, i, hi, hx0⟩ := hL
      subst hx0
      obtain ⟨k, rfl, hk, hb⟩ := hi
      have HBr : Hid (Below W1.heap.size W1 wr) := hb
      have HZr : Hid (Below w.heap.size w wr) := HZW1.out.trans (hb.mono HZW1.out.size)
      clear hb
      by_cases hlt : k < a.length
      · skip
        have i1 : (k : Int) < a.length := by omega
        have j1 : (k : Int) < a.length := by omega
        have i2 : ¬ (k : Int) < -1 := by omega
        obtain ⟨ba, fa, rfl, _, hca⟩ := (HA0.out.below HZr.out (Nat.le_refl _)).nonempty (by omega)
        obtain ⟨bb, fb, rfl, _, hcb⟩ := (HB0.out.below HZr.out (Nat.le_refl _)).nonempty (by have := HLEN.out; omega)
        obtain ⟨c0, c1, c2'⟩ := hca k (by omega)
        obtain ⟨d0, d1, d2⟩ := hcb k (by have := HLEN.out; omega)
        have hse := HSAME.out k hlt
        rw [List.getElem?_eq_getElem (show k < a.length by omega), List.getElem?_eq_getElem (show k < b.length by have := HLEN.out; omega)] at hse
        have hse := Option.some.inj hse
        rw [← hse] at d0 d1 d2
        generalize a[k] = e at c0 c1 c2' d0 d1 d2
        have hq : ∀ W, (Op.equalIn 10000 33 (.agg #[.int .i64 e.k, .int .i64 e.a, .string e.t]) (.agg #[.int .i64 e.k, .int .i64 e.a, .string e.t])).run Tryd.prog W = .ok true W := fun W => by rw [eqEv e e W, Ev.same_iff.2 rfl]
        clear hse hca hcb
        refine wp_seq_o (fun K6 Q6 hK6 hQ6 => ?_)
        refine wp_seq_o (fun K7 Q7 hK7 hQ7 => ?_)
        have HK7 : Hid _ := hK7
        have HK6 : Hid _ := hK6
        have HQ6 : Hid _ := hQ6
        clear hK6 hK7 hQ6 hQ7
        go_wp2_with fail
        refine HK7.out _ _ ?_
        clear HK7 K7 Q7
        refine wp_cond_true rfl ?_
        refine wp_skip ?_
        refine HK6.out _ _ ?_
        clear HK6 HQ6 K6 Q6
        refine wp_seq_o (fun K QQ hK hQ => ?_)
        have HK2 : Hid _ := hK
        clear hK hQ
        refine wp_block ?_
        refine wp_seq_o (fun K QQ hK hQ => ?_)
        have HK5 : Hid _ := hK
        clear hK hQ
        go_quiet (fail)
        obtain ⟨V, hV⟩ : ∃ W, W = wr.drewN nq := ⟨_, rfl⟩
        rw [← hV]
        have HV : Hid (Below W1.heap.size W1 V) := by rw [hV]; exact below_drewN HBr.out _
        clear hV c0 c1 c2' d0 d1 d2 hq
        refine HK5.out _ _ ?_
        clear HK5 K
        refine wp_cond_false rfl ?_
        refine wp_skip ?_
        refine HK2.out _ _ ?_
        clear HK2 K
        refine wp_then_o (fun K QQ hK hQ => ?_)
        have HK3 : Hid _ := hK
        clear hK hQ
        go_wp2_with fail
        refine HK3.out _ _ ?_
        clear HK3 K
        exact ⟨l2_close _ _ _ _ _ _ _ _ _ ⟨k + 1, rfl, by omega, HV.out⟩ rfl, by simp [m14, intOf]; omega⟩
      · skip
        obtain rfl : k = a.length := by omega
        have i1 : ¬ (a.length : Int) < a.length := by omega
        refine wp_seq_o (fun K6 Q6 hK6 hQ6 => ?_)
        refine wp_seq_o (fun K7 Q7 hK7 hQ7 => ?_)
        have HK7 : Hid _ := hK7
        have HK6 : Hid _ := hK6
        have HQ6 : Hid _ := hQ6
        clear hK6 hK7 hQ6 hQ7
        go_wp2_with fail
        refine HK7.out _ _ ?_
        clear HK7 K7 Q7
        refine wp_cond_false rfl ?_
        refine wp_exit ?_
        show Q6 (.exit 2) _ _
        rw [HQ6.out]
        refine exit_in ?_
        exact HT2.out _ _ (e2_close _ _ _ _ _ _ rfl) HBr.out
    · obtain ⟨p, hp⟩ : ∃ p, pre a b = p := ⟨_, rfl⟩
      obtain rfl : d = (p : Int) := by have := HDE.out; unfold diff at this; rw [if_neg hcase, hp] at this; exact this.symm
      have hpl := pre_le a b
      rw [hp] at hpl hcase
      obtain ⟨hpl1, hpl2⟩ := hpl
      have HSAME : Hid (∀ i, i < p → a[i]? = b[i]?) := fun i hi => pre_same a b i (by omega)
      have HSTOP : Hid (∀ (h1 : p < a.length) (h2 : p < b.length), a[p].same b[p] = false) := fun h1 h2 => by
        subst hp
        exact pre_stop a b h1 h2
      have HNE : Hid (¬ (p = a.length ∧ a.length = b.length)) := hcase
      have HLEN : Hid True := trivial
      clear hp hcase HDE
      have n0 : ¬ (p : Int) < -1 := by omega
      have n1 : ¬ (a.length : Int) < p := by omega
      have n2 : ¬ (b.length : Int) < p := by omega
      have n3 : ((p : Int) == -1) = false := by first | (simp; done) | (simp; omega)
      have n4 : ¬ (p : Int) = -1 := by omega
      refine wp_seq_o (fun K QQ hK hQ => ?_)
      have HK4 : Hid _ := hK
      clear hK hQ
      refine wp_seq_o (fun K QQ hK hQ => ?_)
      have HK5 : Hid _ := hK
      clear hK hQ
      go_wp2_with fail
      refine HK5.out _ _ ?_
      clear HK5 K
      refine wp_cond_false rfl ?_
      refine wp_skip ?_
      refine HK4.out _ _ ?_
      clear HK4 K
      refine wp_seq_o (fun K0 Q0 hK0 hQ0 => ?_)
      have HK0 : Hid _ := hK0
      clear hK0 hQ0
      have tail2 : ∀ (x : Act) (W : World), E2 s (.slice pa a.length ca) (.slice pb b.length cb) (.slice p2 ab.length c2) (.int .i64 (p : Int)) x → Below W1.heap.size W1 W → K0 x W := by
        intro x W2 hx hW
        obtain ⟨u, rfl⟩ := hx
        refine HK0.out _ _ ?_
        clear HK0
        have HZW2 : Hid (Below w.heap.size w W2) := HZW1.out.trans (hW.mono HZW1.out.size)
        have HABW2 : Hid (EvsAt W2 p2 ab) := HABW1.out.below hW (Nat.le_refl _)
        clear hW
        have f1 : ((p : Int) == -1) = false := by first | (simp; done) | (simp; omega)
        have f2 : ¬ (p : Int) = -1 := by omega
        have f3 : decide ((p : Int) = -1) = false := by first | (simp; done) | (simp; omega)
        by_cases hpa : p = a.length
        · subst hpa
          have g1 : ¬ (a.length : Int) < a.length := by omega
          have g2 : (a.length : Int) < b.length := by have := HNE.out; omega
          refine wp_seq_o (fun K QQ hK hQ => ?_)
          have HK6 : Hid _ := hK
          clear hK hQ
          refine wp_region_noPanic ?_
          refine wp_region_held (S := fun W => True) (by kernel_rfl) ?_
          obtain ⟨W3, hW3⟩ : ∃ W4, W4 = (W2).drew := ⟨_, rfl⟩
          have e4 : ({ W2 with drawn := (W2).drawn + 1 } : World) = W3 := hW3.symm
          rw [e4]
          have hB4 : Below (W2).heap.size (W2) W3 := by rw [hW3]; exact (Below.refl _ _).drew
          have hS : True := trivial
          have HW3 : Hid (W3 = (W2).drew) := hW3
          clear e4 hW3
          refine wpAnyH_take (i := 0) (v := .int .i64 (a.length : Int)) rfl (by kernel_rfl) (by kernel_rfl) (by kernel_rfl) (fun _ _ _ h => h) (Or.inl ⟨by rfl, ?r⟩) hS ?_
          case r => intro W hW; simp [go_sem, execOp, Act.eval]
          simp only [List.getElem_toArray, List.getElem_cons_zero, Act.put, List.setIfInBounds_toArray, List.set_cons_succ, List.set_cons_zero]
          refine wpAnyH_take (i := 1) (v := .bool false) rfl (by kernel_rfl) (by kernel_rfl) (by kernel_rfl) (fun _ _ _ h => h) (Or.inl ⟨by rfl, ?r⟩) hS ?_
          case r => intro W hW; simp [go_sem, execOp, Act.eval, f2]
          simp only [List.getElem_toArray, List.getElem_cons_zero, List.getElem_cons_succ, Act.put, List.setIfInBounds_toArray, List.set_cons_succ, List.set_cons_zero]
          refine wpAnyH_take (i := 2) (v := .bool false) rfl (by kernel_rfl) (by kernel_rfl) (by kernel_rfl) (fun _ _ _ h => h) (Or.inl ⟨by rfl, ?r⟩) hS ?_
          case r => intro W hW; simp [go_sem, execOp, Act.eval]
          simp only [List.getElem_toArray, List.getElem_cons_zero, List.getElem_cons_succ, Act.put, List.setIfInBounds_toArray, List.set_cons_succ, List.set_cons_zero]
          refine wpAnyH_take (i := 3) (v := .int .i64 (a.length : Int)) rfl (by kernel_rfl) (by kernel_rfl) (by kernel_rfl) (fun _ _ _ h => h) (Or.inl ⟨by rfl, ?r⟩) hS ?_
          case r => intro W hW; simp [go_sem, execOp, Act.eval]
          simp only [List.getElem_toArray, List.getElem_cons_zero, List.getElem_cons_succ, Act.put, List.setIfInBounds_toArray, List.set_cons_succ, List.set_cons_zero]
          refine wpAnyH_take (i := 4) (v := .slice pa a.length ca) rfl (by kernel_rfl) (by kernel_rfl) (by kernel_rfl) (fun _ _ _ h => h) (Or.inl ⟨by rfl, ?r⟩) hS ?_
          case r => intro W hW; simp [go_sem, execOp, Act.eval]
          simp only [List.getElem_toArray, List.getElem_cons_zero, List.getElem_cons_succ, Act.put, List.setIfInBounds_toArray, List.set_cons_succ, List.set_cons_zero]
          refine wpAnyH_take (i := 5) (v := .int .i64 (a.length : Int)) rfl (by kernel_rfl) (by kernel_rfl) (by kernel_rfl) (fun _ _ _ h => h) (Or.inl ⟨by rfl, ?r⟩) hS ?_
          case r => intro W hW; simp [go_sem, execOp, Act.eval]
          simp only [List.getElem_toArray, List.getElem_cons_zero, List.getElem_cons_succ, Act.put, List.setIfInBounds_toArray, List.set_cons_succ, List.set_cons_zero]
          refine wpAnyH_take (i := 6) (v := .bool true) rfl (by kernel_rfl) (by kernel_rfl) (by kernel_rfl) (fun _ _ _ h => h) (Or.inl ⟨by rfl, ?r⟩) hS ?_
          case r => intro W hW; simp [go_sem, execOp, Act.eval]
          simp only [List.getElem_toArray, List.getElem_cons_zero, List.getElem_cons_succ, Act.put, List.setIfInBounds_toArray, List.set_cons_succ, List.set_cons_zero]
          refine wpAnyH_take (i := 7) (v := .bool true) rfl (by kernel_rfl) (by kernel_rfl) (by kernel_rfl) (fun _ _ _ h => h) (Or.inl ⟨by rfl, ?r⟩) hS ?_
          case r => intro W hW; simp [go_sem, execOp, Act.eval]
          simp only [List.getElem_toArray, List.getElem_cons_zero, List.getElem_cons_succ, Act.put, List.setIfInBounds_toArray, List.set_cons_succ, List.set_cons_zero]
          refine wpAnyH_take (i := 8) (v := .bool true) rfl (by kernel_rfl) (by kernel_rfl) (by kernel_rfl) (fun _ _ _ h => h) (Or.inl ⟨by rfl, ?r⟩) hS ?_
          case r => intro W hW; simp [go_sem, execOp, Act.eval]
          simp only [List.getElem_toArray, List.getElem_cons_zero, List.getElem_cons_succ, Act.put, List.setIfInBounds_toArray, List.set_cons_succ, List.set_cons_zero]
          refine wpAnyH_take (i := 9) (v := undef) rfl (by kernel_rfl) (by kernel_rfl) (by kernel_rfl) (fun _ _ _ h => h) (Or.inr ⟨rfl, rfl⟩) hS ?_
          simp only [List.getElem_toArray, List.getElem_cons_zero, List.getElem_cons_succ, Act.put, List.setIfInBounds_toArray, List.set_cons_succ, List.set_cons_zero]
          refine wpAnyH_take (i := 10) (v := undef) rfl (by kernel_rfl) (by kernel_rfl) (by kernel_rfl) (fun _ _ _ h => h) (Or.inr ⟨rfl, rfl⟩) hS ?_
          simp only [List.getElem_toArray, List.getElem_cons_zero, List.getElem_cons_succ, Act.put, List.setIfInBounds_toArray, List.set_cons_succ, List.set_cons_zero]
          refine wpAnyH_take (i := 11) (v := undef) rfl (by kernel_rfl) (by kernel_rfl) (by kernel_rfl) (fun _ _ _ h => h) (Or.inr ⟨rfl, rfl⟩) hS ?_
          simp only [List.getElem_toArray, List.getElem_cons_zero, List.getElem_cons_succ, Act.put, List.setIfInBounds_toArray, List.set_cons_succ, List.set_cons_zero]
          refine wpAnyH_take (i := 12) (v := undef) rfl (by kernel_rfl) (by kernel_rfl) (by kernel_rfl) (fun _ _ _ h => h) (Or.inr ⟨rfl, rfl⟩) hS ?_
          simp only [List.getElem_toArray, List.getElem_cons_zero, List.getElem_cons_succ, Act.put, List.setIfInBounds_toArray, List.set_cons_succ, List.set_cons_zero]
          refine wpAnyH_take (i := 13) (v := .bool true) rfl (by kernel_rfl) (by kernel_rfl) (by kernel_rfl) (fun _ _ _ h => h) (Or.inl ⟨by rfl, ?r⟩) hS ?_
          case r => intro W hW; simp [go_sem, execOp, Act.eval]
          simp only [List.getElem_toArray, List.getElem_cons_zero, List.getElem_cons_succ, Act.put, List.setIfInBounds_toArray, List.set_cons_succ, List.set_cons_zero]
          refine wpAnyH_take (i := 14) (v := .bool true) rfl (by kernel_rfl) (by kernel_rfl) (by kernel_rfl) (fun _ _ _ h => h) (Or.inl ⟨by rfl, ?r⟩) hS ?_
          case r => intro W hW; simp [go_sem, execOp, Act.eval]
          simp only [List.getElem_toArray, List.getElem_cons_zero, List.getElem_cons_succ, Act.put, List.setIfInBounds_toArray, List.set_cons_succ, List.set_cons_zero]
          refine wpAnyH_take (i := 15) (v := undef) rfl (by kernel_rfl) (by kernel_rfl) (by kernel_rfl) (fun _ _ _ h => h) (Or.inr ⟨rfl, rfl⟩) hS ?_
          simp only [List.getElem_toArray, List.getElem_cons_zero, List.getElem_cons_succ, Act.put, List.setIfInBounds_toArray, List.set_cons_succ, List.set_cons_zero]
          refine wpAnyH_take (i := 16) (v := undef) rfl (by kernel_rfl) (by kernel_rfl) (by kernel_rfl) (fun _ _ _ h => h) (Or.inr ⟨rfl, rfl⟩) hS ?_
          simp only [List.getElem_toArray, List.getElem_cons_zero, List.getElem_cons_succ, Act.put, List.setIfInBounds_toArray, List.set_cons_succ, List.set_cons_zero]
          refine wpAnyH_take (i := 17) (v := undef) rfl (by kernel_rfl) (by kernel_rfl) (by kernel_rfl) (fun _ _ _ h => h) (Or.inr ⟨rfl, rfl⟩) hS ?_
          simp only [List.getElem_toArray, List.getElem_cons_zero, List.getElem_cons_succ, Act.put, List.setIfInBounds_toArray, List.set_cons_succ, List.set_cons_zero]
          refine wpAnyH_take (i := 18) (v := undef) rfl (by kernel_rfl) (by kernel_rfl) (by kernel_rfl) (fun _ _ _ h => h) (Or.inr ⟨rfl, rfl⟩) hS ?_
          simp only [List.getElem_toArray, List.getElem_cons_zero, List.getElem_cons_succ, Act.put, List.setIfInBounds_toArray, List.set_cons_succ, List.set_cons_zero]
          refine wpAnyH_take (i := 19) (v := undef) rfl (by kernel_rfl) (by kernel_rfl) (by kernel_rfl) (fun _ _ _ h => h) (Or.inr ⟨rfl, rfl⟩) hS ?_
          simp only [List.getElem_toArray, List.getElem_cons_zero, List.getElem_cons_succ, Act.put, List.setIfInBounds_toArray, List.set_cons_succ, List.set_cons_zero]
          refine wpAnyH_take (i := 20) (v := undef) rfl (by kernel_rfl) (by kernel_rfl) (by kernel_rfl) (fun _ _ _ h => h) (Or.inr ⟨rfl, rfl⟩) hS ?_
          simp only [List.getElem_toArray, List.getElem_cons_zero, List.getElem_cons_succ, Act.put, List.setIfInBounds_toArray, List.set_cons_succ, List.set_cons_zero]
          refine wpAnyH_take (i := 21) (v := undef) rfl (by kernel_rfl) (by kernel_rfl) (by kernel_rfl) (fun _ _ _ h => h) (Or.inr ⟨rfl, rfl⟩) hS ?_
          simp only [List.getElem_toArray, List.getElem_cons_zero, List.getElem_cons_succ, Act.put, List.setIfInBounds_toArray, List.set_cons_succ, List.set_cons_zero]
          refine wpAnyH_take (i := 22) (v := undef) rfl (by kernel_rfl) (by kernel_rfl) (by kernel_rfl) (fun _ _ _ h => h) (Or.inr ⟨rfl, rfl⟩) hS ?_
          simp only [List.getElem_toArray, List.getElem_cons_zero, List.getElem_cons_succ, Act.put, List.setIfInBounds_toArray, List.set_cons_succ, List.set_cons_zero]
          refine wpAnyH_take (i := 23) (v := undef) rfl (by kernel_rfl) (by kernel_rfl) (by kernel_rfl) (fun _ _ _ h => h) (Or.inr ⟨rfl, rfl⟩) hS ?_
          simp only [List.getElem_toArray, List.getElem_cons_zero, List.getElem_cons_succ, Act.put, List.setIfInBounds_toArray, List.set_cons_succ, List.set_cons_zero]
          refine wpAnyH_take (i := 24) (v := .bool true) rfl (by kernel_rfl) (by kernel_rfl) (by kernel_rfl) (fun _ _ _ h => h) (Or.inl ⟨by rfl, ?r⟩) hS ?_
          case r => intro W hW; simp [go_sem, execOp, Act.eval]
          simp only [List.getElem_toArray, List.getElem_cons_zero, List.getElem_cons_succ, Act.put, List.setIfInBounds_toArray, List.set_cons_succ, List.set_cons_zero]
          refine wpAnyH_take (i := 25) (v := .bool true) rfl (by kernel_rfl) (by kernel_rfl) (by kernel_rfl) (fun _ _ _ h => h) (Or.inl ⟨by rfl, ?r⟩) hS ?_
          case r => intro W hW; simp [go_sem, execOp, Act.eval]
          simp only [List.getElem_toArray, List.getElem_cons_zero, List.getElem_cons_succ, Act.put, List.setIfInBounds_toArray, List.set_cons_succ, List.set_cons_zero]
          refine wpAnyH_done (by kernel_rfl) ?_ _
          refine NoPanic.normal ?_
          try simp only [Act.put]
          have HZW3 : Hid (Below w.heap.size w W3) := HZW2.out.trans (hB4.mono HZW2.out.size)
          have HABW3 : Hid (EvsAt W3 p2 ab) := HABW2.out.below hB4 (Nat.le_refl _)
          clear hB4 hS
          refine HK6.out _ _ ?_
          clear HK6 K
          refine wp_seq_o (fun K QQ hK hQ => ?_)
          have HK6 : Hid _ := hK
          clear hK hQ
          go_wp2_with fail
          refine HK6.out _ _ ?_
          clear HK6 K
          refine wp_seq_o (fun K QQ hK hQ => ?_)
          have HK6 : Hid _ := hK
          clear hK hQ
          go_wp2_with fail
          refine HK6.out _ _ ?_
          clear HK6 K
          refine wp_seq_o (fun K QQ hK hQ => ?_)
          have HK6 : Hid _ := hK
          clear hK hQ
          refine wp_seq_o (fun K QQ hK hQ => ?_)
          have HK7 : Hid _ := hK
          clear hK hQ
          by_cases hbl : 0 < b.length
          · have k1 : (0 : Int) < b.length := by omega
            go_wp2_with fail
            refine HK7.out _ _ ?_
            clear HK7 K
            refine wp_cond_true rfl ?_
            go_wp2_with fail
            refine HK6.out _ _ ?_
            clear HK6 K
            have HD2 : Hid (diff a ab = (a.length : Int)) := (show diff a ab = (a.length : Int) by rw [← HABE.out, diff_app, if_pos (by have := HLEN.out; omega)])
            refine wp_seq_o (fun K QQ hK hQ => ?_)
            have HK6 : Hid _ := hK
            clear hK hQ
            go_wp2_with fail
            refine (differ_any a a _ _ _ _ W3 (HA0.out.below HZW3.out (Nat.le_refl _)) (HA0.out.below HZW3.out (Nat.le_refl _)) (by unfold maxLen; have := HAL.out; omega) (by unfold maxLen; have := HAL.out; omega)).mono ?_
            rintro _ W4 ⟨rfl, bW4⟩
            rw [diff_self]
            have HZW4 : Hid (Below w.heap.size w W4) := HZW3.out.trans (bW4.mono HZW3.out.size)
            have HABW4 : Hid (EvsAt W4 p2 ab) := HABW3.out.below bW4 (Nat.le_refl _)
            clear bW4
            go_wp2_with fail
            refine (differ_any ab ab _ _ _ _ W4 HABW4.out HABW4.out (by unfold maxLen; have := HAL.out; omega) (by unfold maxLen; have := HAL.out; omega)).mono ?_
            rintro _ W5 ⟨rfl, bW5⟩
            rw [diff_self]
            have HZW5 : Hid (Below w.heap.size w W5) := HZW4.out.trans (bW5.mono HZW4.out.size)
            have HABW5 : Hid (EvsAt W5 p2 ab) := HABW4.out.below bW5 (Nat.le_refl _)
            clear bW5
            go_wp2_with fail
            refine (differ_any a ab _ _ _ _ W5 (HA0.out.below HZW5.out (Nat.le_refl _)) HABW5.out (by unfold maxLen; have := HAL.out; omega) (by unfold maxLen; have := HAL.out; omega)).mono ?_
            rintro _ W6 ⟨rfl, bW6⟩
            rw [HD2.out]
            have HZW6 : Hid (Below w.heap.size w W6) := HZW5.out.trans (bW6.mono HZW5.out.size)
            have HABW6 : Hid (EvsAt W6 p2 ab) := HABW5.out.below bW6 (Nat.le_refl _)
            clear bW6
            go_wp2_with fail
            refine HK6.out _ _ ?_
            clear HK6 K
            go_wp2_with fail
            go_ret
            exact ⟨rfl, HZW6.out⟩
          · have k1 : ¬ (0 : Int) < b.length := by omega
            go_wp2_with fail
            refine HK7.out _ _ ?_
            clear HK7 K
            refine wp_cond_false rfl ?_
            refine wp_skip ?_
            refine HK6.out _ _ ?_
            clear HK6 K
            have HD2 : Hid (diff a ab = (-1)) := (show diff a ab = (-1) by rw [← HABE.out, diff_app, if_neg (by have := HLEN.out; omega)])
            refine wp_seq_o (fun K QQ hK hQ => ?_)
            have HK6 : Hid _ := hK
            clear hK hQ
            go_wp2_with fail
            refine (differ_any a a _ _ _ _ W3 (HA0.out.below HZW3.out (Nat.le_refl _)) (HA0.out.below HZW3.out (Nat.le_refl _)) (by unfold maxLen; have := HAL.out; omega) (by unfold maxLen; have := HAL.out; omega)).mono ?_
            rintro _ W4 ⟨rfl, bW4⟩
            rw [diff_self]
            have HZW4 : Hid (Below w.heap.size w W4) := HZW3.out.trans (bW4.mono HZW3.out.size)
            have HABW4 : Hid (EvsAt W4 p2 ab) := HABW3.out.below bW4 (Nat.le_refl _)
            clear bW4
            go_wp2_with fail
            refine (differ_any ab ab _ _ _ _ W4 HABW4.out HABW4.out (by unfold maxLen; have := HAL.out; omega) (by unfold maxLen; have := HAL.out; omega)).mono ?_
            rintro _ W5 ⟨rfl, bW5⟩
            rw [diff_self]
            have HZW5 : Hid (Below w.heap.size w W5) := HZW4.out.trans (bW5.mono HZW4.out.size)
            have HABW5 : Hid (EvsAt W5 p2 ab) := HABW4.out.below bW5 (Nat.le_refl _)
            clear bW5
            go_wp2_with fail
            refine (differ_any a ab _ _ _ _ W5 (HA0.out.below HZW5.out (Nat.le_refl _)) HABW5.out (by unfold maxLen; have := HAL.out; omega) (by unfold maxLen; have := HAL.out; omega)).mono ?_
            rintro _ W6 ⟨rfl, bW6⟩
            rw [HD2.out]
            have HZW6 : Hid (Below w.heap.size w W6) := HZW5.out.trans (bW6.mono HZW5.out.size)
            have HABW6 : Hid (EvsAt W6 p2 ab) := HABW5.out.below bW6 (Nat.le_refl _)
            clear bW6
            go_wp2_with fail
            refine HK6.out _ _ ?_
            clear HK6 K
            go_wp2_with fail
            go_ret
            exact ⟨rfl, HZW6.out⟩
        · have g0 : (p : Int) < a.length := by omega
          have g3 : ((p : Int) == (a.length : Int)) = false := by first | (simp; done) | (simp; omega)
          have g4 : decide ((p : Int) = a.length) = false := by first | (simp; done) | (simp; omega)
          have g5 : ¬ (p : Int) = a.length := by omega
          by_cases hpb : p = b.length
          · subst hpb
            refine wp_seq_o (fun K QQ hK hQ => ?_)
            have HK6 : Hid _ := hK
            clear hK hQ
            refine wp_region_noPanic ?_
            refine wp_region_held (S := fun W => True) (by kernel_rfl) ?_
            obtain ⟨W3, hW3⟩ : ∃ W4, W4 = (W2).drew := ⟨_, rfl⟩
            have e4 : ({ W2 with drawn := (W2).drawn + 1 } : World) = W3 := hW3.symm
            rw [e4]
            have hB4 : Below (W2).heap.size (W2) W3 := by rw [hW3]; exact (Below.refl _ _).drew
            have hS : True := trivial
            have HW3 : Hid (W3 = (W2).drew) := hW3
            clear e4 hW3
            refine wpAnyH_take (i := 0) (v := .int .i64 (b.length : Int)) rfl (by kernel_rfl) (by kernel_rfl) (by kernel_rfl) (fun _ _ _ h => h) (Or.inl ⟨by rfl, ?r⟩) hS ?_
            case r => intro W hW; simp [go_sem, execOp, Act.eval]
            simp only [List.getElem_toArray, List.getElem_cons_zero, Act.put, List.setIfInBounds_toArray, List.set_cons_succ, List.set_cons_zero]
            refine wpAnyH_take (i := 1) (v := .bool false) rfl (by kernel_rfl) (by kernel_rfl) (by kernel_rfl) (fun _ _ _ h => h) (Or.inl ⟨by rfl, ?r⟩) hS ?_
            case r => intro W hW; simp [go_sem, execOp, Act.eval, f2]
            simp only [List.getElem_toArray, List.getElem_cons_zero, List.getElem_cons_succ, Act.put, List.setIfInBounds_toArray, List.set_cons_succ, List.set_cons_zero]
            refine wpAnyH_take (i := 2) (v := .bool false) rfl (by kernel_rfl) (by kernel_rfl) (by kernel_rfl) (fun _ _ _ h => h) (Or.inl ⟨by rfl, ?r⟩) hS ?_
            case r => intro W hW; simp [go_sem, execOp, Act.eval]
            simp only [List.getElem_toArray, List.getElem_cons_zero, List.getElem_cons_succ, Act.put, List.setIfInBounds_toArray, List.set_cons_succ, List.set_cons_zero]
            refine wpAnyH_take (i := 3) (v := .int .i64 (b.length : Int)) rfl (by kernel_rfl) (by kernel_rfl) (by kernel_rfl) (fun _ _ _ h => h) (Or.inl ⟨by rfl, ?r⟩) hS ?_
            case r => intro W hW; simp [go_sem, execOp, Act.eval]
            simp only [List.getElem_toArray, List.getElem_cons_zero, List.getElem_cons_succ, Act.put, List.setIfInBounds_toArray, List.set_cons_succ, List.set_cons_zero]
            refine wpAnyH_take (i := 4) (v := .slice pa a.length ca) rfl (by kernel_rfl) (by kernel_rfl) (by kernel_rfl) (fun _ _ _ h => h) (Or.inl ⟨by rfl, ?r⟩) hS ?_
            case r => intro W hW; simp [go_sem, execOp, Act.eval]
            simp only [List.getElem_toArray, List.getElem_cons_zero, List.getElem_cons_succ, Act.put, List.setIfInBounds_toArray, List.set_cons_succ, List.set_cons_zero]
            refine wpAnyH_take (i := 5) (v := .int .i64 (a.length : Int)) rfl (by kernel_rfl) (by kernel_rfl) (by kernel_rfl) (fun _ _ _ h => h) (Or.inl ⟨by rfl, ?r⟩) hS ?_
            case r => intro W hW; simp [go_sem, execOp, Act.eval]
            simp only [List.getElem_toArray, List.getElem_cons_zero, List.getElem_cons_succ, Act.put, List.setIfInBounds_toArray, List.set_cons_succ, List.set_cons_zero]
            refine wpAnyH_take (i := 6) (v := .bool false) rfl (by kernel_rfl) (by kernel_rfl) (by kernel_rfl) (fun _ _ _ h => h) (Or.inl ⟨by rfl, ?r⟩) hS ?_
            case r => intro W hW; (simp [go_sem, execOp, Act.eval]; omega)
            simp only [List.getElem_toArray, List.getElem_cons_zero, List.getElem_cons_succ, Act.put, List.setIfInBounds_toArray, List.set_cons_succ, List.set_cons_zero]
            refine wpAnyH_take (i := 7) (v := .bool false) rfl (by kernel_rfl) (by kernel_rfl) (by kernel_rfl) (fun _ _ _ h => h) (Or.inl ⟨by rfl, ?r⟩) hS ?_
            case r => intro W hW; simp [go_sem, execOp, Act.eval]
            simp only [List.getElem_toArray, List.getElem_cons_zero, List.getElem_cons_succ, Act.put, List.setIfInBounds_toArray, List.set_cons_succ, List.set_cons_zero]
            refine wpAnyH_take (i := 8) (v := .bool false) rfl (by kernel_rfl) (by kernel_rfl) (by kernel_rfl) (fun _ _ _ h => h) (Or.inl ⟨by rfl, ?r⟩) hS ?_
            case r => intro W hW; simp [go_sem, execOp, Act.eval]
            simp only [List.getElem_toArray, List.getElem_cons_zero, List.getElem_cons_succ, Act.put, List.setIfInBounds_toArray, List.set_cons_succ, List.set_cons_zero]
            refine wpAnyH_take (i := 9) (v := .int .i64 (b.length : Int)) rfl (by kernel_rfl) (by kernel_rfl) (by kernel_rfl) (fun _ _ _ h => h) (Or.inl ⟨by rfl, ?r⟩) hS ?_
            case r => intro W hW; simp [go_sem, execOp, Act.eval]
            simp only [List.getElem_toArray, List.getElem_cons_zero, List.getElem_cons_succ, Act.put, List.setIfInBounds_toArray, List.set_cons_succ, List.set_cons_zero]
            refine wpAnyH_take (i := 10) (v := .slice pb b.length cb) rfl (by kernel_rfl) (by kernel_rfl) (by kernel_rfl) (fun _ _ _ h => h) (Or.inl ⟨by rfl, ?r⟩) hS ?_
            case r => intro W hW; simp [go_sem, execOp, Act.eval]
            simp only [List.getElem_toArray, List.getElem_cons_zero, List.getElem_cons_succ, Act.put, List.setIfInBounds_toArray, List.set_cons_succ, List.set_cons_zero]
            refine wpAnyH_take (i := 11) (v := .int .i64 (b.length : Int)) rfl (by kernel_rfl) (by kernel_rfl) (by kernel_rfl) (fun _ _ _ h => h) (Or.inl ⟨by rfl, ?r⟩) hS ?_
            case r => intro W hW; simp [go_sem, execOp, Act.eval]
            simp only [List.getElem_toArray, List.getElem_cons_zero, List.getElem_cons_succ, Act.put, List.setIfInBounds_toArray, List.set_cons_succ, List.set_cons_zero]
            refine wpAnyH_take (i := 12) (v := .bool true) rfl (by kernel_rfl) (by kernel_rfl) (by kernel_rfl) (fun _ _ _ h => h) (Or.inl ⟨by rfl, ?r⟩) hS ?_
            case r => intro W hW; simp [go_sem, execOp, Act.eval]
            simp only [List.getElem_toArray, List.getElem_cons_zero, List.getElem_cons_succ, Act.put, List.setIfInBounds_toArray, List.set_cons_succ, List.set_cons_zero]
            refine wpAnyH_take (i := 13) (v := .bool true) rfl (by kernel_rfl) (by kernel_rfl) (by kernel_rfl) (fun _ _ _ h => h) (Or.inl ⟨by rfl, ?r⟩) hS ?_
            case r => intro W hW; simp [go_sem, execOp, Act.eval]
            simp only [List.getElem_toArray, List.getElem_cons_zero, List.getElem_cons_succ, Act.put, List.setIfInBounds_toArray, List.set_cons_succ, List.set_cons_zero]
            refine wpAnyH_take (i := 14) (v := .bool true) rfl (by kernel_rfl) (by kernel_rfl) (by kernel_rfl) (fun _ _ _ h => h) (Or.inl ⟨by rfl, ?r⟩) hS ?_
            case r => intro W hW; simp [go_sem, execOp, Act.eval]
            simp only [List.getElem_toArray, List.getElem_cons_zero, List.getElem_cons_succ, Act.put, List.setIfInBounds_toArray, List.set_cons_succ, List.set_cons_zero]
            refine wpAnyH_take (i := 15) (v := undef) rfl (by kernel_rfl) (by kernel_rfl) (by kernel_rfl) (fun _ _ _ h => h) (Or.inr ⟨rfl, rfl⟩) hS ?_
            simp only [List.getElem_toArray, List.getElem_cons_zero, List.getElem_cons_succ, Act.put, List.setIfInBounds_toArray, List.set_cons_succ, List.set_cons_zero]
            refine wpAnyH_take (i := 16) (v := undef) rfl (by kernel_rfl) (by kernel_rfl) (by kernel_rfl) (fun _ _ _ h => h) (Or.inr ⟨rfl, rfl⟩) hS ?_
            simp only [List.getElem_toArray, List.getElem_cons_zero, List.getElem_cons_succ, Act.put, List.setIfInBounds_toArray, List.set_cons_succ, List.set_cons_zero]
            refine wpAnyH_take (i := 17) (v := undef) rfl (by kernel_rfl) (by kernel_rfl) (by kernel_rfl) (fun _ _ _ h => h) (Or.inr ⟨rfl, rfl⟩) hS ?_
            simp only [List.getElem_toArray, List.getElem_cons_zero, List.getElem_cons_succ, Act.put, List.setIfInBounds_toArray, List.set_cons_succ, List.set_cons_zero]
            refine wpAnyH_take (i := 18) (v := undef) rfl (by kernel_rfl) (by kernel_rfl) (by kernel_rfl) (fun _ _ _ h => h) (Or.inr ⟨rfl, rfl⟩) hS ?_
            simp only [List.getElem_toArray, List.getElem_cons_zero, List.getElem_cons_succ, Act.put, List.setIfInBounds_toArray, List.set_cons_succ, List.set_cons_zero]
            refine wpAnyH_take (i := 19) (v := undef) rfl (by kernel_rfl) (by kernel_rfl) (by kernel_rfl) (fun _ _ _ h => h) (Or.inr ⟨rfl, rfl⟩) hS ?_
            simp only [List.getElem_toArray, List.getElem_cons_zero, List.getElem_cons_succ, Act.put, List.setIfInBounds_toArray, List.set_cons_succ, List.set_cons_zero]
            refine wpAnyH_take (i := 20) (v := undef) rfl (by kernel_rfl) (by kernel_rfl) (by kernel_rfl) (fun _ _ _ h => h) (Or.inr ⟨rfl, rfl⟩) hS ?_
            simp only [List.getElem_toArray, List.getElem_cons_zero, List.getElem_cons_succ, Act.put, List.setIfInBounds_toArray, List.set_cons_succ, List.set_cons_zero]
            refine wpAnyH_take (i := 21) (v := undef) rfl (by kernel_rfl) (by kernel_rfl) (by kernel_rfl) (fun _ _ _ h => h) (Or.inr ⟨rfl, rfl⟩) hS ?_
            simp only [List.getElem_toArray, List.getElem_cons_zero, List.getElem_cons_succ, Act.put, List.setIfInBounds_toArray, List.set_cons_succ, List.set_cons_zero]
            refine wpAnyH_take (i := 22) (v := undef) rfl (by kernel_rfl) (by kernel_rfl) (by kernel_rfl) (fun _ _ _ h => h) (Or.inr ⟨rfl, rfl⟩) hS ?_
            simp only [List.getElem_toArray, List.getElem_cons_zero, List.getElem_cons_succ, Act.put, List.setIfInBounds_toArray, List.set_cons_succ, List.set_cons_zero]
            refine wpAnyH_take (i := 23) (v := undef) rfl (by kernel_rfl) (by kernel_rfl) (by kernel_rfl) (fun _ _ _ h => h) (Or.inr ⟨rfl, rfl⟩) hS ?_
            simp only [List.getElem_toArray, List.getElem_cons_zero, List.getElem_cons_succ, Act.put, List.setIfInBounds_toArray, List.set_cons_succ, List.set_cons_zero]
            refine wpAnyH_take (i := 24) (v := .bool true) rfl (by kernel_rfl) (by kernel_rfl) (by kernel_rfl) (fun _ _ _ h => h) (Or.inl ⟨by rfl, ?r⟩) hS ?_
            case r => intro W hW; simp [go_sem, execOp, Act.eval]
            simp only [List.getElem_toArray, List.getElem_cons_zero, List.getElem_cons_succ, Act.put, List.setIfInBounds_toArray, List.set_cons_succ, List.set_cons_zero]
            refine wpAnyH_take (i := 25) (v := .bool true) rfl (by kernel_rfl) (by kernel_rfl) (by kernel_rfl) (fun _ _ _ h => h) (Or.inl ⟨by rfl, ?r⟩) hS ?_
            case r => intro W hW; simp [go_sem, execOp, Act.eval]
            simp only [List.getElem_toArray, List.getElem_cons_zero, List.getElem_cons_succ, Act.put, List.setIfInBounds_toArray, List.set_cons_succ, List.set_cons_zero]
            refine wpAnyH_done (by kernel_rfl) ?_ _
            refine NoPanic.normal ?_
            try simp only [Act.put]
            have HZW3 : Hid (Below w.heap.size w W3) := HZW2.out.trans (hB4.mono HZW2.out.size)
            have HABW3 : Hid (EvsAt W3 p2 ab) := HABW2.out.below hB4 (Nat.le_refl _)
            clear hB4 hS
            refine HK6.out _ _ ?_
            clear HK6 K
            refine wp_seq_o (fun K QQ hK hQ => ?_)
            have HK6 : Hid _ := hK
            clear hK hQ
            go_wp2_with fail
            refine HK6.out _ _ ?_
            clear HK6 K
            refine wp_seq_o (fun K QQ hK hQ => ?_)
            have HK6 : Hid _ := hK
            clear hK hQ
            go_wp2_with fail
            refine HK6.out _ _ ?_
            clear HK6 K
            refine wp_seq_o (fun K QQ hK hQ => ?_)
            have HK6 : Hid _ := hK
            clear hK hQ
            refine wp_seq_o (fun K QQ hK hQ => ?_)
            have HK7 : Hid _ := hK
            clear hK hQ
            by_cases hbl : 0 < b.length
            · have k1 : (0 : Int) < b.length := by omega
              go_wp2_with fail
              refine HK7.out _ _ ?_
              clear HK7 K
              refine wp_cond_true rfl ?_
              go_wp2_with fail
              refine HK6.out _ _ ?_
              clear HK6 K
              have HD2 : Hid (diff a ab = (a.length : Int)) := (show diff a ab = (a.length : Int) by rw [← HABE.out, diff_app, if_pos (by have := HLEN.out; omega)])
              refine wp_seq_o (fun K QQ hK hQ => ?_)
              have HK6 : Hid _ := hK
              clear hK hQ
              go_wp2_with fail
              refine (differ_any a a _ _ _ _ W3 (HA0.out.below HZW3.out (Nat.le_refl _)) (HA0.out.below HZW3.out (Nat.le_refl _)) (by unfold maxLen; have := HAL.out; omega) (by unfold maxLen; have := HAL.out; omega)).mono ?_
              rintro _ W4 ⟨rfl, bW4⟩
              rw [diff_self]
              have HZW4 : Hid (Below w.heap.size w W4) := HZW3.out.trans (bW4.mono HZW3.out.size)
              have HABW4 : Hid (EvsAt W4 p2 ab) := HABW3.out.below bW4 (Nat.le_refl _)
              clear bW4
              go_wp2_with fail
              refine (differ_any ab ab _ _ _ _ W4 HABW4.out HABW4.out (by unfold maxLen; have := HAL.out; omega) (by unfold maxLen; have := HAL.out; omega)).mono ?_
              rintro _ W5 ⟨rfl, bW5⟩
              rw [diff_self]
              have HZW5 : Hid (Below w.heap.size w W5) := HZW4.out.trans (bW5.mono HZW4.out.size)
              have HABW5 : Hid (EvsAt W5 p2 ab) := HABW4.out.below bW5 (Nat.le_refl _)
              clear bW5
              go_wp2_with fail
              refine (differ_any a ab _ _ _ _ W5 (HA0.out.below HZW5.out (Nat.le_refl _)) HABW5.out (by unfold maxLen; have := HAL.out; omega) (by unfold maxLen; have := HAL.out; omega)).mono ?_
              rintro _ W6 ⟨rfl, bW6⟩
              rw [HD2.out]
              have HZW6 : Hid (Below w.heap.size w W6) := HZW5.out.trans (bW6.mono HZW5.out.size)
              have HABW6 : Hid (EvsAt W6 p2 ab) := HABW5.out.below bW6 (Nat.le_refl _)
              clear bW6
              go_wp2_with fail
              refine HK6.out _ _ ?_
              clear HK6 K
              go_wp2_with fail
              go_ret
              exact ⟨rfl, HZW6.out⟩
            · have k1 : ¬ (0 : Int) < b.length := by omega
              go_wp2_with fail
              refine HK7.out _ _ ?_
              clear HK7 K
              refine wp_cond_false rfl ?_
              refine wp_skip ?_
              refine HK6.out _ _ ?_
              clear HK6 K
              have HD2 : Hid (diff a ab = (-1)) := (show diff a ab = (-1) by rw [← HABE.out, diff_app, if_neg (by have := HLEN.out; omega)])
              refine wp_seq_o (fun K QQ hK hQ => ?_)
              have HK6 : Hid _ := hK
              clear hK hQ
              go_wp2_with fail
              refine (differ_any a a _ _ _ _ W3 (HA0.out.below HZW3.out (Nat.le_refl _)) (HA0.out.below HZW3.out (Nat.le_refl _)) (by unfold maxLen; have := HAL.out; omega) (by unfold maxLen; have := HAL.out; omega)).mono ?_
              rintro _ W4 ⟨rfl, bW4⟩
              rw [diff_self]
              have HZW4 : Hid (Below w.heap.size w W4) := HZW3.out.trans (bW4.mono HZW3.out.size)
              have HABW4 : Hid (EvsAt W4 p2 ab) := HABW3.out.below bW4 (Nat.le_refl _)
              clear bW4
              go_wp2_with fail
              refine (differ_any ab ab _ _ _ _ W4 HABW4.out HABW4.out (by unfold maxLen; have := HAL.out; omega) (by unfold maxLen; have := HAL.out; omega)).mono ?_
              rintro _ W5 ⟨rfl, bW5⟩
              rw [diff_self]
              have HZW5 : Hid (Below w.heap.size w W5) := HZW4.out.trans (bW5.mono HZW4.out.size)
              have HABW5 : Hid (EvsAt W5 p2 ab) := HABW4.out.below bW5 (Nat.le_refl _)
              clear bW5
              go_wp2_with fail
              refine (differ_any a ab _ _ _ _ W5 (HA0.out.below HZW5.out (Nat.le_refl _)) HABW5.out (by unfold maxLen; have := HAL.out; omega) (by unfold maxLen; have := HAL.out; omega)).mono ?_
              rintro _ W6 ⟨rfl, bW6⟩
              rw [HD2.out]
              have HZW6 : Hid (Below w.heap.size w W6) := HZW5.out.trans (bW6.mono HZW5.out.size)
              have HABW6 : Hid (EvsAt W6 p2 ab) := HABW5.out.below bW6 (Nat.le_refl _)
              clear bW6
              go_wp2_with fail
              refine HK6.out _ _ ?_
              clear HK6 K
              go_wp2_with fail
              go_ret
              exact ⟨rfl, HZW6.out⟩
          · have g6 : (p : Int) < b.length := by omega
            have g7 : ((p : Int) == (b.length : Int)) = false := by first | (simp; done) | (simp; omega)
            have g8 : decide ((p : Int) = b.length) = false := by first | (simp; done) | (simp; omega)
            have g9 : ¬ (p : Int) = b.length := by omega
            obtain ⟨ba, fa, rfl, hba, hca⟩ := (HA0.out.below HZW2.out (Nat.le_refl _)).nonempty (by omega)
            obtain ⟨bb, fb, rfl, hbb, hcb⟩ := (HB0.out.below HZW2.out (Nat.le_refl _)).nonempty (by omega)
            obtain ⟨c0, c1, c2'⟩ := hca p (by omega)
            obtain ⟨d0, d1, d2⟩ := hcb p (by omega)
            have hst := HSTOP.out (by omega) (by omega)
            generalize a[p] = e at c0 c1 c2' hst
            generalize b[p] = f at d0 d1 d2 hst
            have hq : ∀ W, (Op.equalIn 10000 33 (.agg #[.int .i64 e.k, .int .i64 e.a, .string e.t]) (.agg #[.int .i64 f.k, .int .i64 f.a, .string f.t])).run Tryd.prog W = .ok false W := fun W => by rw [eqEv e f W, hst]
            clear hca hcb
            refine wp_seq_o (fun K QQ hK hQ => ?_)
            have HK6 : Hid _ := hK
            clear hK hQ
            refine wp_region_noPanic ?_
            refine wp_region_held (S := fun W => (W.cell? ⟨ba, fa + p * 3, none⟩ = some (.int .i64 e.k) ∧ W.cell? ⟨ba, fa + p * 3 + 1, none⟩ = some (.int .i64 e.a) ∧ W.cell? ⟨ba, fa + p * 3 + 2, none⟩ = some (.string e.t)) ∧ W.cell? ⟨bb, fb + p * 3, none⟩ = some (.int .i64 f.k) ∧ W.cell? ⟨bb, fb + p * 3 + 1, none⟩ = some (.int .i64 f.a) ∧ W.cell? ⟨bb, fb + p * 3 + 2, none⟩ = some (.string f.t)) (by kernel_rfl) ?_
            obtain ⟨W3, hW3⟩ : ∃ W4, W4 = (W2).drew := ⟨_, rfl⟩
            have e4 : ({ W2 with drawn := (W2).drawn + 1 } : World) = W3 := hW3.symm
            rw [e4]
            have hB4 : Below (W2).heap.size (W2) W3 := by rw [hW3]; exact (Below.refl _ _).drew
            have hS : (W3.cell? ⟨ba, fa + p * 3, none⟩ = some (.int .i64 e.k) ∧ W3.cell? ⟨ba, fa + p * 3 + 1, none⟩ = some (.int .i64 e.a) ∧ W3.cell? ⟨ba, fa + p * 3 + 2, none⟩ = some (.string e.t)) ∧ W3.cell? ⟨bb, fb + p * 3, none⟩ = some (.int .i64 f.k) ∧ W3.cell? ⟨bb, fb + p * 3 + 1, none⟩ = some (.int .i64 f.a) ∧ W3.cell? ⟨bb, fb + p * 3 + 2, none⟩ = some (.string f.t) := ⟨⟨(hB4.cell (p := ⟨ba, _, none⟩) hba).trans c0, (hB4.cell (p := ⟨ba, _, none⟩) hba).trans c1, (hB4.cell (p := ⟨ba, _, none⟩) hba).trans c2'⟩, (hB4.cell (p := ⟨bb, _, none⟩) hbb).trans d0, (hB4.cell (p := ⟨bb, _, none⟩) hbb).trans d1, (hB4.cell (p := ⟨bb, _, none⟩) hbb).trans d2⟩
            have HW3 : Hid (W3 = (W2).drew) := hW3
            clear e4 hW3
            refine wpAnyH_take (i := 0) (v := .int .i64 (p : Int)) rfl (by kernel_rfl) (by kernel_rfl) (by kernel_rfl) (fun _ _ _ h => h) (Or.inl ⟨by rfl, ?r⟩) hS ?_
            case r => intro W hW; simp [go_sem, execOp, Act.eval]
            simp only [List.getElem_toArray, List.getElem_cons_zero, Act.put, List.setIfInBounds_toArray, List.set_cons_succ, List.set_cons_zero]
            refine wpAnyH_take (i := 1) (v := .bool false) rfl (by kernel_rfl) (by kernel_rfl) (by kernel_rfl) (fun _ _ _ h => h) (Or.inl ⟨by rfl, ?r⟩) hS ?_
            case r => intro W hW; simp [go_sem, execOp, Act.eval, f2]
            simp only [List.getElem_toArray, List.getElem_cons_zero, List.getElem_cons_succ, Act.put, List.setIfInBounds_toArray, List.set_cons_succ, List.set_cons_zero]
            refine wpAnyH_take (i := 2) (v := .bool false) rfl (by kernel_rfl) (by kernel_rfl) (by kernel_rfl) (fun _ _ _ h => h) (Or.inl ⟨by rfl, ?r⟩) hS ?_
            case r => intro W hW; simp [go_sem, execOp, Act.eval]
            simp only [List.getElem_toArray, List.getElem_cons_zero, List.getElem_cons_succ, Act.put, List.setIfInBounds_toArray, List.set_cons_succ, List.set_cons_zero]
            refine wpAnyH_take (i := 3) (v := .int .i64 (p : Int)) rfl (by kernel_rfl) (by kernel_rfl) (by kernel_rfl) (fun _ _ _ h => h) (Or.inl ⟨by rfl, ?r⟩) hS ?_
            case r => intro W hW; simp [go_sem, execOp, Act.eval]
            simp only [List.getElem_toArray, List.getElem_cons_zero, List.getElem_cons_succ, Act.put, List.setIfInBounds_toArray, List.set_cons_succ, List.set_cons_zero]
            refine wpAnyH_take (i := 4) (v := .slice (some ⟨ba, fa, none⟩) a.length ca) rfl (by kernel_rfl) (by kernel_rfl) (by kernel_rfl) (fun _ _ _ h => h) (Or.inl ⟨by rfl, ?r⟩) hS ?_
            case r => intro W hW; simp [go_sem, execOp, Act.eval]
            simp only [List.getElem_toArray, List.getElem_cons_zero, List.getElem_cons_succ, Act.put, List.setIfInBounds_toArray, List.set_cons_succ, List.set_cons_zero]
            refine wpAnyH_take (i := 5) (v := .int .i64 (a.length : Int)) rfl (by kernel_rfl) (by kernel_rfl) (by kernel_rfl) (fun _ _ _ h => h) (Or.inl ⟨by rfl, ?r⟩) hS ?_
            case r => intro W hW; simp [go_sem, execOp, Act.eval]
            simp only [List.getElem_toArray, List.getElem_cons_zero, List.getElem_cons_succ, Act.put, List.setIfInBounds_toArray, List.set_cons_succ, List.set_cons_zero]
            refine wpAnyH_take (i := 6) (v := .bool false) rfl (by kernel_rfl) (by kernel_rfl) (by kernel_rfl) (fun _ _ _ h => h) (Or.inl ⟨by rfl, ?r⟩) hS ?_
            case r => intro W hW; (simp [go_sem, execOp, Act.eval]; omega)
            simp only [List.getElem_toArray, List.getElem_cons_zero, List.getElem_cons_succ, Act.put, List.setIfInBounds_toArray, List.set_cons_succ, List.set_cons_zero]
            refine wpAnyH_take (i := 7) (v := .bool false) rfl (by kernel_rfl) (by kernel_rfl) (by kernel_rfl) (fun _ _ _ h => h) (Or.inl ⟨by rfl, ?r⟩) hS ?_
            case r => intro W hW; simp [go_sem, execOp, Act.eval]
            simp only [List.getElem_toArray, List.getElem_cons_zero, List.getElem_cons_succ, Act.put, List.setIfInBounds_toArray, List.set_cons_succ, List.set_cons_zero]
            refine wpAnyH_take (i := 8) (v := .bool false) rfl (by kernel_rfl) (by kernel_rfl) (by kernel_rfl) (fun _ _ _ h => h) (Or.inl ⟨by rfl, ?r⟩) hS ?_
            case r => intro W hW; simp [go_sem, execOp, Act.eval]
            simp only [List.getElem_toArray, List.getElem_cons_zero, List.getElem_cons_succ, Act.put, List.setIfInBounds_toArray, List.set_cons_succ, List.set_cons_zero]
            refine wpAnyH_take (i := 9) (v := .int .i64 (p : Int)) rfl (by kernel_rfl) (by kernel_rfl) (by kernel_rfl) (fun _ _ _ h => h) (Or.inl ⟨by rfl, ?r⟩) hS ?_
            case r => intro W hW; simp [go_sem, execOp, Act.eval]
            simp only [List.getElem_toArray, List.getElem_cons_zero, List.getElem_cons_succ, Act.put, List.setIfInBounds_toArray, List.set_cons_succ, List.set_cons_zero]
            refine wpAnyH_take (i := 10) (v := .slice (some ⟨bb, fb, none⟩) b.length cb) rfl (by kernel_rfl) (by kernel_rfl) (by kernel_rfl) (fun _ _ _ h => h) (Or.inl ⟨by rfl, ?r⟩) hS ?_
            case r => intro W hW; simp [go_sem, execOp, Act.eval]
            simp only [List.getElem_toArray, List.getElem_cons_zero, List.getElem_cons_succ, Act.put, List.setIfInBounds_toArray, List.set_cons_succ, List.set_cons_zero]
            refine wpAnyH_take (i := 11) (v := .int .i64 (b.length : Int)) rfl (by kernel_rfl) (by kernel_rfl) (by kernel_rfl) (fun _ _ _ h => h) (Or.inl ⟨by rfl, ?r⟩) hS ?_
            case r => intro W hW; simp [go_sem, execOp, Act.eval]
            simp only [List.getElem_toArray, List.getElem_cons_zero, List.getElem_cons_succ, Act.put, List.setIfInBounds_toArray, List.set_cons_succ, List.set_cons_zero]
            refine wpAnyH_take (i := 12) (v := .bool false) rfl (by kernel_rfl) (by kernel_rfl) (by kernel_rfl) (fun _ _ _ h => h) (Or.inl ⟨by rfl, ?r⟩) hS ?_
            case r => intro W hW; (simp [go_sem, execOp, Act.eval]; omega)
            simp only [List.getElem_toArray, List.getElem_cons_zero, List.getElem_cons_succ, Act.put, List.setIfInBounds_toArray, List.set_cons_succ, List.set_cons_zero]
            refine wpAnyH_take (i := 13) (v := .bool false) rfl (by kernel_rfl) (by kernel_rfl) (by kernel_rfl) (fun _ _ _ h => h) (Or.inl ⟨by rfl, ?r⟩) hS ?_
            case r => intro W hW; simp [go_sem, execOp, Act.eval]
            simp only [List.getElem_toArray, List.getElem_cons_zero, List.getElem_cons_succ, Act.put, List.setIfInBounds_toArray, List.set_cons_succ, List.set_cons_zero]
            refine wpAnyH_take (i := 14) (v := .bool false) rfl (by kernel_rfl) (by kernel_rfl) (by kernel_rfl) (fun _ _ _ h => h) (Or.inl ⟨by rfl, ?r⟩) hS ?_
            case r => intro W hW; simp [go_sem, execOp, Act.eval]
            simp only [List.getElem_toArray, List.getElem_cons_zero, List.getElem_cons_succ, Act.put, List.setIfInBounds_toArray, List.set_cons_succ, List.set_cons_zero]
            refine wpAnyH_take (i := 15) (v := .slice (some ⟨ba, fa, none⟩) a.length ca) rfl (by kernel_rfl) (by kernel_rfl) (by kernel_rfl) (fun _ _ _ h => h) (Or.inl ⟨by rfl, ?r⟩) hS ?_
            case r => intro W hW; simp [go_sem, execOp, Act.eval]
            simp only [List.getElem_toArray, List.getElem_cons_zero, List.getElem_cons_succ, Act.put, List.setIfInBounds_toArray, List.set_cons_succ, List.set_cons_zero]
            refine wpAnyH_take (i := 16) (v := .int .i64 (p : Int)) rfl (by kernel_rfl) (by kernel_rfl) (by kernel_rfl) (fun _ _ _ h => h) (Or.inl ⟨by rfl, ?r⟩) hS ?_
            case r => intro W hW; simp [go_sem, execOp, Act.eval]
            simp only [List.getElem_toArray, List.getElem_cons_zero, List.getElem_cons_succ, Act.put, List.setIfInBounds_toArray, List.set_cons_succ, List.set_cons_zero]
            refine wpAnyH_take (i := 17) (v := .pointer (some ⟨ba, fa + p * 3, none⟩)) rfl (by kernel_rfl) (by kernel_rfl) (by kernel_rfl) (fun _ _ _ h => h) (Or.inl ⟨by rfl, ?r⟩) hS ?_
            case r => intro W hW; simp [go_sem, execOp, Act.eval, g0]
            simp only [List.getElem_toArray, List.getElem_cons_zero, List.getElem_cons_succ, Act.put, List.setIfInBounds_toArray, List.set_cons_succ, List.set_cons_zero]
            refine wpAnyH_take (i := 18) (v := .agg #[.int .i64 e.k, .int .i64 e.a, .string e.t]) rfl (by kernel_rfl) (by kernel_rfl) (by kernel_rfl) (fun _ _ _ h => h) (Or.inl ⟨by rfl, ?r⟩) hS ?_
            case r => intro W hW; simp [go_sem, execOp, Act.eval, hW.1]
            simp only [List.getElem_toArray, List.getElem_cons_zero, List.getElem_cons_succ, Act.put, List.setIfInBounds_toArray, List.set_cons_succ, List.set_cons_zero]
            refine wpAnyH_take (i := 19) (v := .slice (some ⟨bb, fb, none⟩) b.length cb) rfl (by kernel_rfl) (by kernel_rfl) (by kernel_rfl) (fun _ _ _ h => h) (Or.inl ⟨by rfl, ?r⟩) hS ?_
            case r => intro W hW; simp [go_sem, execOp, Act.eval]
            simp only [List.getElem_toArray, List.getElem_cons_zero, List.getElem_cons_succ, Act.put, List.setIfInBounds_toArray, List.set_cons_succ, List.set_cons_zero]
            refine wpAnyH_take (i := 20) (v := .int .i64 (p : Int)) rfl (by kernel_rfl) (by kernel_rfl) (by kernel_rfl) (fun _ _ _ h => h) (Or.inl ⟨by rfl, ?r⟩) hS ?_
            case r => intro W hW; simp [go_sem, execOp, Act.eval]
            simp only [List.getElem_toArray, List.getElem_cons_zero, List.getElem_cons_succ, Act.put, List.setIfInBounds_toArray, List.set_cons_succ, List.set_cons_zero]
            refine wpAnyH_take (i := 21) (v := .pointer (some ⟨bb, fb + p * 3, none⟩)) rfl (by kernel_rfl) (by kernel_rfl) (by kernel_rfl) (fun _ _ _ h => h) (Or.inl ⟨by rfl, ?r⟩) hS ?_
            case r => intro W hW; simp [go_sem, execOp, Act.eval, g6]
            simp only [List.getElem_toArray, List.getElem_cons_zero, List.getElem_cons_succ, Act.put, List.setIfInBounds_toArray, List.set_cons_succ, List.set_cons_zero]
            refine wpAnyH_take (i := 22) (v := .agg #[.int .i64 f.k, .int .i64 f.a, .string f.t]) rfl (by kernel_rfl) (by kernel_rfl) (by kernel_rfl) (fun _ _ _ h => h) (Or.inl ⟨by rfl, ?r⟩) hS ?_
            case r => intro W hW; simp [go_sem, execOp, Act.eval, hW.2]
            simp only [List.getElem_toArray, List.getElem_cons_zero, List.getElem_cons_succ, Act.put, List.setIfInBounds_toArray, List.set_cons_succ, List.set_cons_zero]
            refine wpAnyH_take (i := 23) (v := .bool true) rfl (by kernel_rfl) (by kernel_rfl) (by kernel_rfl) (fun _ _ _ h => h) (Or.inl ⟨by rfl, ?r⟩) hS ?_
            case r => intro W hW; simp [go_sem, execOp, Act.eval, hq]
            simp only [List.getElem_toArray, List.getElem_cons_zero, List.getElem_cons_succ, Act.put, List.setIfInBounds_toArray, List.set_cons_succ, List.set_cons_zero]
            refine wpAnyH_take (i := 24) (v := .bool true) rfl (by kernel_rfl) (by kernel_rfl) (by kernel_rfl) (fun _ _ _ h => h) (Or.inl ⟨by rfl, ?r⟩) hS ?_
            case r => intro W hW; simp [go_sem, execOp, Act.eval]
            simp only [List.getElem_toArray, List.getElem_cons_zero, List.getElem_cons_succ, Act.put, List.setIfInBounds_toArray, List.set_cons_succ, List.set_cons_zero]
            refine wpAnyH_take (i := 25) (v := .bool true) rfl (by kernel_rfl) (by kernel_rfl) (by kernel_rfl) (fun _ _ _ h => h) (Or.inl ⟨by rfl, ?r⟩) hS ?_
            case r => intro W hW; simp [go_sem, execOp, Act.eval]
            simp only [List.getElem_toArray, List.getElem_cons_zero, List.getElem_cons_succ, Act.put, List.setIfInBounds_toArray, List.set_cons_succ, List.set_cons_zero]
            refine wpAnyH_done (by kernel_rfl) ?_ _
            refine NoPanic.normal ?_
            try simp only [Act.put]
            have HZW3 : Hid (Below w.heap.size w W3) := HZW2.out.trans (hB4.mono HZW2.out.size)
            have HABW3 : Hid (EvsAt W3 p2 ab) := HABW2.out.below hB4 (Nat.le_refl _)
            clear hB4 hS
            refine HK6.out _ _ ?_
            clear HK6 K
            clear hq c0 c1 c2' d0 d1 d2 hst g3 g4 g5 g7 g8 g9 hba hbb HSTOP HSAME
            refine wp_seq_o (fun K QQ hK hQ => ?_)
            have HK6 : Hid _ := hK
            clear hK hQ
            go_wp2_with fail
            refine HK6.out _ _ ?_
            clear HK6 K
            refine wp_seq_o (fun K QQ hK hQ => ?_)
            have HK6 : Hid _ := hK
            clear hK hQ
            go_wp2_with fail
            refine HK6.out _ _ ?_
            clear HK6 K
            refine wp_seq_o (fun K QQ hK hQ => ?_)
            have HK6 : Hid _ := hK
            clear hK hQ
            refine wp_seq_o (fun K QQ hK hQ => ?_)
            have HK7 : Hid _ := hK
            clear hK hQ
            by_cases hbl : 0 < b.length
            · have k1 : (0 : Int) < b.length := by omega
              go_wp2_with fail
              refine HK7.out _ _ ?_
              clear HK7 K
              refine wp_cond_true rfl ?_
              go_wp2_with fail
              refine HK6.out _ _ ?_
              clear HK6 K
              have HD2 : Hid (diff a ab = (a.length : Int)) := (show diff a ab = (a.length : Int) by rw [← HABE.out, diff_app, if_pos (by have := HLEN.out; omega)])
              refine wp_seq_o (fun K QQ hK hQ => ?_)
              have HK6 : Hid _ := hK
              clear hK hQ
              go_wp2_with fail
              refine (differ_any a a _ _ _ _ W3 (HA0.out.below HZW3.out (Nat.le_refl _)) (HA0.out.below HZW3.out (Nat.le_refl _)) (by unfold maxLen; have := HAL.out; omega) (by unfold maxLen; have := HAL.out; omega)).mono ?_
              rintro _ W4 ⟨rfl, bW4⟩
              rw [diff_self]
              have HZW4 : Hid (Below w.heap.size w W4) := HZW3.out.trans (bW4.mono HZW3.out.size)
              have HABW4 : Hid (EvsAt W4 p2 ab) := HABW3.out.below bW4 (Nat.le_refl _)
              clear bW4
              go_wp2_with fail
              refine (differ_any ab ab _ _ _ _ W4 HABW4.out HABW4.out (by unfold maxLen; have := HAL.out; omega) (by unfold maxLen; have := HAL.out; omega)).mono ?_
              rintro _ W5 ⟨rfl, bW5⟩
              rw [diff_self]
              have HZW5 : Hid (Below w.heap.size w W5) := HZW4.out.trans (bW5.mono HZW4.out.size)
              have HABW5 : Hid (EvsAt W5 p2 ab) := HABW4.out.below bW5 (Nat.le_refl _)
              clear bW5
              go_wp2_with fail
              refine (differ_any a ab _ _ _ _ W5 (HA0.out.below HZW5.out (Nat.le_refl _)) HABW5.out (by unfold maxLen; have := HAL.out; omega) (by unfold maxLen; have := HAL.out; omega)).mono ?_
              rintro _ W6 ⟨rfl, bW6⟩
              rw [HD2.out]
              have HZW6 : Hid (Below w.heap.size w W6) := HZW5.out.trans (bW6.mono HZW5.out.size)
              have HABW6 : Hid (EvsAt W6 p2 ab) := HABW5.out.below bW6 (Nat.le_refl _)
              clear bW6
              go_wp2_with fail
              refine HK6.out _ _ ?_
              clear HK6 K
              go_wp2_with fail
              go_ret
              exact ⟨rfl, HZW6.out⟩
            · have k1 : ¬ (0 : Int) < b.length := by omega
              go_wp2_with fail
              refine HK7.out _ _ ?_
              clear HK7 K
              refine wp_cond_false rfl ?_
              refine wp_skip ?_
              refine HK6.out _ _ ?_
              clear HK6 K
              have HD2 : Hid (diff a ab = (-1)) := (show diff a ab = (-1) by rw [← HABE.out, diff_app, if_neg (by have := HLEN.out; omega)])
              refine wp_seq_o (fun K QQ hK hQ => ?_)
              have HK6 : Hid _ := hK
              clear hK hQ
              go_wp2_with fail
              refine (differ_any a a _ _ _ _ W3 (HA0.out.below HZW3.out (Nat.le_refl _)) (HA0.out.below HZW3.out (Nat.le_refl _)) (by unfold maxLen; have := HAL.out; omega) (by unfold maxLen; have := HAL.out; omega)).mono ?_
              rintro _ W4 ⟨rfl, bW4⟩
              rw [diff_self]
              have HZW4 : Hid (Below w.heap.size w W4) := HZW3.out.trans (bW4.mono HZW3.out.size)
              have HABW4 : Hid (EvsAt W4 p2 ab) := HABW3.out.below bW4 (Nat.le_refl _)
              clear bW4
              go_wp2_with fail
              refine (differ_any ab ab _ _ _ _ W4 HABW4.out HABW4.out (by unfold maxLen; have := HAL.out; omega) (by unfold maxLen; have := HAL.out; omega)).mono ?_
              rintro _ W5 ⟨rfl, bW5⟩
              rw [diff_self]
              have HZW5 : Hid (Below w.heap.size w W5) := HZW4.out.trans (bW5.mono HZW4.out.size)
              have HABW5 : Hid (EvsAt W5 p2 ab) := HABW4.out.below bW5 (Nat.le_refl _)
              clear bW5
              go_wp2_with fail
              refine (differ_any a ab _ _ _ _ W5 (HA0.out.below HZW5.out (Nat.le_refl _)) HABW5.out (by unfold maxLen; have := HAL.out; omega) (by unfold maxLen; have := HAL.out; omega)).mono ?_
              rintro _ W6 ⟨rfl, bW6⟩
              rw [HD2.out]
              have HZW6 : Hid (Below w.heap.size w W6) := HZW5.out.trans (bW6.mono HZW5.out.size)
              have HABW6 : Hid (EvsAt W6 p2 ab) := HABW5.out.below bW6 (Nat.le_refl _)
              clear bW6
              go_wp2_with fail
              refine HK6.out _ _ ?_
              clear HK6 K
              go_wp2_with fail
              go_ret
              exact ⟨rfl, HZW6.out⟩
      have HT2 : Hid _ := tail2
      clear tail2 HK0
      refine wp_seq_o (fun K QQ hK hQ => ?_)
      have HK4 : Hid _ := hK
      clear hK hQ
      go_wp2_with fail
      refine HK4.out _ _ ?_
      clear HK4 K
      refine wp_block ?_
      refine wp_loop (L2 s (.slice pa a.length ca) (.slice pb b.length cb) (.slice p2 ab.length c2) (.int .i64 (p : Int)) p W1) (m14 p) (l2_close _ _ _ _ _ _ _ _ _ ⟨0, rfl, Nat.zero_le _, Below.refl _ _⟩ rfl) (fun x0 wr hL => ?_)
      obtain ⟨u, i, hi, hx0⟩ := hL
      subst hx0
      obtain ⟨k, rfl, hk, hb⟩ := hi
      have HBr : Hid (Below W1.heap.size W1 wr) := hb
      have HZr : Hid (Below w.heap.size w wr) := HZW1.out.trans (hb.mono HZW1.out.size)
      clear hb
      by_cases hlt : k < p
      · skip
        have i1 : (k : Int) < a.length := by omega
        have j1 : (k : Int) < b.length := by omega
        have i2 : (k : Int) < p := by omega
        obtain ⟨ba, fa, rfl, _, hca⟩ := (HA0.out.below HZr.out (Nat.le_refl _)).nonempty (by omega)
        obtain ⟨bb, fb, rfl, _, hcb⟩ := (HB0.out.below HZr.out (Nat.le_refl _)).nonempty (by have := HLEN.out; omega)
        obtain ⟨c0, c1, c2'⟩ := hca k (by omega)
        obtain ⟨d0, d1, d2⟩ := hcb k (by have := HLEN.out; omega)
        have hse := HSAME.out k hlt
        rw [List.getElem?_eq_getElem (show k < a.length by omega), List.getElem?_eq_getElem (show k < b.length by have := HLEN.out; omega)] at hse
        have hse := Option.some.inj hse
        rw [← hse] at d0 d1 d2
        generalize a[k] = e at c0 c1 c2' d0 d1 d2
        have hq : ∀ W, (Op.equalIn 10000 33 (.agg #[.int .i64 e.k, .int .i64 e.a, .string e.t]) (.agg #[.int .i64 e.k, .int .i64 e.a, .string e.t])).run Tryd.prog W = .ok true W := fun W => by rw [eqEv e e W, Ev.same_iff.2 rfl]
        clear hse hca hcb
        refine wp_seq_o (fun K6 Q6 hK6 hQ6 => ?_)
        refine wp_seq_o (fun K7 Q7 hK7 hQ7 => ?_)
        have HK7 : Hid _ := hK7
        have HK6 : Hid _ := hK6
        have HQ6 : Hid _ := hQ6
        clear hK6 hK7 hQ6 hQ7
        go_wp2_with fail
        refine HK7.out _ _ ?_
        clear HK7 K7 Q7
        refine wp_cond_true rfl ?_
        refine wp_skip ?_
        refine HK6.out _ _ ?_
        clear HK6 HQ6 K6 Q6
        refine wp_seq_o (fun K QQ hK hQ => ?_)
        have HK2 : Hid _ := hK
        clear hK hQ
        refine wp_block ?_
        refine wp_seq_o (fun K QQ hK hQ => ?_)
        have HK5 : Hid _ := hK
        clear hK hQ
        go_quiet (fail)
        obtain ⟨V, hV⟩ : ∃ W, W = wr.drewN nq := ⟨_, rfl⟩
        rw [← hV]
        have HV : Hid (Below W1.heap.size W1 V) := by rw [hV]; exact below_drewN HBr.out _
        clear hV c0 c1 c2' d0 d1 d2 hq
        refine HK5.out _ _ ?_
        clear HK5 K
        refine wp_cond_false rfl ?_
        refine wp_skip ?_
        refine HK2.out _ _ ?_
        clear HK2 K
        refine wp_then_o (fun K QQ hK hQ => ?_)
        have HK3 : Hid _ := hK
        clear hK hQ
        go_wp2_with fail
        refine HK3.out _ _ ?_
        clear HK3 K
        exact ⟨l2_close _ _ _ _ _ _ _ _ _ ⟨k + 1, rfl, by omega, HV.out⟩ rfl, by simp [m14, intOf]; omega⟩
      · skip
        obtain rfl : k = p := by omega
        by_cases hpa : k < a.length
        · have i1 : (k : Int) < a.length := by omega
          have i2 : ¬ (k : Int) < k := by omega
          refine wp_seq_o (fun K6 Q6 hK6 hQ6 => ?_)
          refine wp_seq_o (fun K7 Q7 hK7 hQ7 => ?_)
          have HK7 : Hid _ := hK7
          have HK6 : Hid _ := hK6
          have HQ6 : Hid _ := hQ6
          clear hK6 hK7 hQ6 hQ7
          go_wp2_with fail
          refine HK7.out _ _ ?_
          clear HK7 K7 Q7
          refine wp_cond_false rfl ?_
          refine wp_exit ?_
          show Q6 (.exit 2) _ _
          rw [HQ6.out]
          refine exit_in ?_
          exact HT2.out _ _ (e2_close _ _ _ _ _ _ rfl) HBr.out
        · have i1 : ¬ (k : Int) < a.length := by omega
          refine wp_seq_o (fun K6 Q6 hK6 hQ6 => ?_)
          refine wp_seq_o (fun K7 Q7 hK7 hQ7 => ?_)
          have HK7 : Hid _ := hK7
          have HK6 : Hid _ := hK6
          have HQ6 : Hid _ := hQ6
          clear hK6 hK7 hQ6 hQ7
          go_wp2_with fail
          refine HK7.out _ _ ?_
          clear HK7 K7 Q7
          refine wp_cond_false rfl ?_
          refine wp_exit ?_
          show Q6 (.exit 2) _ _
          rw [HQ6.out]
          refine exit_in ?_
          exact HT2.out _ _ (e2_close _ _ _ _ _ _ rfl) HBr.out
  have HT : Hid _ := tail
  clear tail HK0
  refine wp_seq_o (fun K QQ hK hQ => ?_)
  have HK4 : Hid _ := hK
  clear hK hQ
  go_wp2_with fail
  refine HK4.out _ _ ?_
  clear HK4 K
  refine wp_block ?_
  refine wp_loop (L1 s (.slice pa a.length ca) (.slice pb b.length cb) (.slice p2 ab.length c2) (.slice q1 n n) (.slice q2 n n) (.slice q3 n n) n w6) (m12 n) (l1_close _ _ _ _ _ _ _ _ _ _ _ ⟨0, rfl, Nat.zero_le _, Below.refl _ _⟩ rfl) (fun x0 wr hL => ?_)
  obtain ⟨u, i, hi, hx0⟩ := hL
  subst hx0
  obtain ⟨k, rfl, hk, hb⟩ := hi
  have HB6 : Hid _ := hb
  clear hb
  by_cases hlt : k < n
  · have i1 : (k : Int) < n := by omega
    rcases RowI.below HR1.out HB6.out with h0 | ⟨g1, rfl, k1⟩
    · have hl := hl1.out; rw [h0] at hl; simp at hl; omega
    rcases RowI.below HR2.out HB6.out with h0 | ⟨g2, rfl, k2⟩
    · have hl := hl2.out; rw [h0] at hl; simp at hl; omega
    rcases RowI.below HR3.out HB6.out with h0 | ⟨g3, rfl, k3⟩
    · have hl := hl3.out; rw [h0] at hl; simp at hl; omega
    have c1 := (cells_of k1).1 k
    have c2' := (cells_of k2).1 k
    have c3 := (cells_of k3).1 k
    rw [List.getElem?_toArray, List.getElem?_map, (getD_mem _ k (by have := hl1.out; omega)).1] at c1
    rw [List.getElem?_toArray, List.getElem?_map, (getD_mem _ k (by have := hl2.out; omega)).1] at c2'
    rw [List.getElem?_toArray, List.getElem?_map, (getD_mem _ k (by have := hl3.out; omega)).1] at c3
    rw [HTA.out k] at c3
    have x1 := HM1.out _ (getD_mem (tL s a) k (by have := hl1.out; omega)).2
    have x2 := HM2.out _ (getD_mem (tL s b) k (by have := hl2.out; omega)).2
    simp only [Option.map_some] at c1 c2' c3
    generalize (tL s a).getD k 0 = y1 at c1 c3 x1
    generalize (tL s b).getD k 0 = y2 at c2' c3 x2
    obtain ⟨x1, x1'⟩ := x1
    obtain ⟨x2, x2'⟩ := x2
    clear k1 k2 k3
    refine wp_seq_o (fun K6 Q6 hK6 hQ6 => ?_)
    refine wp_seq_o (fun K7 Q7 hK7 hQ7 => ?_)
    have HK7 : Hid _ := hK7
    have HK6 : Hid _ := hK6
    have HQ6 : Hid _ := hQ6
    clear hK6 hK7 hQ6 hQ7
    go_wp2_with fail
    refine HK7.out _ _ ?_
    clear HK7 K7 Q7
    refine wp_cond_true rfl ?_
    refine wp_skip ?_
    refine HK6.out _ _ ?_
    clear HK6 HQ6 K6 Q6
    refine wp_seq_o (fun K QQ hK hQ => ?_)
    have HK2 : Hid _ := hK
    clear hK hQ
    refine wp_block ?_
    refine wp_seq_o (fun K QQ hK hQ => ?_)
    have HK5 : Hid _ := hK
    clear hK hQ
    go_quiet (fail)
    obtain ⟨V, hV⟩ : ∃ W, W = wr.drewN nq := ⟨_, rfl⟩
    rw [← hV]
    have HV : Hid (Below w6.heap.size w6 V) := by rw [hV]; exact below_drewN HB6.out _
    clear hV c1 c2' c3
    refine HK5.out _ _ ?_
    clear HK5 K
    refine wp_cond_false rfl ?_
    refine wp_skip ?_
    refine HK2.out _ _ ?_
    clear HK2 K
    refine wp_then_o (fun K QQ hK hQ => ?_)
    have HK3 : Hid _ := hK
    clear hK hQ
    go_wp2_with fail
    refine HK3.out _ _ ?_
    clear HK3 K
    exact ⟨l1_close _ _ _ _ _ _ _ _ _ _ _ ⟨k + 1, rfl, by omega, HV.out⟩ rfl, by simp [m12, intOf]; omega⟩
  · obtain rfl : k = n := by omega
    have i1 : ¬ (k : Int) < k := by omega
    refine wp_seq_o (fun K6 Q6 hK6 hQ6 => ?_)
    refine wp_seq_o (fun K7 Q7 hK7 hQ7 => ?_)
    have HK7 : Hid _ := hK7
    have HK6 : Hid _ := hK6
    have HQ6 : Hid _ := hQ6
    clear hK6 hK7 hQ6 hQ7
    go_wp2_with fail
    refine HK7.out _ _ ?_
    clear HK7 K7 Q7
    refine wp_cond_false rfl ?_
    refine wp_exit ?_
    show Q6 (.exit 0) _ _
    rw [HQ6.out]
    refine exit_in ?_
    exact HT.out _ _ (e1_close _ _ _ _ _ rfl) HB6.out
end Go.Proofs.YtapakbibofnhkaaDoor
