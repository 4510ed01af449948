/-
  The walks of exactly, atLeast, atMost: shapes of nodes as they lie in memory.
-/
import Derived.Test.YthbnegggohegkaaGreatDoorGbJ
import Derived.Test.YthbnegggohegkaaGreatDoorRs
namespace Go.Proofs.YthbnegggohegkaaGreatDoor
open Go.RowKit

/-- The five cells of a node, as they are handed over. -/
abbrev nd (k : Int) (s : ByteArray) (n a : Int) (p : Option Addr) (m c : Nat) : Array Value := #[.int .i64 k, .string s, .int .i64 n, .int .i64 a, .slice p m c]

/-- A row of roles, in memory from lo on. -/
def RolesAt (w : World) (lo : Nat) (p : Option Addr) (rs : List Nat) : Prop :=
  (rs = [] ∧ p = none) ∨ ∃ g, p = some ⟨g, 0, none⟩ ∧ lo ≤ g ∧ g < w.heap.size ∧ ∀ (i : Nat) (h : i < rs.length), w.cell? ⟨g, i, none⟩ = some (.int .i64 (rs[i] : Nat))
abbrev shV (S : Shp) (p : Option Addr) : Array Value := #[.slice p S.roles.length S.roles.length, .int .i64 S.least, .int .i64 S.most, .bool S.crowded]
/-- A shape that is answered. -/
def ShP (S : Shp) (w : World) (e : Ending) (w' : World) : Prop := ∃ p, e = .returned (.agg (shV S p)) ∧ RolesAt w' w.heap.size p S.roles ∧ Below w.heap.size w w'

theorem RolesAt.below {w w' : World} {lo : Nat} {p : Option Addr} {rs : List Nat} (h : RolesAt w lo p rs) {B : Nat} (hB : w.heap.size ≤ B) (hb : Below B w w') : RolesAt w' lo p rs := by
  rcases h with h | ⟨g, h1, h2, h3, h4⟩
  · exact .inl h
  · exact .inr ⟨g, h1, h2, by have := hb.size; omega, fun i hi => (hb.cell (p := ⟨g, i, none⟩) (by show g < B; omega)).trans (h4 i hi)⟩
theorem RolesAt.mono {w : World} {lo lo' : Nat} {p : Option Addr} {rs : List Nat} (h : RolesAt w lo p rs) (hl : lo' ≤ lo) : RolesAt w lo' p rs := by
  rcases h with h | ⟨g, h1, h2, h3, h4⟩
  · exact .inl h
  · exact .inr ⟨g, h1, by omega, h3, h4⟩
theorem RolesAt.set {w : World} {lo : Nat} {p : Option Addr} {rs : List Nat} (h : RolesAt w lo p rs) {b j : Nat} (hb : b < lo) (v : Value) : RolesAt (w.setCell ⟨b, j, none⟩ v) lo p rs := by
  rcases h with h | ⟨g, h1, h2, h3, h4⟩
  · exact .inl h
  · exact .inr ⟨g, h1, h2, by simpa using h3, fun i hi => (World.cell?_of_block (a := ⟨g, i, none⟩) (Below.heap_setCell w ⟨b, j, none⟩ v g (by show g ≠ b; omega))).trans (h4 i hi)⟩

theorem cell_mid (W : World) (cs : Array Value) (t : TypeId) (n i : Nat) (v : Value) (hn : n = W.heap.size) (h : cs[i]? = some v) : (W.alloc (.cells cs t)).cell? ⟨n, i, none⟩ = some v := by
  subst hn
  rw [World.cell?_alloc_new]; exact h

set_option maxHeartbeats 400000 in
theorem atLeast_any (l : Int) (p : Option Addr) (n c : Nat) (w : World) :
    Calls Tryz.prog 116 #[.int .i64 l, .slice p n c] w fun e w' => e = .returned (.agg #[.slice p n c, .int .i64 l, .int .i64 (-1), .bool false]) ∧ w' = w.alloc (.cells #[.slice p n c, .int .i64 l, .int .i64 (-1), .bool false] 94) := by
  go_enter Tryz.func116, Tryz.ntmps116
  go_wp2
  exact bodyPost_ret (v := .agg #[.slice p n c, .int .i64 l, .int .i64 (-1), .bool false]) (by simp [results, Tryz.results116, go_sem]) rfl ⟨rfl, rfl⟩

set_option maxHeartbeats 400000 in
theorem atMost_any (l r : Int) (w : World) :
    Calls Tryz.prog 118 #[.int .i64 l, .int .i64 r] w fun e w' => e = .returned (.agg #[.slice (some ⟨w.heap.size + 1, 0, none⟩) 1 1, .int .i64 0, .int .i64 l, .bool true]) ∧ w' = (w.alloc (.cells #[.slice (some ⟨w.heap.size + 1, 0, none⟩) 1 1, .int .i64 0, .int .i64 l, .bool true] 94)).alloc (.cells #[.int .i64 r] 65) := by
  go_enter Tryz.func118, Tryz.ntmps118
  go_wp2
  exact bodyPost_ret (v := .agg #[.slice (some ⟨w.heap.size + 1, 0, none⟩) 1 1, .int .i64 0, .int .i64 l, .bool true]) (by simp [results, Tryz.results118, go_sem]) rfl ⟨rfl, rfl⟩
end Go.Proofs.YthbnegggohegkaaGreatDoor
