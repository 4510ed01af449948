/-
  What tree.Right asks of one node, at the nodes of the chapter's examples.
  What tree.Right asks of a tree, as a plain function.
  The walks of exactly, atLeast, atMost: shapes of nodes as they lie in memory.
  The walks of isName, isAssign, isUnary and binaryLevel, at every text.
  The walks of (role).kinds and (role).takes, at every role and kind.
  The walks of declarationShape, kind by kind.
  The walks of statementShape, kind by kind.
  The walks of listShape, and of expressionShape, kind by kind.
  The walks of sliceShape, and of expressionShape at lists and slices.
  The walk of shapeOf, at every node.
-/
import Derived.Test.YthbnegggohegkaaGreatDoorRsJ
import Derived.Test.YthbnegggohegkaaGreatDoorNmJ
namespace Go.Proofs.YthbnegggohegkaaGreatDoor
open Go.RowKit

set_option maxHeartbeats 400000 in
theorem role_bin (g : Nat) (i : Int) (hi : i = 0 ∨ i = 1) (w : World) (hg : g < w.heap.size) (h0 : w.cell? ⟨g, 0, none⟩ = some (.int .i64 18)) (h1 : w.cell? ⟨g, 1, none⟩ = some (.int .i64 18)) :
    Calls Tryz.prog 53 #[.agg (binR g), .int .i64 i] w fun e w' => e = .returned (.int .i64 18) ∧ Below w.heap.size w w' := by
  have m0 : min (0 : Int) 1 = 0 := by omega
  have m1 : min (1 : Int) 1 = 1 := by omega
  rcases hi with rfl | rfl
  all_goals
    go_enter Tryz.func53, Tryz.ntmps53
    go_wp2
    go_ret
    exact ⟨rfl, below1 _ _⟩

set_option maxHeartbeats 400000 in
theorem fits_leaf (w : World) : Calls Tryz.prog 92 #[.agg leafR, .int .i64 0] w fun e w' => e = .returned (.int .i64 0) ∧ Below w.heap.size w w' := by
  go_enter Tryz.func92, Tryz.ntmps92
  go_wp2
  go_ret
  exact ⟨rfl, below1 _ _⟩

set_option maxHeartbeats 400000 in
theorem fits_bin (g : Nat) (w : World) : Calls Tryz.prog 92 #[.agg (binR g), .int .i64 2] w fun e w' => e = .returned (.int .i64 0) ∧ Below w.heap.size w w' := by
  go_enter Tryz.func92, Tryz.ntmps92
  go_wp2
  go_ret
  exact ⟨rfl, below1 _ _⟩

set_option maxHeartbeats 400000 in
theorem number_any (k : Int) (s : ByteArray) (a : Int) (p : Option Addr) (n c : Nat) (w : World) :
    Calls Tryz.prog 91 #[.agg #[.int .i64 k, .string s, .int .i64 0, .int .i64 a, .slice p n c]] w fun e w' => e = .returned (.bool true) ∧ Below w.heap.size w w' := by
  go_enter Tryz.func91, Tryz.ntmps91
  go_wp2
  go_ret
  exact ⟨rfl, below1 _ _⟩

/-- The names of the chapter's examples. -/
def Abc (s : ByteArray) : Prop := s = ⟨#[97]⟩ ∨ s = ⟨#[98]⟩ ∨ s = ⟨#[99]⟩
/-- Their signs. -/
def Sgn (s : ByteArray) : Prop := s = ⟨#[43]⟩ ∨ s = ⟨#[42]⟩

theorem name_abc {s : ByteArray} (h : Abc s) : isName s.data.toList = true := by
  rcases h with rfl | rfl | rfl <;> kernel_rfl

set_option maxHeartbeats 1000000 in
theorem treeName_abc {gw ow gs os : Nat} (s : ByteArray) (hs : Abc s) (w : World) (ht : TabsAt gw ow gs os w) :
    Calls Tryz.prog 121 #[.string s] w fun e w' => e = .returned (.bool true) ∧ Below w.heap.size w w' := by
  have hn := name_abc hs
  rcases hs with rfl | rfl | rfl
  all_goals
    go_enter Tryz.func121, Tryz.ntmps121
    go_wp2_with fail
    refine (name_any _ _ ht).mono ?_
    rintro e w1 ⟨rfl, hb⟩
    rw [hn]
    go_wp2_with fail
    go_ret
    exact ⟨rfl, hb⟩

set_option maxRecDepth 100000 in
set_option maxHeartbeats 1000000 in
theorem text_bin (s : ByteArray) (hs : Sgn s) (a r : Int) (p : Option Addr) (c : Nat) (w : World) :
    Calls Tryz.prog 90 #[.agg (binN s a p c), .int .i64 r] w fun e w' => e = .returned (.bool true) ∧ Below w.heap.size w w' := by
  rcases hs with rfl | rfl
  all_goals
    go_enter Tryz.func90, Tryz.ntmps90
    go_wp2
    go_ret
    exact ⟨rfl, below1 _ _⟩

theorem scan01 : scanSpec [48, 49] = .error (12, 0) := by kernel_rfl

set_option maxRecDepth 100000 in
set_option maxHeartbeats 1000000 in
theorem token01 {gw ow gs os : Nat} (w : World) (ht : TabsAt gw ow gs os w) :
    Calls Tryz.prog 125 #[.string ⟨#[48, 49]⟩, .int .i64 4] w fun e w' => e = .returned (.bool false) ∧ Below w.heap.size w w' := by
  have hsc : scanSpec (ByteArray.mk #[48, 49]).data.toList = .error (12, 0) := scan01
  go_enter Tryz.func125, Tryz.ntmps125
  go_wp2_with fail
  refine (scan_any ⟨#[48, 49]⟩ _ ht).mono ?_
  intro e w1 hres
  rw [hsc] at hres
  cases hres with
  | error c p b he hlo hwr hb =>
    subst he
    clear hsc
    go_wp2_with fail
    go_ret
    exact ⟨rfl, hb⟩

set_option maxRecDepth 100000 in
set_option maxHeartbeats 1000000 in
theorem text_int {gw ow gs os : Nat} (a r : Int) (p : Option Addr) (c : Nat) (w : World) (ht : TabsAt gw ow gs os w) :
    Calls Tryz.prog 90 #[.agg (leafN 35 ⟨#[48, 49]⟩ a p c), .int .i64 r] w fun e w' => e = .returned (.bool false) ∧ Below w.heap.size w w' := by
  go_enter Tryz.func90, Tryz.ntmps90
  go_wp2_with fail
  refine (token01 _ (ht.below (Nat.le_refl _) (below1 _ _))).mono ?_
  rintro e w1 ⟨rfl, hb⟩
  go_wp2_with fail
  go_ret
  exact ⟨rfl, (below1 _ _).trans (hb.mono (by simp))⟩
end Go.Proofs.YthbnegggohegkaaGreatDoor
namespace Go.Proofs.YthbnegggohegkaaGreatDoor
open Go.RowKit

/-- Which Kids a node has: their roles, how many at least, at most (below 0: any number), and whether more are too many. -/
structure Shp where
  roles : List Nat
  least : Nat
  most : Int
  crowded : Bool

def shEx (rs : List Nat) : Shp := ⟨rs, rs.length, rs.length, false⟩
def shAl (n : Nat) (rs : List Nat) : Shp := ⟨rs, n, -1, false⟩
def shAm (m r : Nat) : Shp := ⟨[r], 0, m, true⟩

/-- Is the Kid at that place left out? -/
def noneAt (ks : List MT) (i : Nat) : Bool := (ks[i]?).any fun x => x.kind == 16

/-- The shape of a node of a kind that stands in a role. -/
def shOf (k : Int) (ks : List MT) (rl : Nat) : Shp :=
  if k == 1 then shAl 0 [2] else
  if k == 2 then shEx [5] else
  if k == 3 then shAm 30 3 else
  if k == 4 then shAm 60 4 else
  if k == 5 then shEx [8, 11] else
  if k == 6 then shEx [6, 8, 11] else
  if k == 7 then shEx [18] else
  if k == 12 then shEx [7] else
  if k == 13 then shAm 12 9 else
  if k == 15 then shEx [9] else
  if k == 17 then shAl 0 [12] else
  if k == 18 then shEx [18] else
  if k == 19 then shEx [9, 9, 15] else
  if k == 20 then shEx [14, 18] else
  if k == 21 then shEx [9, 9, 15] else
  if k == 22 then shEx [18, 11, 13] else
  if k == 23 then shEx [19, 11] else
  if k == 24 then shEx [10, 10, 18, 11] else
  if k == 25 then shAl 1 [19, 21] else
  if k == 26 then shAl 2 [10, 18, 22] else
  if k == 27 then (if rl == 22 then shEx [24, 11] else shEx [23, 11]) else
  if k == 28 then shEx [19] else
  if k == 29 then shEx [16] else
  if k == 30 then shEx [16] else
  if k == 34 then shEx [14] else
  if k == 38 then (if rl == 23 then shAl 1 [18] else if rl == 24 then shAl 1 [26] else shAl 0 [18]) else
  if k == 39 then shAl 0 [28] else
  if k == 40 then (if rl == 29 then shEx [18] else shEx [18, 18]) else
  if k == 41 then shAl 0 [29] else
  if k == 42 then shEx [30] else
  if k == 43 then shEx [8, 11] else
  if k == 44 then shEx [27] else
  if k == 45 then shEx [18] else
  if k == 46 then shEx [18, 18] else
  if k == 47 then shEx [18, 19, 19, if noneAt ks 2 then 20 else 19] else
  if k == 48 then shAl 1 [17, 18] else
  if k == 49 then shEx [18, 25] else
  if k == 50 then shEx [18] else
  if k == 51 then shEx [18, 18] else
  shEx []

def kindsN (rl : Nat) : Nat := [4503599627370494, 0, 252, 1792, 2560, 16384, 4096, 49152, 8192, 16384, 81920, 131072, 34225389568, 4390912, 1231453023125504, 633318697598976, 281474976710656, 4502465756020736, 4502465756020736, 4502465756086272, 65536, 134217728, 134217728, 274877972480, 274877972480, 49152, 49152, 49152, 1099511627776, 1099511627776, 2199023255552].getD rl 0
/-- May a kind have the role? -/
def takesB (rl : Nat) (k : Int) : Bool := decide (1 ≤ k) && decide (k ≤ 51) && (kindsN rl).testBit k.toNat
/-- A node's number. -/
def numB (k n : Int) : Bool := n == 0 || (k == 11 && decide (0 < n) && decide (n ≤ 12))

def wMap : Bytes := [109, 97, 112]
def wFunc : Bytes := [102, 117, 110, 99]
def wAny : Bytes := [97, 110, 121]
def wNil : Bytes := [110, 105, 108]
def wTrue : Bytes := [116, 114, 117, 101]
def wFalse : Bytes := [102, 97, 108, 115, 101]
/-- The words that a name may be in a role. -/
def wordsN (rl : Nat) : List Bytes :=
  if rl == 0 then [wTrue, wFalse, wNil, wMap, wAny, wFunc] else if rl == 18 || rl == 19 then [wTrue, wFalse, wNil] else if rl == 17 then [wTrue, wFalse, wNil, wMap]
  else if rl == 5 || rl == 27 then [wMap, wFunc] else if rl == 25 then [wMap, wFunc, wAny] else if rl == 26 then [wMap, wFunc, wAny, wNil] else []

def nameB (s : Bytes) : Bool := isName s && !(s == [95])
def tokB (s : Bytes) (kd : Nat) : Bool :=
  match scanSpec s with
  | .error _ => false
  | .ok ts => ts.length == 2 && (ts.getD 0 (0, [], 0)).1 == kd && (ts.getD 0 (0, [], 0)).2.1 == s
def assignB (s : Bytes) : Bool := [[61], [43, 61], [45, 61], [42, 61], [47, 61], [37, 61], [38, 61], [124, 61], [94, 61], [60, 60, 61], [62, 62, 61]].contains s
def unaryB (s : Bytes) : Bool := [[45], [33], [94], [42]].contains s
def binB (s : Bytes) : Bool := [[124, 124], [38, 38], [61, 61], [33, 61], [60], [60, 61], [62], [62, 61], [43], [45], [124], [94], [42], [47], [37], [38], [60, 60], [62, 62]].contains s

/-- May a node's text be, in its role? -/
def textB (k : Int) (s : Bytes) (rl : Nat) : Bool :=
  if ([2, 3, 4, 5, 6, 7, 8, 9, 10, 11, 12, 18, 41, 45] : List Int).contains k then nameB s
  else if ([23, 24, 25, 26, 31, 32] : List Int).contains k then s == [] || nameB s
  else if k == 14 then nameB s || (wordsN rl).contains s
  else if k == 40 then (rl == 28 && s == []) || (rl == 29 && nameB s)
  else if k == 20 then assignB s
  else if k == 34 then s == [43, 43] || s == [45, 45]
  else if k == 35 then tokB s 4
  else if k == 36 then tokB s 5
  else if k == 37 then decide (s.length ≤ 65536)
  else if k == 50 then unaryB s && (s == [42] || !(rl == 14))
  else if k == 51 then binB s
  else s == []

/-- What is wrong with how many Kids there are. -/
def faultSh (S : Shp) (n : Nat) : Nat := if n < S.least then 20 else if S.most < 0 ∨ (n : Int) ≤ S.most then 0 else if S.crowded then 22 else 20

/-- A case that is a default. -/
def isDef (x : MT) : Bool := x.kind == 27 && (x.kids[0]?).any fun y => y.kind == 16
/-- The place of the second default; -1: there is none. -/
def secDef : List MT → Nat → Nat → Int
  | [], _, _ => -1
  | x :: xs, d, i => if d + (isDef x).toNat = 2 then i else secDef xs (d + (isDef x).toNat) (i + 1)

def roleAt (S : Shp) (i : Nat) : Nat := S.roles.getD (min i (S.roles.length - 1)) 0
/-- The roles of a node's Kids. -/
def rolesOf (t : MT) (rl : Nat) (i : Nat) : Nat := if (i : Int) = secDef t.kids 0 0 then 1 else roleAt (shOf t.kind t.kids rl) i

/-- What is wrong with a node by itself, where it stands. -/
def nodeFault (t : MT) (rl a : Nat) (fits : Bool) : Nat :=
  if 20000 ≤ a then 22 else if fits = false then 21
  else if (takesB rl t.kind && textB t.kind t.text.data.toList rl && numB t.kind t.num) = false then 20 else faultSh (shOf t.kind t.kids rl) t.kids.length

def chkK (f : MT → Nat → Nat → Except (Nat × MT) Nat) (rs : Nat → Nat) : Nat → List MT → Nat → Except (Nat × MT) Nat
  | _, [], a => .ok a
  | i, x :: xs, a => match f x (rs i) a with
    | .error e => .error e
    | .ok b => chkK f rs (i + 1) xs b

/-- What is wrong first with a tree, or how many nodes stand ahead of what follows it; f: how much deeper it may go. -/
def chk : Nat → MT → Nat → Nat → Except (Nat × MT) Nat
  | 0, t, rl, a => .error (nodeFault t rl a false, t)
  | f + 1, t, rl, a => if nodeFault t rl a true = 0 then chkK (chk f) (rolesOf t rl) 0 t.kids (a + 1) else .error (nodeFault t rl a true, t)

/-- Has a case's list something that can be nothing but a type? -/
def listsT (t : MT) : Bool := (t.kids[0]?).any fun x => x.kids.any fun y => y.kind == 15 || (y.kind == 14 && [wMap, wFunc, wAny].contains y.text.data.toList)
/-- The role of a tree's own node. -/
def ownR (t : MT) : Nat :=
  if t.kind == 40 then (if t.text.data.toList == [] then 28 else 29) else if t.kind == 27 then (if listsT t then 22 else 21) else 0
/-- What is wrong first with a tree. -/
def rightSpec (t : MT) : Except (Nat × MT) Nat := chk 60 t (ownR t) 0
end Go.Proofs.YthbnegggohegkaaGreatDoor
namespace Go.Proofs.YthbnegggohegkaaGreatDoor
open Go.RowKit

/-- The five cells of a node, as they are handed over. -/
abbrev nd (k : Int) (s : ByteArray) (n a : Int) (p : Option Addr) (m c : Nat) : Array Value := #[.int .i64 k, .string s, .int .i64 n, .int .i64 a, .slice p m c]

/-- A row of roles, in memory from lo on. -/
def RolesAt (w : World) (lo : Nat) (p : Option Addr) (rs : List Nat) : Prop :=
  (rs = [] ∧ p = none) ∨ ∃ g, p = some ⟨g, 0, none⟩ ∧ lo ≤ g ∧ g < w.heap.size ∧ ∀ (i : Nat) (h : i < rs.length), w.cell? ⟨g, i, none⟩ = some (.int .i64 (rs[i] : Nat))
abbrev shV (S : Shp) (p : Option Addr) : Array Value := #[.slice p S.roles.length S.roles.length, .int .i64 S.least, .int .i64 S.most, .bool S.crowded]
/-- A shape that is answered. -/
def ShP (S : Shp) (w : World) (e : Ending) (w' : World) : Prop := ∃ p, e = .returned (.agg (shV S p)) ∧ RolesAt w' w.heap.size p S.roles ∧ Below w.heap.size w w'

theorem RolesAt.below {w w' : World} {lo : Nat} {p : Option Addr} {rs : List Nat} (h : RolesAt w lo p rs) {B : Nat} (hB : w.heap.size ≤ B) (hb : Below B w w') : RolesAt w' lo p rs := by
  rcases h with h | ⟨g, h1, h2, h3, h4⟩
  · exact .inl h
  · exact .inr ⟨g, h1, h2, by have := hb.size; omega, fun i hi => (hb.cell (p := ⟨g, i, none⟩) (by show g < B; omega)).trans (h4 i hi)⟩
theorem RolesAt.mono {w : World} {lo lo' : Nat} {p : Option Addr} {rs : List Nat} (h : RolesAt w lo p rs) (hl : lo' ≤ lo) : RolesAt w lo' p rs := by
  rcases h with h | ⟨g, h1, h2, h3, h4⟩
  · exact .inl h
  · exact .inr ⟨g, h1, by omega, h3, h4⟩
theorem RolesAt.set {w : World} {lo : Nat} {p : Option Addr} {rs : List Nat} (h : RolesAt w lo p rs) {b j : Nat} (hb : b < lo) (v : Value) : RolesAt (w.setCell ⟨b, j, none⟩ v) lo p rs := by
  rcases h with h | ⟨g, h1, h2, h3, h4⟩
  · exact .inl h
  · exact .inr ⟨g, h1, h2, by simpa using h3, fun i hi => (World.cell?_of_block (a := ⟨g, i, none⟩) (Below.heap_setCell w ⟨b, j, none⟩ v g (by show g ≠ b; omega))).trans (h4 i hi)⟩

theorem cell_mid (W : World) (cs : Array Value) (t : TypeId) (n i : Nat) (v : Value) (hn : n = W.heap.size) (h : cs[i]? = some v) : (W.alloc (.cells cs t)).cell? ⟨n, i, none⟩ = some v := by
  subst hn
  rw [World.cell?_alloc_new]; exact h

set_option maxHeartbeats 400000 in
theorem atLeast_any (l : Int) (p : Option Addr) (n c : Nat) (w : World) :
    Calls Tryz.prog 116 #[.int .i64 l, .slice p n c] w fun e w' => e = .returned (.agg #[.slice p n c, .int .i64 l, .int .i64 (-1), .bool false]) ∧ w' = w.alloc (.cells #[.slice p n c, .int .i64 l, .int .i64 (-1), .bool false] 94) := by
  go_enter Tryz.func116, Tryz.ntmps116
  go_wp2
  exact bodyPost_ret (v := .agg #[.slice p n c, .int .i64 l, .int .i64 (-1), .bool false]) (by simp [results, Tryz.results116, go_sem]) rfl ⟨rfl, rfl⟩

set_option maxHeartbeats 400000 in
theorem atMost_any (l r : Int) (w : World) :
    Calls Tryz.prog 118 #[.int .i64 l, .int .i64 r] w fun e w' => e = .returned (.agg #[.slice (some ⟨w.heap.size + 1, 0, none⟩) 1 1, .int .i64 0, .int .i64 l, .bool true]) ∧ w' = (w.alloc (.cells #[.slice (some ⟨w.heap.size + 1, 0, none⟩) 1 1, .int .i64 0, .int .i64 l, .bool true] 94)).alloc (.cells #[.int .i64 r] 65) := by
  go_enter Tryz.func118, Tryz.ntmps118
  go_wp2
  exact bodyPost_ret (v := .agg #[.slice (some ⟨w.heap.size + 1, 0, none⟩) 1 1, .int .i64 0, .int .i64 l, .bool true]) (by simp [results, Tryz.results118, go_sem]) rfl ⟨rfl, rfl⟩
end Go.Proofs.YthbnegggohegkaaGreatDoor
namespace Go.Proofs.YthbnegggohegkaaGreatDoor
open Go.RowKit

theorem text_eq {s : ByteArray} {l : List UInt8} (h : s.data.toList = l) : s = ⟨l.toArray⟩ := by
  obtain ⟨d⟩ := s
  subst h
  simp

set_option maxHeartbeats 2000000 in
theorem assign_any (s : ByteArray) (w : World) : Calls Tryz.prog 124 #[.string s] w fun e w' => e = .returned (.bool (assignB s.data.toList)) ∧ w' = w := by
  by_cases h0 : s.data.toList = [61]
  · obtain rfl := text_eq h0
    go_enter Tryz.func124, Tryz.ntmps124
    go_wp2
    go_ret
    exact ⟨rfl, rfl⟩
  by_cases h1 : s.data.toList = [43, 61]
  · obtain rfl := text_eq h1
    go_enter Tryz.func124, Tryz.ntmps124
    go_wp2
    go_ret
    exact ⟨rfl, rfl⟩
  by_cases h2 : s.data.toList = [45, 61]
  · obtain rfl := text_eq h2
    go_enter Tryz.func124, Tryz.ntmps124
    go_wp2
    go_ret
    exact ⟨rfl, rfl⟩
  by_cases h3 : s.data.toList = [42, 61]
  · obtain rfl := text_eq h3
    go_enter Tryz.func124, Tryz.ntmps124
    go_wp2
    go_ret
    exact ⟨rfl, rfl⟩
  by_cases h4 : s.data.toList = [47, 61]
  · obtain rfl := text_eq h4
    go_enter Tryz.func124, Tryz.ntmps124
    go_wp2
    go_ret
    exact ⟨rfl, rfl⟩
  by_cases h5 : s.data.toList = [37, 61]
  · obtain rfl := text_eq h5
    go_enter Tryz.func124, Tryz.ntmps124
    go_wp2
    go_ret
    exact ⟨rfl, rfl⟩
  by_cases h6 : s.data.toList = [38, 61]
  · obtain rfl := text_eq h6
    go_enter Tryz.func124, Tryz.ntmps124
    go_wp2
    go_ret
    exact ⟨rfl, rfl⟩
  by_cases h7 : s.data.toList = [124, 61]
  · obtain rfl := text_eq h7
    go_enter Tryz.func124, Tryz.ntmps124
    go_wp2
    go_ret
    exact ⟨rfl, rfl⟩
  by_cases h8 : s.data.toList = [94, 61]
  · obtain rfl := text_eq h8
    go_enter Tryz.func124, Tryz.ntmps124
    go_wp2
    go_ret
    exact ⟨rfl, rfl⟩
  by_cases h9 : s.data.toList = [60, 60, 61]
  · obtain rfl := text_eq h9
    go_enter Tryz.func124, Tryz.ntmps124
    go_wp2
    go_ret
    exact ⟨rfl, rfl⟩
  by_cases h10 : s.data.toList = [62, 62, 61]
  · obtain rfl := text_eq h10
    go_enter Tryz.func124, Tryz.ntmps124
    go_wp2
    go_ret
    exact ⟨rfl, rfl⟩
  have e : assignB s.data.toList = false := by
    simp [assignB, h0, h1, h2, h3, h4, h5, h6, h7, h8, h9, h10]
  rw [e]
  have g0 : (s.toList == [61]) = false := by rw [ByteArray.toList_eq]; exact beq_false_of_ne h0
  have g1 : (s.toList == [43, 61]) = false := by rw [ByteArray.toList_eq]; exact beq_false_of_ne h1
  have g2 : (s.toList == [45, 61]) = false := by rw [ByteArray.toList_eq]; exact beq_false_of_ne h2
  have g3 : (s.toList == [42, 61]) = false := by rw [ByteArray.toList_eq]; exact beq_false_of_ne h3
  have g4 : (s.toList == [47, 61]) = false := by rw [ByteArray.toList_eq]; exact beq_false_of_ne h4
  have g5 : (s.toList == [37, 61]) = false := by rw [ByteArray.toList_eq]; exact beq_false_of_ne h5
  have g6 : (s.toList == [38, 61]) = false := by rw [ByteArray.toList_eq]; exact beq_false_of_ne h6
  have g7 : (s.toList == [124, 61]) = false := by rw [ByteArray.toList_eq]; exact beq_false_of_ne h7
  have g8 : (s.toList == [94, 61]) = false := by rw [ByteArray.toList_eq]; exact beq_false_of_ne h8
  have g9 : (s.toList == [60, 60, 61]) = false := by rw [ByteArray.toList_eq]; exact beq_false_of_ne h9
  have g10 : (s.toList == [62, 62, 61]) = false := by rw [ByteArray.toList_eq]; exact beq_false_of_ne h10
  clear e h0 h1 h2 h3 h4 h5 h6 h7 h8 h9 h10
  go_enter Tryz.func124, Tryz.ntmps124
  go_wp2
  go_ret
  exact ⟨rfl, rfl⟩

set_option maxHeartbeats 2000000 in
theorem isUnary_any (s : ByteArray) (w : World) : Calls Tryz.prog 126 #[.string s] w fun e w' => e = .returned (.bool (unaryB s.data.toList)) ∧ w' = w := by
  by_cases h0 : s.data.toList = [45]
  · obtain rfl := text_eq h0
    go_enter Tryz.func126, Tryz.ntmps126
    go_wp2
    go_ret
    exact ⟨rfl, rfl⟩
  by_cases h1 : s.data.toList = [33]
  · obtain rfl := text_eq h1
    go_enter Tryz.func126, Tryz.ntmps126
    go_wp2
    go_ret
    exact ⟨rfl, rfl⟩
  by_cases h2 : s.data.toList = [94]
  · obtain rfl := text_eq h2
    go_enter Tryz.func126, Tryz.ntmps126
    go_wp2
    go_ret
    exact ⟨rfl, rfl⟩
  by_cases h3 : s.data.toList = [42]
  · obtain rfl := text_eq h3
    go_enter Tryz.func126, Tryz.ntmps126
    go_wp2
    go_ret
    exact ⟨rfl, rfl⟩
  have e : unaryB s.data.toList = false := by
    simp [unaryB, h0, h1, h2, h3]
  rw [e]
  have g0 : (s.toList == [45]) = false := by rw [ByteArray.toList_eq]; exact beq_false_of_ne h0
  have g1 : (s.toList == [33]) = false := by rw [ByteArray.toList_eq]; exact beq_false_of_ne h1
  have g2 : (s.toList == [94]) = false := by rw [ByteArray.toList_eq]; exact beq_false_of_ne h2
  have g3 : (s.toList == [42]) = false := by rw [ByteArray.toList_eq]; exact beq_false_of_ne h3
  clear e h0 h1 h2 h3
  go_enter Tryz.func126, Tryz.ntmps126
  go_wp2
  go_ret
  exact ⟨rfl, rfl⟩

/-- How close a sign binds; 0: it is none. -/
def levelN (s : Bytes) : Nat :=
  if [[124, 124]].contains s then 1 else
  if [[38, 38]].contains s then 2 else
  if [[61, 61], [33, 61], [60], [60, 61], [62], [62, 61]].contains s then 3 else
  if [[43], [45], [124], [94]].contains s then 4 else
  if [[42], [47], [37], [38], [60, 60], [62, 62]].contains s then 5 else
  0
theorem bin_level (s : Bytes) : binB s = decide (0 < levelN s) := by
  unfold binB levelN
  by_cases h0 : s = [124, 124]
  · subst h0; rfl
  by_cases h1 : s = [38, 38]
  · subst h1; rfl
  by_cases h2 : s = [61, 61]
  · subst h2; rfl
  by_cases h3 : s = [33, 61]
  · subst h3; rfl
  by_cases h4 : s = [60]
  · subst h4; rfl
  by_cases h5 : s = [60, 61]
  · subst h5; rfl
  by_cases h6 : s = [62]
  · subst h6; rfl
  by_cases h7 : s = [62, 61]
  · subst h7; rfl
  by_cases h8 : s = [43]
  · subst h8; rfl
  by_cases h9 : s = [45]
  · subst h9; rfl
  by_cases h10 : s = [124]
  · subst h10; rfl
  by_cases h11 : s = [94]
  · subst h11; rfl
  by_cases h12 : s = [42]
  · subst h12; rfl
  by_cases h13 : s = [47]
  · subst h13; rfl
  by_cases h14 : s = [37]
  · subst h14; rfl
  by_cases h15 : s = [38]
  · subst h15; rfl
  by_cases h16 : s = [60, 60]
  · subst h16; rfl
  by_cases h17 : s = [62, 62]
  · subst h17; rfl
  simp [h0, h1, h2, h3, h4, h5, h6, h7, h8, h9, h10, h11, h12, h13, h14, h15, h16, h17]

set_option maxHeartbeats 2000000 in
theorem level_any (s : ByteArray) (w : World) : Calls Tryz.prog 127 #[.string s] w fun e w' => e = .returned (.int .i64 (levelN s.data.toList : Nat)) ∧ w' = w := by
  by_cases h0 : s.data.toList = [124, 124]
  · obtain rfl := text_eq h0
    go_enter Tryz.func127, Tryz.ntmps127
    go_wp2
    go_ret
    exact ⟨rfl, rfl⟩
  by_cases h1 : s.data.toList = [38, 38]
  · obtain rfl := text_eq h1
    go_enter Tryz.func127, Tryz.ntmps127
    go_wp2
    go_ret
    exact ⟨rfl, rfl⟩
  by_cases h2 : s.data.toList = [61, 61]
  · obtain rfl := text_eq h2
    go_enter Tryz.func127, Tryz.ntmps127
    go_wp2
    go_ret
    exact ⟨rfl, rfl⟩
  by_cases h3 : s.data.toList = [33, 61]
  · obtain rfl := text_eq h3
    go_enter Tryz.func127, Tryz.ntmps127
    go_wp2
    go_ret
    exact ⟨rfl, rfl⟩
  by_cases h4 : s.data.toList = [60]
  · obtain rfl := text_eq h4
    go_enter Tryz.func127, Tryz.ntmps127
    go_wp2
    go_ret
    exact ⟨rfl, rfl⟩
  by_cases h5 : s.data.toList = [60, 61]
  · obtain rfl := text_eq h5
    go_enter Tryz.func127, Tryz.ntmps127
    go_wp2
    go_ret
    exact ⟨rfl, rfl⟩
  by_cases h6 : s.data.toList = [62]
  · obtain rfl := text_eq h6
    go_enter Tryz.func127, Tryz.ntmps127
    go_wp2
    go_ret
    exact ⟨rfl, rfl⟩
  by_cases h7 : s.data.toList = [62, 61]
  · obtain rfl := text_eq h7
    go_enter Tryz.func127, Tryz.ntmps127
    go_wp2
    go_ret
    exact ⟨rfl, rfl⟩
  by_cases h8 : s.data.toList = [43]
  · obtain rfl := text_eq h8
    go_enter Tryz.func127, Tryz.ntmps127
    go_wp2
    go_ret
    exact ⟨rfl, rfl⟩
  by_cases h9 : s.data.toList = [45]
  · obtain rfl := text_eq h9
    go_enter Tryz.func127, Tryz.ntmps127
    go_wp2
    go_ret
    exact ⟨rfl, rfl⟩
  by_cases h10 : s.data.toList = [124]
  · obtain rfl := text_eq h10
    go_enter Tryz.func127, Tryz.ntmps127
    go_wp2
    go_ret
    exact ⟨rfl, rfl⟩
  by_cases h11 : s.data.toList = [94]
  · obtain rfl := text_eq h11
    go_enter Tryz.func127, Tryz.ntmps127
    go_wp2
    go_ret
    exact ⟨rfl, rfl⟩
  by_cases h12 : s.data.toList = [42]
  · obtain rfl := text_eq h12
    go_enter Tryz.func127, Tryz.ntmps127
    go_wp2
    go_ret
    exact ⟨rfl, rfl⟩
  by_cases h13 : s.data.toList = [47]
  · obtain rfl := text_eq h13
    go_enter Tryz.func127, Tryz.ntmps127
    go_wp2
    go_ret
    exact ⟨rfl, rfl⟩
  by_cases h14 : s.data.toList = [37]
  · obtain rfl := text_eq h14
    go_enter Tryz.func127, Tryz.ntmps127
    go_wp2
    go_ret
    exact ⟨rfl, rfl⟩
  by_cases h15 : s.data.toList = [38]
  · obtain rfl := text_eq h15
    go_enter Tryz.func127, Tryz.ntmps127
    go_wp2
    go_ret
    exact ⟨rfl, rfl⟩
  by_cases h16 : s.data.toList = [60, 60]
  · obtain rfl := text_eq h16
    go_enter Tryz.func127, Tryz.ntmps127
    go_wp2
    go_ret
    exact ⟨rfl, rfl⟩
  by_cases h17 : s.data.toList = [62, 62]
  · obtain rfl := text_eq h17
    go_enter Tryz.func127, Tryz.ntmps127
    go_wp2
    go_ret
    exact ⟨rfl, rfl⟩
  have e : levelN s.data.toList = 0 := by
    simp [levelN, h0, h1, h2, h3, h4, h5, h6, h7, h8, h9, h10, h11, h12, h13, h14, h15, h16, h17]
  rw [e]
  have g0 : (s.toList == [124, 124]) = false := by rw [ByteArray.toList_eq]; exact beq_false_of_ne h0
  have g1 : (s.toList == [38, 38]) = false := by rw [ByteArray.toList_eq]; exact beq_false_of_ne h1
  have g2 : (s.toList == [61, 61]) = false := by rw [ByteArray.toList_eq]; exact beq_false_of_ne h2
  have g3 : (s.toList == [33, 61]) = false := by rw [ByteArray.toList_eq]; exact beq_false_of_ne h3
  have g4 : (s.toList == [60]) = false := by rw [ByteArray.toList_eq]; exact beq_false_of_ne h4
  have g5 : (s.toList == [60, 61]) = false := by rw [ByteArray.toList_eq]; exact beq_false_of_ne h5
  have g6 : (s.toList == [62]) = false := by rw [ByteArray.toList_eq]; exact beq_false_of_ne h6
  have g7 : (s.toList == [62, 61]) = false := by rw [ByteArray.toList_eq]; exact beq_false_of_ne h7
  have g8 : (s.toList == [43]) = false := by rw [ByteArray.toList_eq]; exact beq_false_of_ne h8
  have g9 : (s.toList == [45]) = false := by rw [ByteArray.toList_eq]; exact beq_false_of_ne h9
  have g10 : (s.toList == [124]) = false := by rw [ByteArray.toList_eq]; exact beq_false_of_ne h10
  have g11 : (s.toList == [94]) = false := by rw [ByteArray.toList_eq]; exact beq_false_of_ne h11
  have g12 : (s.toList == [42]) = false := by rw [ByteArray.toList_eq]; exact beq_false_of_ne h12
  have g13 : (s.toList == [47]) = false := by rw [ByteArray.toList_eq]; exact beq_false_of_ne h13
  have g14 : (s.toList == [37]) = false := by rw [ByteArray.toList_eq]; exact beq_false_of_ne h14
  have g15 : (s.toList == [38]) = false := by rw [ByteArray.toList_eq]; exact beq_false_of_ne h15
  have g16 : (s.toList == [60, 60]) = false := by rw [ByteArray.toList_eq]; exact beq_false_of_ne h16
  have g17 : (s.toList == [62, 62]) = false := by rw [ByteArray.toList_eq]; exact beq_false_of_ne h17
  clear e h0 h1 h2 h3 h4 h5 h6 h7 h8 h9 h10 h11 h12 h13 h14 h15 h16 h17
  go_enter Tryz.func127, Tryz.ntmps127
  go_wp2
  go_ret
  exact ⟨rfl, rfl⟩

set_option maxRecDepth 100000 in
set_option maxHeartbeats 1000000 in
theorem treeName_any {gw ow gs os : Nat} (s : ByteArray) (w : World) (ht : TabsAt gw ow gs os w) :
    Calls Tryz.prog 121 #[.string s] w fun e w' => e = .returned (.bool (nameB s.data.toList)) ∧ Below w.heap.size w w' := by
  by_cases h0 : s.data.toList = [95]
  · obtain rfl := text_eq h0
    have hn : isName [95] = true := by kernel_rfl
    have hv : nameB (ByteArray.mk [95].toArray).data.toList = false := by kernel_rfl
    rw [hv]
    clear h0 hv
    go_enter Tryz.func121, Tryz.ntmps121
    go_wp2_with fail
    refine (name_any _ _ ht).mono ?_
    rintro e w1 ⟨rfl, hb⟩
    rw [show isName (ByteArray.mk #[95]).data.toList = true from hn]
    go_wp2_with fail
    go_ret
    exact ⟨rfl, hb⟩
  have g0 : (s.toList == [95]) = false := by rw [ByteArray.toList_eq]; exact beq_false_of_ne h0
  have hv : nameB s.data.toList = isName s.data.toList := by unfold nameB; rw [beq_false_of_ne h0]; simp
  rw [hv]
  clear h0 hv
  obtain ⟨q, hq⟩ : ∃ q, q = isName s.data.toList := ⟨_, rfl⟩
  have HQ : Hid (q = isName s.data.toList) := hq
  rw [← hq]
  clear hq
  cases q
  all_goals
    go_enter Tryz.func121, Tryz.ntmps121
    go_wp2_with fail
    refine (name_any _ _ ht).mono ?_
    rintro e w1 ⟨rfl, hb⟩
    rw [← HQ.out]
    go_wp2_with fail
    go_ret
    exact ⟨rfl, hb⟩
end Go.Proofs.YthbnegggohegkaaGreatDoor
namespace Go.Proofs.YthbnegggohegkaaGreatDoor
open Go.RowKit

theorem role_cases {rl : Nat} (h : rl ≤ 30) : rl = 0 ∨ rl = 1 ∨ rl = 2 ∨ rl = 3 ∨ rl = 4 ∨ rl = 5 ∨ rl = 6 ∨ rl = 7 ∨ rl = 8 ∨ rl = 9 ∨ rl = 10 ∨ rl = 11 ∨ rl = 12 ∨ rl = 13 ∨ rl = 14 ∨ rl = 15 ∨ rl = 16 ∨ rl = 17 ∨ rl = 18 ∨ rl = 19 ∨ rl = 20 ∨ rl = 21 ∨ rl = 22 ∨ rl = 23 ∨ rl = 24 ∨ rl = 25 ∨ rl = 26 ∨ rl = 27 ∨ rl = 28 ∨ rl = 29 ∨ rl = 30 := by omega

set_option maxHeartbeats 2000000 in
theorem kinds_any (rl : Nat) (has : rl ≤ 30) (w : World) : Calls Tryz.prog 99 #[.int .i64 rl] w fun e w' => e = .returned (.int .u64 (kindsN rl)) ∧ w' = w := by
  rcases role_cases has with rfl | rfl | rfl | rfl | rfl | rfl | rfl | rfl | rfl | rfl | rfl | rfl | rfl | rfl | rfl | rfl | rfl | rfl | rfl | rfl | rfl | rfl | rfl | rfl | rfl | rfl | rfl | rfl | rfl | rfl | rfl
  all_goals
    go_enter Tryz.func99, Tryz.ntmps99
    go_wp2
    go_ret
    exact ⟨rfl, rfl⟩

theorem bit_any (rl : Nat) (h : rl ≤ 30) (n : Nat) (hn : n < 52) : (bits BinOp.and IntKind.u64 (((kindsN rl : Nat) : Int) / 2 ^ n) 1 == 1) = (kindsN rl).testBit n := by
  have e : ∀ r : Fin 31, ∀ n : Fin 52, (bits BinOp.and IntKind.u64 (((kindsN r.val : Nat) : Int) / 2 ^ n.val) 1 == 1) = (kindsN r.val).testBit n.val := by decide +kernel
  exact e ⟨rl, by omega⟩ ⟨n, hn⟩

set_option maxHeartbeats 1000000 in
theorem takes_any (rl : Nat) (has : rl ≤ 30) (k : Int) (w : World) : Calls Tryz.prog 66 #[.int .i64 rl, .int .i64 k] w fun e w' => e = .returned (.bool (takesB rl k)) ∧ w' = w := by
  have HK : Hid _ := kinds_any rl has
  by_cases h1 : 1 ≤ k
  · by_cases h2 : k ≤ 51
    · have hv : takesB rl k = (kindsN rl).testBit k.toNat := by unfold takesB; rw [decide_eq_true h1, decide_eq_true h2]; rfl
      rw [hv]
      have HQ : Hid _ := bit_any rl has k.toNat (by omega)
      clear hv
      generalize (kindsN rl).testBit k.toNat = q at HQ ⊢
      generalize kindsN rl = K at HK HQ
      go_enter Tryz.func66, Tryz.ntmps66
      go_wp2_with fail
      refine (HK.out _).mono ?_
      rintro e w1 ⟨rfl, rfl⟩
      go_wp2_with fail
      go_ret
      exact ⟨congrArg (fun b => Ending.returned (.bool b)) HQ.out, rfl⟩
    · have hv : takesB rl k = false := by unfold takesB; rw [decide_eq_false h2]; simp
      rw [hv]
      go_enter Tryz.func66, Tryz.ntmps66
      go_wp2
      go_ret
      exact ⟨rfl, rfl⟩
  · have hv : takesB rl k = false := by unfold takesB; rw [decide_eq_false h1]; simp
    rw [hv]
    go_enter Tryz.func66, Tryz.ntmps66
    go_wp2
    go_ret
    exact ⟨rfl, rfl⟩
end Go.Proofs.YthbnegggohegkaaGreatDoor
namespace Go.Proofs.YthbnegggohegkaaGreatDoor
open Go.RowKit

set_option maxHeartbeats 1000000 in
theorem decl_1 (s : ByteArray) (n a : Int) (p : Option Addr) (m c : Nat) (w : World) : Calls Tryz.prog 87 #[.agg (nd 1 s n a p m c)] w (ShP (shAl 0 [2]) w) := by
  go_enter Tryz.func87, Tryz.ntmps87
  go_wp2_with fail
  refine (atLeast_any _ _ _ _ _).mono ?_
  rintro e w1 ⟨rfl, rfl⟩
  go_wp2_with fail
  refine bodyPost_ret (v := .agg #[.slice (some ⟨w.heap.size + 1 + 1, 0, none⟩) 1 1, .int .i64 0, .int .i64 (-1), .bool false]) (by simp [results, Tryz.results87, go_sem]) rfl ⟨_, rfl, ?_, below4 _ _ _ _ _⟩
  exact .inr ⟨_, rfl, by omega, by simp <;> omega, fun i hi => by
      match i, hi with
      | 0, _ => exact cell_pen _ _ _ _ _ _ _ (by simp) rfl
      | i + 1, h => exact absurd h (by show ¬ (i + 1 < 1); omega)⟩


set_option maxHeartbeats 1000000 in
theorem decl_2 (s : ByteArray) (n a : Int) (p : Option Addr) (m c : Nat) (w : World) : Calls Tryz.prog 87 #[.agg (nd 2 s n a p m c)] w (ShP (shEx [5]) w) := by
  go_enter Tryz.func87, Tryz.ntmps87
  go_wp2_with fail
  refine (exactly_any _ _ _ _).mono ?_
  rintro e w1 ⟨rfl, rfl⟩
  go_wp2_with fail
  refine bodyPost_ret (v := .agg #[.slice (some ⟨w.heap.size + 1 + 1, 0, none⟩) 1 1, .int .i64 1, .int .i64 1, .bool false]) (by simp [results, Tryz.results87, go_sem]) rfl ⟨_, rfl, ?_, below4 _ _ _ _ _⟩
  exact .inr ⟨_, rfl, by omega, by simp <;> omega, fun i hi => by
      match i, hi with
      | 0, _ => exact cell_pen _ _ _ _ _ _ _ (by simp) rfl
      | i + 1, h => exact absurd h (by show ¬ (i + 1 < 1); omega)⟩


set_option maxHeartbeats 1000000 in
theorem decl_3 (s : ByteArray) (n a : Int) (p : Option Addr) (m c : Nat) (w : World) : Calls Tryz.prog 87 #[.agg (nd 3 s n a p m c)] w (ShP (shAm 30 3) w) := by
  go_enter Tryz.func87, Tryz.ntmps87
  go_wp2_with fail
  refine (atMost_any _ _ _).mono ?_
  rintro e w1 ⟨rfl, rfl⟩
  go_wp2_with fail
  refine bodyPost_ret (v := .agg #[.slice (some ⟨w.heap.size + 1 + 1 + 1, 0, none⟩) 1 1, .int .i64 0, .int .i64 30, .bool true]) (by simp [results, Tryz.results87, go_sem]) rfl ⟨_, rfl, ?_, below4 _ _ _ _ _⟩
  exact .inr ⟨_, rfl, by omega, by simp <;> omega, fun i hi => by
      match i, hi with
      | 0, _ => exact cell_mid _ _ _ _ _ _ (by simp) rfl
      | i + 1, h => exact absurd h (by show ¬ (i + 1 < 1); omega)⟩


set_option maxHeartbeats 1000000 in
theorem decl_4 (s : ByteArray) (n a : Int) (p : Option Addr) (m c : Nat) (w : World) : Calls Tryz.prog 87 #[.agg (nd 4 s n a p m c)] w (ShP (shAm 60 4) w) := by
  go_enter Tryz.func87, Tryz.ntmps87
  go_wp2_with fail
  refine (atMost_any _ _ _).mono ?_
  rintro e w1 ⟨rfl, rfl⟩
  go_wp2_with fail
  refine bodyPost_ret (v := .agg #[.slice (some ⟨w.heap.size + 1 + 1 + 1, 0, none⟩) 1 1, .int .i64 0, .int .i64 60, .bool true]) (by simp [results, Tryz.results87, go_sem]) rfl ⟨_, rfl, ?_, below4 _ _ _ _ _⟩
  exact .inr ⟨_, rfl, by omega, by simp <;> omega, fun i hi => by
      match i, hi with
      | 0, _ => exact cell_mid _ _ _ _ _ _ (by simp) rfl
      | i + 1, h => exact absurd h (by show ¬ (i + 1 < 1); omega)⟩


set_option maxHeartbeats 1000000 in
theorem decl_5 (s : ByteArray) (n a : Int) (p : Option Addr) (m c : Nat) (w : World) : Calls Tryz.prog 87 #[.agg (nd 5 s n a p m c)] w (ShP (shEx [8, 11]) w) := by
  go_enter Tryz.func87, Tryz.ntmps87
  go_wp2_with fail
  refine (exactly_any _ _ _ _).mono ?_
  rintro e w1 ⟨rfl, rfl⟩
  go_wp2_with fail
  refine bodyPost_ret (v := .agg #[.slice (some ⟨w.heap.size + 1 + 1, 0, none⟩) 2 2, .int .i64 2, .int .i64 2, .bool false]) (by simp [results, Tryz.results87, go_sem]) rfl ⟨_, rfl, ?_, below4 _ _ _ _ _⟩
  exact .inr ⟨_, rfl, by omega, by simp <;> omega, fun i hi => by
      match i, hi with
      | 0, _ => exact cell_pen _ _ _ _ _ _ _ (by simp) rfl
      | 1, _ => exact cell_pen _ _ _ _ _ _ _ (by simp) rfl
      | i + 2, h => exact absurd h (by show ¬ (i + 2 < 2); omega)⟩


set_option maxHeartbeats 1000000 in
theorem decl_6 (s : ByteArray) (n a : Int) (p : Option Addr) (m c : Nat) (w : World) : Calls Tryz.prog 87 #[.agg (nd 6 s n a p m c)] w (ShP (shEx [6, 8, 11]) w) := by
  go_enter Tryz.func87, Tryz.ntmps87
  go_wp2_with fail
  refine (exactly_any _ _ _ _).mono ?_
  rintro e w1 ⟨rfl, rfl⟩
  go_wp2_with fail
  refine bodyPost_ret (v := .agg #[.slice (some ⟨w.heap.size + 1 + 1, 0, none⟩) 3 3, .int .i64 3, .int .i64 3, .bool false]) (by simp [results, Tryz.results87, go_sem]) rfl ⟨_, rfl, ?_, below4 _ _ _ _ _⟩
  exact .inr ⟨_, rfl, by omega, by simp <;> omega, fun i hi => by
      match i, hi with
      | 0, _ => exact cell_pen _ _ _ _ _ _ _ (by simp) rfl
      | 1, _ => exact cell_pen _ _ _ _ _ _ _ (by simp) rfl
      | 2, _ => exact cell_pen _ _ _ _ _ _ _ (by simp) rfl
      | i + 3, h => exact absurd h (by show ¬ (i + 3 < 3); omega)⟩


set_option maxHeartbeats 1000000 in
theorem decl_7 (s : ByteArray) (n a : Int) (p : Option Addr) (m c : Nat) (w : World) : Calls Tryz.prog 87 #[.agg (nd 7 s n a p m c)] w (ShP (shEx [18]) w) := by
  go_enter Tryz.func87, Tryz.ntmps87
  go_wp2_with fail
  refine (exactly_any _ _ _ _).mono ?_
  rintro e w1 ⟨rfl, rfl⟩
  go_wp2_with fail
  refine bodyPost_ret (v := .agg #[.slice (some ⟨w.heap.size + 1 + 1, 0, none⟩) 1 1, .int .i64 1, .int .i64 1, .bool false]) (by simp [results, Tryz.results87, go_sem]) rfl ⟨_, rfl, ?_, below4 _ _ _ _ _⟩
  exact .inr ⟨_, rfl, by omega, by simp <;> omega, fun i hi => by
      match i, hi with
      | 0, _ => exact cell_pen _ _ _ _ _ _ _ (by simp) rfl
      | i + 1, h => exact absurd h (by show ¬ (i + 1 < 1); omega)⟩


set_option maxHeartbeats 1000000 in
theorem decl_12 (s : ByteArray) (n a : Int) (p : Option Addr) (m c : Nat) (w : World) : Calls Tryz.prog 87 #[.agg (nd 12 s n a p m c)] w (ShP (shEx [7]) w) := by
  go_enter Tryz.func87, Tryz.ntmps87
  go_wp2_with fail
  refine (exactly_any _ _ _ _).mono ?_
  rintro e w1 ⟨rfl, rfl⟩
  go_wp2_with fail
  refine bodyPost_ret (v := .agg #[.slice (some ⟨w.heap.size + 1 + 1, 0, none⟩) 1 1, .int .i64 1, .int .i64 1, .bool false]) (by simp [results, Tryz.results87, go_sem]) rfl ⟨_, rfl, ?_, below4 _ _ _ _ _⟩
  exact .inr ⟨_, rfl, by omega, by simp <;> omega, fun i hi => by
      match i, hi with
      | 0, _ => exact cell_pen _ _ _ _ _ _ _ (by simp) rfl
      | i + 1, h => exact absurd h (by show ¬ (i + 1 < 1); omega)⟩


set_option maxHeartbeats 1000000 in
theorem decl_13 (s : ByteArray) (n a : Int) (p : Option Addr) (m c : Nat) (w : World) : Calls Tryz.prog 87 #[.agg (nd 13 s n a p m c)] w (ShP (shAm 12 9) w) := by
  go_enter Tryz.func87, Tryz.ntmps87
  go_wp2_with fail
  refine (atMost_any _ _ _).mono ?_
  rintro e w1 ⟨rfl, rfl⟩
  go_wp2_with fail
  refine bodyPost_ret (v := .agg #[.slice (some ⟨w.heap.size + 1 + 1 + 1, 0, none⟩) 1 1, .int .i64 0, .int .i64 12, .bool true]) (by simp [results, Tryz.results87, go_sem]) rfl ⟨_, rfl, ?_, below4 _ _ _ _ _⟩
  exact .inr ⟨_, rfl, by omega, by simp <;> omega, fun i hi => by
      match i, hi with
      | 0, _ => exact cell_mid _ _ _ _ _ _ (by simp) rfl
      | i + 1, h => exact absurd h (by show ¬ (i + 1 < 1); omega)⟩


set_option maxHeartbeats 1000000 in
theorem decl_15 (s : ByteArray) (n a : Int) (p : Option Addr) (m c : Nat) (w : World) : Calls Tryz.prog 87 #[.agg (nd 15 s n a p m c)] w (ShP (shEx [9]) w) := by
  go_enter Tryz.func87, Tryz.ntmps87
  go_wp2_with fail
  refine (exactly_any _ _ _ _).mono ?_
  rintro e w1 ⟨rfl, rfl⟩
  go_wp2_with fail
  refine bodyPost_ret (v := .agg #[.slice (some ⟨w.heap.size + 1 + 1, 0, none⟩) 1 1, .int .i64 1, .int .i64 1, .bool false]) (by simp [results, Tryz.results87, go_sem]) rfl ⟨_, rfl, ?_, below4 _ _ _ _ _⟩
  exact .inr ⟨_, rfl, by omega, by simp <;> omega, fun i hi => by
      match i, hi with
      | 0, _ => exact cell_pen _ _ _ _ _ _ _ (by simp) rfl
      | i + 1, h => exact absurd h (by show ¬ (i + 1 < 1); omega)⟩


end Go.Proofs.YthbnegggohegkaaGreatDoor
namespace Go.Proofs.YthbnegggohegkaaGreatDoor
open Go.RowKit

set_option maxHeartbeats 1000000 in
theorem stmt_17 (s : ByteArray) (n a : Int) (p : Option Addr) (m c : Nat) (rl : Nat) (w : World) : Calls Tryz.prog 88 #[.agg (nd 17 s n a p m c), .int .i64 (rl : Nat)] w (ShP (shAl 0 [12]) w) := by
  go_enter Tryz.func88, Tryz.ntmps88
  go_wp2_with fail
  refine (atLeast_any _ _ _ _ _).mono ?_
  rintro e w1 ⟨rfl, rfl⟩
  go_wp2_with fail
  refine bodyPost_ret (v := .agg #[.slice (some ⟨w.heap.size + 1 + 1, 0, none⟩) 1 1, .int .i64 0, .int .i64 (-1), .bool false]) (by simp [results, Tryz.results88, go_sem]) rfl ⟨_, rfl, ?_, below4 _ _ _ _ _⟩
  exact .inr ⟨_, rfl, by omega, by simp <;> omega, fun i hi => by
      match i, hi with
      | 0, _ => exact cell_pen _ _ _ _ _ _ _ (by simp) rfl
      | i + 1, h => exact absurd h (by show ¬ (i + 1 < 1); omega)⟩


set_option maxHeartbeats 1000000 in
theorem stmt_18 (s : ByteArray) (n a : Int) (p : Option Addr) (m c : Nat) (rl : Nat) (w : World) : Calls Tryz.prog 88 #[.agg (nd 18 s n a p m c), .int .i64 (rl : Nat)] w (ShP (shEx [18]) w) := by
  go_enter Tryz.func88, Tryz.ntmps88
  go_wp2_with fail
  refine (exactly_any _ _ _ _).mono ?_
  rintro e w1 ⟨rfl, rfl⟩
  go_wp2_with fail
  refine bodyPost_ret (v := .agg #[.slice (some ⟨w.heap.size + 1 + 1, 0, none⟩) 1 1, .int .i64 1, .int .i64 1, .bool false]) (by simp [results, Tryz.results88, go_sem]) rfl ⟨_, rfl, ?_, below4 _ _ _ _ _⟩
  exact .inr ⟨_, rfl, by omega, by simp <;> omega, fun i hi => by
      match i, hi with
      | 0, _ => exact cell_pen _ _ _ _ _ _ _ (by simp) rfl
      | i + 1, h => exact absurd h (by show ¬ (i + 1 < 1); omega)⟩


set_option maxHeartbeats 1000000 in
theorem stmt_19 (s : ByteArray) (n a : Int) (p : Option Addr) (m c : Nat) (rl : Nat) (w : World) : Calls Tryz.prog 88 #[.agg (nd 19 s n a p m c), .int .i64 (rl : Nat)] w (ShP (shEx [9, 9, 15]) w) := by
  go_enter Tryz.func88, Tryz.ntmps88
  go_wp2_with fail
  refine (exactly_any _ _ _ _).mono ?_
  rintro e w1 ⟨rfl, rfl⟩
  go_wp2_with fail
  refine bodyPost_ret (v := .agg #[.slice (some ⟨w.heap.size + 1 + 1, 0, none⟩) 3 3, .int .i64 3, .int .i64 3, .bool false]) (by simp [results, Tryz.results88, go_sem]) rfl ⟨_, rfl, ?_, below4 _ _ _ _ _⟩
  exact .inr ⟨_, rfl, by omega, by simp <;> omega, fun i hi => by
      match i, hi with
      | 0, _ => exact cell_pen _ _ _ _ _ _ _ (by simp) rfl
      | 1, _ => exact cell_pen _ _ _ _ _ _ _ (by simp) rfl
      | 2, _ => exact cell_pen _ _ _ _ _ _ _ (by simp) rfl
      | i + 3, h => exact absurd h (by show ¬ (i + 3 < 3); omega)⟩


set_option maxHeartbeats 1000000 in
theorem stmt_21 (s : ByteArray) (n a : Int) (p : Option Addr) (m c : Nat) (rl : Nat) (w : World) : Calls Tryz.prog 88 #[.agg (nd 21 s n a p m c), .int .i64 (rl : Nat)] w (ShP (shEx [9, 9, 15]) w) := by
  go_enter Tryz.func88, Tryz.ntmps88
  go_wp2_with fail
  refine (exactly_any _ _ _ _).mono ?_
  rintro e w1 ⟨rfl, rfl⟩
  go_wp2_with fail
  refine bodyPost_ret (v := .agg #[.slice (some ⟨w.heap.size + 1 + 1, 0, none⟩) 3 3, .int .i64 3, .int .i64 3, .bool false]) (by simp [results, Tryz.results88, go_sem]) rfl ⟨_, rfl, ?_, below4 _ _ _ _ _⟩
  exact .inr ⟨_, rfl, by omega, by simp <;> omega, fun i hi => by
      match i, hi with
      | 0, _ => exact cell_pen _ _ _ _ _ _ _ (by simp) rfl
      | 1, _ => exact cell_pen _ _ _ _ _ _ _ (by simp) rfl
      | 2, _ => exact cell_pen _ _ _ _ _ _ _ (by simp) rfl
      | i + 3, h => exact absurd h (by show ¬ (i + 3 < 3); omega)⟩


set_option maxHeartbeats 1000000 in
theorem stmt_20 (s : ByteArray) (n a : Int) (p : Option Addr) (m c : Nat) (rl : Nat) (w : World) : Calls Tryz.prog 88 #[.agg (nd 20 s n a p m c), .int .i64 (rl : Nat)] w (ShP (shEx [14, 18]) w) := by
  go_enter Tryz.func88, Tryz.ntmps88
  go_wp2_with fail
  refine (exactly_any _ _ _ _).mono ?_
  rintro e w1 ⟨rfl, rfl⟩
  go_wp2_with fail
  refine bodyPost_ret (v := .agg #[.slice (some ⟨w.heap.size + 1 + 1, 0, none⟩) 2 2, .int .i64 2, .int .i64 2, .bool false]) (by simp [results, Tryz.results88, go_sem]) rfl ⟨_, rfl, ?_, below4 _ _ _ _ _⟩
  exact .inr ⟨_, rfl, by omega, by simp <;> omega, fun i hi => by
      match i, hi with
      | 0, _ => exact cell_pen _ _ _ _ _ _ _ (by simp) rfl
      | 1, _ => exact cell_pen _ _ _ _ _ _ _ (by simp) rfl
      | i + 2, h => exact absurd h (by show ¬ (i + 2 < 2); omega)⟩


set_option maxHeartbeats 1000000 in
theorem stmt_22 (s : ByteArray) (n a : Int) (p : Option Addr) (m c : Nat) (rl : Nat) (w : World) : Calls Tryz.prog 88 #[.agg (nd 22 s n a p m c), .int .i64 (rl : Nat)] w (ShP (shEx [18, 11, 13]) w) := by
  go_enter Tryz.func88, Tryz.ntmps88
  go_wp2_with fail
  refine (exactly_any _ _ _ _).mono ?_
  rintro e w1 ⟨rfl, rfl⟩
  go_wp2_with fail
  refine bodyPost_ret (v := .agg #[.slice (some ⟨w.heap.size + 1 + 1, 0, none⟩) 3 3, .int .i64 3, .int .i64 3, .bool false]) (by simp [results, Tryz.results88, go_sem]) rfl ⟨_, rfl, ?_, below4 _ _ _ _ _⟩
  exact .inr ⟨_, rfl, by omega, by simp <;> omega, fun i hi => by
      match i, hi with
      | 0, _ => exact cell_pen _ _ _ _ _ _ _ (by simp) rfl
      | 1, _ => exact cell_pen _ _ _ _ _ _ _ (by simp) rfl
      | 2, _ => exact cell_pen _ _ _ _ _ _ _ (by simp) rfl
      | i + 3, h => exact absurd h (by show ¬ (i + 3 < 3); omega)⟩


set_option maxHeartbeats 1000000 in
theorem stmt_23 (s : ByteArray) (n a : Int) (p : Option Addr) (m c : Nat) (rl : Nat) (w : World) : Calls Tryz.prog 88 #[.agg (nd 23 s n a p m c), .int .i64 (rl : Nat)] w (ShP (shEx [19, 11]) w) := by
  go_enter Tryz.func88, Tryz.ntmps88
  go_wp2_with fail
  refine (exactly_any _ _ _ _).mono ?_
  rintro e w1 ⟨rfl, rfl⟩
  go_wp2_with fail
  refine bodyPost_ret (v := .agg #[.slice (some ⟨w.heap.size + 1 + 1, 0, none⟩) 2 2, .int .i64 2, .int .i64 2, .bool false]) (by simp [results, Tryz.results88, go_sem]) rfl ⟨_, rfl, ?_, below4 _ _ _ _ _⟩
  exact .inr ⟨_, rfl, by omega, by simp <;> omega, fun i hi => by
      match i, hi with
      | 0, _ => exact cell_pen _ _ _ _ _ _ _ (by simp) rfl
      | 1, _ => exact cell_pen _ _ _ _ _ _ _ (by simp) rfl
      | i + 2, h => exact absurd h (by show ¬ (i + 2 < 2); omega)⟩


set_option maxHeartbeats 1000000 in
theorem stmt_24 (s : ByteArray) (n a : Int) (p : Option Addr) (m c : Nat) (rl : Nat) (w : World) : Calls Tryz.prog 88 #[.agg (nd 24 s n a p m c), .int .i64 (rl : Nat)] w (ShP (shEx [10, 10, 18, 11]) w) := by
  go_enter Tryz.func88, Tryz.ntmps88
  go_wp2_with fail
  refine (exactly_any _ _ _ _).mono ?_
  rintro e w1 ⟨rfl, rfl⟩
  go_wp2_with fail
  refine bodyPost_ret (v := .agg #[.slice (some ⟨w.heap.size + 1 + 1, 0, none⟩) 4 4, .int .i64 4, .int .i64 4, .bool false]) (by simp [results, Tryz.results88, go_sem]) rfl ⟨_, rfl, ?_, below4 _ _ _ _ _⟩
  exact .inr ⟨_, rfl, by omega, by simp <;> omega, fun i hi => by
      match i, hi with
      | 0, _ => exact cell_pen _ _ _ _ _ _ _ (by simp) rfl
      | 1, _ => exact cell_pen _ _ _ _ _ _ _ (by simp) rfl
      | 2, _ => exact cell_pen _ _ _ _ _ _ _ (by simp) rfl
      | 3, _ => exact cell_pen _ _ _ _ _ _ _ (by simp) rfl
      | i + 4, h => exact absurd h (by show ¬ (i + 4 < 4); omega)⟩


set_option maxHeartbeats 1000000 in
theorem stmt_25 (s : ByteArray) (n a : Int) (p : Option Addr) (m c : Nat) (rl : Nat) (w : World) : Calls Tryz.prog 88 #[.agg (nd 25 s n a p m c), .int .i64 (rl : Nat)] w (ShP (shAl 1 [19, 21]) w) := by
  go_enter Tryz.func88, Tryz.ntmps88
  go_wp2_with fail
  refine (atLeast_any _ _ _ _ _).mono ?_
  rintro e w1 ⟨rfl, rfl⟩
  go_wp2_with fail
  refine bodyPost_ret (v := .agg #[.slice (some ⟨w.heap.size + 1 + 1, 0, none⟩) 2 2, .int .i64 1, .int .i64 (-1), .bool false]) (by simp [results, Tryz.results88, go_sem]) rfl ⟨_, rfl, ?_, below4 _ _ _ _ _⟩
  exact .inr ⟨_, rfl, by omega, by simp <;> omega, fun i hi => by
      match i, hi with
      | 0, _ => exact cell_pen _ _ _ _ _ _ _ (by simp) rfl
      | 1, _ => exact cell_pen _ _ _ _ _ _ _ (by simp) rfl
      | i + 2, h => exact absurd h (by show ¬ (i + 2 < 2); omega)⟩


set_option maxHeartbeats 1000000 in
theorem stmt_26 (s : ByteArray) (n a : Int) (p : Option Addr) (m c : Nat) (rl : Nat) (w : World) : Calls Tryz.prog 88 #[.agg (nd 26 s n a p m c), .int .i64 (rl : Nat)] w (ShP (shAl 2 [10, 18, 22]) w) := by
  go_enter Tryz.func88, Tryz.ntmps88
  go_wp2_with fail
  refine (atLeast_any _ _ _ _ _).mono ?_
  rintro e w1 ⟨rfl, rfl⟩
  go_wp2_with fail
  refine bodyPost_ret (v := .agg #[.slice (some ⟨w.heap.size + 1 + 1, 0, none⟩) 3 3, .int .i64 2, .int .i64 (-1), .bool false]) (by simp [results, Tryz.results88, go_sem]) rfl ⟨_, rfl, ?_, below4 _ _ _ _ _⟩
  exact .inr ⟨_, rfl, by omega, by simp <;> omega, fun i hi => by
      match i, hi with
      | 0, _ => exact cell_pen _ _ _ _ _ _ _ (by simp) rfl
      | 1, _ => exact cell_pen _ _ _ _ _ _ _ (by simp) rfl
      | 2, _ => exact cell_pen _ _ _ _ _ _ _ (by simp) rfl
      | i + 3, h => exact absurd h (by show ¬ (i + 3 < 3); omega)⟩


set_option maxHeartbeats 1000000 in
theorem stmt_28 (s : ByteArray) (n a : Int) (p : Option Addr) (m c : Nat) (rl : Nat) (w : World) : Calls Tryz.prog 88 #[.agg (nd 28 s n a p m c), .int .i64 (rl : Nat)] w (ShP (shEx [19]) w) := by
  go_enter Tryz.func88, Tryz.ntmps88
  go_wp2_with fail
  refine (exactly_any _ _ _ _).mono ?_
  rintro e w1 ⟨rfl, rfl⟩
  go_wp2_with fail
  refine bodyPost_ret (v := .agg #[.slice (some ⟨w.heap.size + 1 + 1, 0, none⟩) 1 1, .int .i64 1, .int .i64 1, .bool false]) (by simp [results, Tryz.results88, go_sem]) rfl ⟨_, rfl, ?_, below4 _ _ _ _ _⟩
  exact .inr ⟨_, rfl, by omega, by simp <;> omega, fun i hi => by
      match i, hi with
      | 0, _ => exact cell_pen _ _ _ _ _ _ _ (by simp) rfl
      | i + 1, h => exact absurd h (by show ¬ (i + 1 < 1); omega)⟩


set_option maxHeartbeats 1000000 in
theorem stmt_29 (s : ByteArray) (n a : Int) (p : Option Addr) (m c : Nat) (rl : Nat) (w : World) : Calls Tryz.prog 88 #[.agg (nd 29 s n a p m c), .int .i64 (rl : Nat)] w (ShP (shEx [16]) w) := by
  go_enter Tryz.func88, Tryz.ntmps88
  go_wp2_with fail
  refine (exactly_any _ _ _ _).mono ?_
  rintro e w1 ⟨rfl, rfl⟩
  go_wp2_with fail
  refine bodyPost_ret (v := .agg #[.slice (some ⟨w.heap.size + 1 + 1, 0, none⟩) 1 1, .int .i64 1, .int .i64 1, .bool false]) (by simp [results, Tryz.results88, go_sem]) rfl ⟨_, rfl, ?_, below4 _ _ _ _ _⟩
  exact .inr ⟨_, rfl, by omega, by simp <;> omega, fun i hi => by
      match i, hi with
      | 0, _ => exact cell_pen _ _ _ _ _ _ _ (by simp) rfl
      | i + 1, h => exact absurd h (by show ¬ (i + 1 < 1); omega)⟩


set_option maxHeartbeats 1000000 in
theorem stmt_30 (s : ByteArray) (n a : Int) (p : Option Addr) (m c : Nat) (rl : Nat) (w : World) : Calls Tryz.prog 88 #[.agg (nd 30 s n a p m c), .int .i64 (rl : Nat)] w (ShP (shEx [16]) w) := by
  go_enter Tryz.func88, Tryz.ntmps88
  go_wp2_with fail
  refine (exactly_any _ _ _ _).mono ?_
  rintro e w1 ⟨rfl, rfl⟩
  go_wp2_with fail
  refine bodyPost_ret (v := .agg #[.slice (some ⟨w.heap.size + 1 + 1, 0, none⟩) 1 1, .int .i64 1, .int .i64 1, .bool false]) (by simp [results, Tryz.results88, go_sem]) rfl ⟨_, rfl, ?_, below4 _ _ _ _ _⟩
  exact .inr ⟨_, rfl, by omega, by simp <;> omega, fun i hi => by
      match i, hi with
      | 0, _ => exact cell_pen _ _ _ _ _ _ _ (by simp) rfl
      | i + 1, h => exact absurd h (by show ¬ (i + 1 < 1); omega)⟩


set_option maxHeartbeats 1000000 in
theorem stmt_34 (s : ByteArray) (n a : Int) (p : Option Addr) (m c : Nat) (rl : Nat) (w : World) : Calls Tryz.prog 88 #[.agg (nd 34 s n a p m c), .int .i64 (rl : Nat)] w (ShP (shEx [14]) w) := by
  go_enter Tryz.func88, Tryz.ntmps88
  go_wp2_with fail
  refine (exactly_any _ _ _ _).mono ?_
  rintro e w1 ⟨rfl, rfl⟩
  go_wp2_with fail
  refine bodyPost_ret (v := .agg #[.slice (some ⟨w.heap.size + 1 + 1, 0, none⟩) 1 1, .int .i64 1, .int .i64 1, .bool false]) (by simp [results, Tryz.results88, go_sem]) rfl ⟨_, rfl, ?_, below4 _ _ _ _ _⟩
  exact .inr ⟨_, rfl, by omega, by simp <;> omega, fun i hi => by
      match i, hi with
      | 0, _ => exact cell_pen _ _ _ _ _ _ _ (by simp) rfl
      | i + 1, h => exact absurd h (by show ¬ (i + 1 < 1); omega)⟩


set_option maxHeartbeats 1000000 in
theorem stmt_27a (s : ByteArray) (n a : Int) (p : Option Addr) (m c : Nat) (w : World) : Calls Tryz.prog 88 #[.agg (nd 27 s n a p m c), .int .i64 22] w (ShP (shEx [24, 11]) w) := by
  go_enter Tryz.func88, Tryz.ntmps88
  go_wp2_with fail
  refine (exactly_any _ _ _ _).mono ?_
  rintro e w1 ⟨rfl, rfl⟩
  go_wp2_with fail
  refine bodyPost_ret (v := .agg #[.slice (some ⟨w.heap.size + 1 + 1, 0, none⟩) 2 2, .int .i64 2, .int .i64 2, .bool false]) (by simp [results, Tryz.results88, go_sem]) rfl ⟨_, rfl, ?_, below4 _ _ _ _ _⟩
  exact .inr ⟨_, rfl, by omega, by simp <;> omega, fun i hi => by
      match i, hi with
      | 0, _ => exact cell_pen _ _ _ _ _ _ _ (by simp) rfl
      | 1, _ => exact cell_pen _ _ _ _ _ _ _ (by simp) rfl
      | i + 2, h => exact absurd h (by show ¬ (i + 2 < 2); omega)⟩


set_option maxHeartbeats 1000000 in
theorem stmt_27b (s : ByteArray) (n a : Int) (p : Option Addr) (m c : Nat) (rl : Nat) (hr : (((rl : Nat) : Int) == 22) = false) (w : World) : Calls Tryz.prog 88 #[.agg (nd 27 s n a p m c), .int .i64 (rl : Nat)] w (ShP (shEx [23, 11]) w) := by
  go_enter Tryz.func88, Tryz.ntmps88
  go_wp2_with fail
  refine (exactly_any _ _ _ _).mono ?_
  rintro e w1 ⟨rfl, rfl⟩
  go_wp2_with fail
  refine bodyPost_ret (v := .agg #[.slice (some ⟨w.heap.size + 1 + 1, 0, none⟩) 2 2, .int .i64 2, .int .i64 2, .bool false]) (by simp [results, Tryz.results88, go_sem]) rfl ⟨_, rfl, ?_, below4 _ _ _ _ _⟩
  exact .inr ⟨_, rfl, by omega, by simp <;> omega, fun i hi => by
      match i, hi with
      | 0, _ => exact cell_pen _ _ _ _ _ _ _ (by simp) rfl
      | 1, _ => exact cell_pen _ _ _ _ _ _ _ (by simp) rfl
      | i + 2, h => exact absurd h (by show ¬ (i + 2 < 2); omega)⟩


end Go.Proofs.YthbnegggohegkaaGreatDoor
namespace Go.Proofs.YthbnegggohegkaaGreatDoor
open Go.RowKit

set_option maxHeartbeats 1000000 in
theorem list_23 (w : World) : Calls Tryz.prog 119 #[.int .i64 23] w (ShP (shAl 1 [18]) w) := by
  go_enter Tryz.func119, Tryz.ntmps119
  go_wp2_with fail
  refine (atLeast_any _ _ _ _ _).mono ?_
  rintro e w1 ⟨rfl, rfl⟩
  go_wp2_with fail
  refine bodyPost_ret (v := .agg #[.slice (some ⟨w.heap.size + 1, 0, none⟩) 1 1, .int .i64 1, .int .i64 (-1), .bool false]) (by simp [results, Tryz.results119, go_sem]) rfl ⟨_, rfl, ?_, below3 _ _ _ _⟩
  exact .inr ⟨_, rfl, by omega, by simp <;> omega, fun i hi => by
      match i, hi with
      | 0, _ => exact cell_pen _ _ _ _ _ _ _ (by simp) rfl
      | i + 1, h => exact absurd h (by show ¬ (i + 1 < 1); omega)⟩


set_option maxHeartbeats 1000000 in
theorem list_24 (w : World) : Calls Tryz.prog 119 #[.int .i64 24] w (ShP (shAl 1 [26]) w) := by
  go_enter Tryz.func119, Tryz.ntmps119
  go_wp2_with fail
  refine (atLeast_any _ _ _ _ _).mono ?_
  rintro e w1 ⟨rfl, rfl⟩
  go_wp2_with fail
  refine bodyPost_ret (v := .agg #[.slice (some ⟨w.heap.size + 1, 0, none⟩) 1 1, .int .i64 1, .int .i64 (-1), .bool false]) (by simp [results, Tryz.results119, go_sem]) rfl ⟨_, rfl, ?_, below3 _ _ _ _⟩
  exact .inr ⟨_, rfl, by omega, by simp <;> omega, fun i hi => by
      match i, hi with
      | 0, _ => exact cell_pen _ _ _ _ _ _ _ (by simp) rfl
      | i + 1, h => exact absurd h (by show ¬ (i + 1 < 1); omega)⟩


set_option maxHeartbeats 1000000 in
theorem list_other (rl : Nat) (h23 : (((rl : Nat) : Int) == 23) = false) (h24 : (((rl : Nat) : Int) == 24) = false) (w : World) : Calls Tryz.prog 119 #[.int .i64 (rl : Nat)] w (ShP (shAl 0 [18]) w) := by
  go_enter Tryz.func119, Tryz.ntmps119
  go_wp2_with fail
  refine (atLeast_any _ _ _ _ _).mono ?_
  rintro e w1 ⟨rfl, rfl⟩
  go_wp2_with fail
  refine bodyPost_ret (v := .agg #[.slice (some ⟨w.heap.size + 1, 0, none⟩) 1 1, .int .i64 0, .int .i64 (-1), .bool false]) (by simp [results, Tryz.results119, go_sem]) rfl ⟨_, rfl, ?_, below3 _ _ _ _⟩
  exact .inr ⟨_, rfl, by omega, by simp <;> omega, fun i hi => by
      match i, hi with
      | 0, _ => exact cell_pen _ _ _ _ _ _ _ (by simp) rfl
      | i + 1, h => exact absurd h (by show ¬ (i + 1 < 1); omega)⟩


set_option maxHeartbeats 1000000 in
theorem expr_39 (s : ByteArray) (n a : Int) (p : Option Addr) (m c : Nat) (rl : Nat) (w : World) : Calls Tryz.prog 89 #[.agg (nd 39 s n a p m c), .int .i64 (rl : Nat)] w (ShP (shAl 0 [28]) w) := by
  go_enter Tryz.func89, Tryz.ntmps89
  go_wp2_with fail
  refine (atLeast_any _ _ _ _ _).mono ?_
  rintro e w1 ⟨rfl, rfl⟩
  go_wp2_with fail
  refine bodyPost_ret (v := .agg #[.slice (some ⟨w.heap.size + 1 + 1, 0, none⟩) 1 1, .int .i64 0, .int .i64 (-1), .bool false]) (by simp [results, Tryz.results89, go_sem]) rfl ⟨_, rfl, ?_, below4 _ _ _ _ _⟩
  exact .inr ⟨_, rfl, by omega, by simp <;> omega, fun i hi => by
      match i, hi with
      | 0, _ => exact cell_pen _ _ _ _ _ _ _ (by simp) rfl
      | i + 1, h => exact absurd h (by show ¬ (i + 1 < 1); omega)⟩


set_option maxHeartbeats 1000000 in
theorem expr_41 (s : ByteArray) (n a : Int) (p : Option Addr) (m c : Nat) (rl : Nat) (w : World) : Calls Tryz.prog 89 #[.agg (nd 41 s n a p m c), .int .i64 (rl : Nat)] w (ShP (shAl 0 [29]) w) := by
  go_enter Tryz.func89, Tryz.ntmps89
  go_wp2_with fail
  refine (atLeast_any _ _ _ _ _).mono ?_
  rintro e w1 ⟨rfl, rfl⟩
  go_wp2_with fail
  refine bodyPost_ret (v := .agg #[.slice (some ⟨w.heap.size + 1 + 1, 0, none⟩) 1 1, .int .i64 0, .int .i64 (-1), .bool false]) (by simp [results, Tryz.results89, go_sem]) rfl ⟨_, rfl, ?_, below4 _ _ _ _ _⟩
  exact .inr ⟨_, rfl, by omega, by simp <;> omega, fun i hi => by
      match i, hi with
      | 0, _ => exact cell_pen _ _ _ _ _ _ _ (by simp) rfl
      | i + 1, h => exact absurd h (by show ¬ (i + 1 < 1); omega)⟩


set_option maxHeartbeats 1000000 in
theorem expr_42 (s : ByteArray) (n a : Int) (p : Option Addr) (m c : Nat) (rl : Nat) (w : World) : Calls Tryz.prog 89 #[.agg (nd 42 s n a p m c), .int .i64 (rl : Nat)] w (ShP (shEx [30]) w) := by
  go_enter Tryz.func89, Tryz.ntmps89
  go_wp2_with fail
  refine (exactly_any _ _ _ _).mono ?_
  rintro e w1 ⟨rfl, rfl⟩
  go_wp2_with fail
  refine bodyPost_ret (v := .agg #[.slice (some ⟨w.heap.size + 1 + 1, 0, none⟩) 1 1, .int .i64 1, .int .i64 1, .bool false]) (by simp [results, Tryz.results89, go_sem]) rfl ⟨_, rfl, ?_, below4 _ _ _ _ _⟩
  exact .inr ⟨_, rfl, by omega, by simp <;> omega, fun i hi => by
      match i, hi with
      | 0, _ => exact cell_pen _ _ _ _ _ _ _ (by simp) rfl
      | i + 1, h => exact absurd h (by show ¬ (i + 1 < 1); omega)⟩


set_option maxHeartbeats 1000000 in
theorem expr_43 (s : ByteArray) (n a : Int) (p : Option Addr) (m c : Nat) (rl : Nat) (w : World) : Calls Tryz.prog 89 #[.agg (nd 43 s n a p m c), .int .i64 (rl : Nat)] w (ShP (shEx [8, 11]) w) := by
  go_enter Tryz.func89, Tryz.ntmps89
  go_wp2_with fail
  refine (exactly_any _ _ _ _).mono ?_
  rintro e w1 ⟨rfl, rfl⟩
  go_wp2_with fail
  refine bodyPost_ret (v := .agg #[.slice (some ⟨w.heap.size + 1 + 1, 0, none⟩) 2 2, .int .i64 2, .int .i64 2, .bool false]) (by simp [results, Tryz.results89, go_sem]) rfl ⟨_, rfl, ?_, below4 _ _ _ _ _⟩
  exact .inr ⟨_, rfl, by omega, by simp <;> omega, fun i hi => by
      match i, hi with
      | 0, _ => exact cell_pen _ _ _ _ _ _ _ (by simp) rfl
      | 1, _ => exact cell_pen _ _ _ _ _ _ _ (by simp) rfl
      | i + 2, h => exact absurd h (by show ¬ (i + 2 < 2); omega)⟩


set_option maxHeartbeats 1000000 in
theorem expr_44 (s : ByteArray) (n a : Int) (p : Option Addr) (m c : Nat) (rl : Nat) (w : World) : Calls Tryz.prog 89 #[.agg (nd 44 s n a p m c), .int .i64 (rl : Nat)] w (ShP (shEx [27]) w) := by
  go_enter Tryz.func89, Tryz.ntmps89
  go_wp2_with fail
  refine (exactly_any _ _ _ _).mono ?_
  rintro e w1 ⟨rfl, rfl⟩
  go_wp2_with fail
  refine bodyPost_ret (v := .agg #[.slice (some ⟨w.heap.size + 1 + 1, 0, none⟩) 1 1, .int .i64 1, .int .i64 1, .bool false]) (by simp [results, Tryz.results89, go_sem]) rfl ⟨_, rfl, ?_, below4 _ _ _ _ _⟩
  exact .inr ⟨_, rfl, by omega, by simp <;> omega, fun i hi => by
      match i, hi with
      | 0, _ => exact cell_pen _ _ _ _ _ _ _ (by simp) rfl
      | i + 1, h => exact absurd h (by show ¬ (i + 1 < 1); omega)⟩


set_option maxHeartbeats 1000000 in
theorem expr_45 (s : ByteArray) (n a : Int) (p : Option Addr) (m c : Nat) (rl : Nat) (w : World) : Calls Tryz.prog 89 #[.agg (nd 45 s n a p m c), .int .i64 (rl : Nat)] w (ShP (shEx [18]) w) := by
  go_enter Tryz.func89, Tryz.ntmps89
  go_wp2_with fail
  refine (exactly_any _ _ _ _).mono ?_
  rintro e w1 ⟨rfl, rfl⟩
  go_wp2_with fail
  refine bodyPost_ret (v := .agg #[.slice (some ⟨w.heap.size + 1 + 1, 0, none⟩) 1 1, .int .i64 1, .int .i64 1, .bool false]) (by simp [results, Tryz.results89, go_sem]) rfl ⟨_, rfl, ?_, below4 _ _ _ _ _⟩
  exact .inr ⟨_, rfl, by omega, by simp <;> omega, fun i hi => by
      match i, hi with
      | 0, _ => exact cell_pen _ _ _ _ _ _ _ (by simp) rfl
      | i + 1, h => exact absurd h (by show ¬ (i + 1 < 1); omega)⟩


set_option maxHeartbeats 1000000 in
theorem expr_50 (s : ByteArray) (n a : Int) (p : Option Addr) (m c : Nat) (rl : Nat) (w : World) : Calls Tryz.prog 89 #[.agg (nd 50 s n a p m c), .int .i64 (rl : Nat)] w (ShP (shEx [18]) w) := by
  go_enter Tryz.func89, Tryz.ntmps89
  go_wp2_with fail
  refine (exactly_any _ _ _ _).mono ?_
  rintro e w1 ⟨rfl, rfl⟩
  go_wp2_with fail
  refine bodyPost_ret (v := .agg #[.slice (some ⟨w.heap.size + 1 + 1, 0, none⟩) 1 1, .int .i64 1, .int .i64 1, .bool false]) (by simp [results, Tryz.results89, go_sem]) rfl ⟨_, rfl, ?_, below4 _ _ _ _ _⟩
  exact .inr ⟨_, rfl, by omega, by simp <;> omega, fun i hi => by
      match i, hi with
      | 0, _ => exact cell_pen _ _ _ _ _ _ _ (by simp) rfl
      | i + 1, h => exact absurd h (by show ¬ (i + 1 < 1); omega)⟩


set_option maxHeartbeats 1000000 in
theorem expr_46 (s : ByteArray) (n a : Int) (p : Option Addr) (m c : Nat) (rl : Nat) (w : World) : Calls Tryz.prog 89 #[.agg (nd 46 s n a p m c), .int .i64 (rl : Nat)] w (ShP (shEx [18, 18]) w) := by
  go_enter Tryz.func89, Tryz.ntmps89
  go_wp2_with fail
  refine (exactly_any _ _ _ _).mono ?_
  rintro e w1 ⟨rfl, rfl⟩
  go_wp2_with fail
  refine bodyPost_ret (v := .agg #[.slice (some ⟨w.heap.size + 1 + 1, 0, none⟩) 2 2, .int .i64 2, .int .i64 2, .bool false]) (by simp [results, Tryz.results89, go_sem]) rfl ⟨_, rfl, ?_, below4 _ _ _ _ _⟩
  exact .inr ⟨_, rfl, by omega, by simp <;> omega, fun i hi => by
      match i, hi with
      | 0, _ => exact cell_pen _ _ _ _ _ _ _ (by simp) rfl
      | 1, _ => exact cell_pen _ _ _ _ _ _ _ (by simp) rfl
      | i + 2, h => exact absurd h (by show ¬ (i + 2 < 2); omega)⟩


set_option maxHeartbeats 1000000 in
theorem expr_51 (s : ByteArray) (n a : Int) (p : Option Addr) (m c : Nat) (rl : Nat) (w : World) : Calls Tryz.prog 89 #[.agg (nd 51 s n a p m c), .int .i64 (rl : Nat)] w (ShP (shEx [18, 18]) w) := by
  go_enter Tryz.func89, Tryz.ntmps89
  go_wp2_with fail
  refine (exactly_any _ _ _ _).mono ?_
  rintro e w1 ⟨rfl, rfl⟩
  go_wp2_with fail
  refine bodyPost_ret (v := .agg #[.slice (some ⟨w.heap.size + 1 + 1, 0, none⟩) 2 2, .int .i64 2, .int .i64 2, .bool false]) (by simp [results, Tryz.results89, go_sem]) rfl ⟨_, rfl, ?_, below4 _ _ _ _ _⟩
  exact .inr ⟨_, rfl, by omega, by simp <;> omega, fun i hi => by
      match i, hi with
      | 0, _ => exact cell_pen _ _ _ _ _ _ _ (by simp) rfl
      | 1, _ => exact cell_pen _ _ _ _ _ _ _ (by simp) rfl
      | i + 2, h => exact absurd h (by show ¬ (i + 2 < 2); omega)⟩


set_option maxHeartbeats 1000000 in
theorem expr_48 (s : ByteArray) (n a : Int) (p : Option Addr) (m c : Nat) (rl : Nat) (w : World) : Calls Tryz.prog 89 #[.agg (nd 48 s n a p m c), .int .i64 (rl : Nat)] w (ShP (shAl 1 [17, 18]) w) := by
  go_enter Tryz.func89, Tryz.ntmps89
  go_wp2_with fail
  refine (atLeast_any _ _ _ _ _).mono ?_
  rintro e w1 ⟨rfl, rfl⟩
  go_wp2_with fail
  refine bodyPost_ret (v := .agg #[.slice (some ⟨w.heap.size + 1 + 1, 0, none⟩) 2 2, .int .i64 1, .int .i64 (-1), .bool false]) (by simp [results, Tryz.results89, go_sem]) rfl ⟨_, rfl, ?_, below4 _ _ _ _ _⟩
  exact .inr ⟨_, rfl, by omega, by simp <;> omega, fun i hi => by
      match i, hi with
      | 0, _ => exact cell_pen _ _ _ _ _ _ _ (by simp) rfl
      | 1, _ => exact cell_pen _ _ _ _ _ _ _ (by simp) rfl
      | i + 2, h => exact absurd h (by show ¬ (i + 2 < 2); omega)⟩


set_option maxHeartbeats 1000000 in
theorem expr_49 (s : ByteArray) (n a : Int) (p : Option Addr) (m c : Nat) (rl : Nat) (w : World) : Calls Tryz.prog 89 #[.agg (nd 49 s n a p m c), .int .i64 (rl : Nat)] w (ShP (shEx [18, 25]) w) := by
  go_enter Tryz.func89, Tryz.ntmps89
  go_wp2_with fail
  refine (exactly_any _ _ _ _).mono ?_
  rintro e w1 ⟨rfl, rfl⟩
  go_wp2_with fail
  refine bodyPost_ret (v := .agg #[.slice (some ⟨w.heap.size + 1 + 1, 0, none⟩) 2 2, .int .i64 2, .int .i64 2, .bool false]) (by simp [results, Tryz.results89, go_sem]) rfl ⟨_, rfl, ?_, below4 _ _ _ _ _⟩
  exact .inr ⟨_, rfl, by omega, by simp <;> omega, fun i hi => by
      match i, hi with
      | 0, _ => exact cell_pen _ _ _ _ _ _ _ (by simp) rfl
      | 1, _ => exact cell_pen _ _ _ _ _ _ _ (by simp) rfl
      | i + 2, h => exact absurd h (by show ¬ (i + 2 < 2); omega)⟩


set_option maxHeartbeats 1000000 in
theorem expr_40a (s : ByteArray) (n a : Int) (p : Option Addr) (m c : Nat) (w : World) : Calls Tryz.prog 89 #[.agg (nd 40 s n a p m c), .int .i64 29] w (ShP (shEx [18]) w) := by
  go_enter Tryz.func89, Tryz.ntmps89
  go_wp2_with fail
  refine (exactly_any _ _ _ _).mono ?_
  rintro e w1 ⟨rfl, rfl⟩
  go_wp2_with fail
  refine bodyPost_ret (v := .agg #[.slice (some ⟨w.heap.size + 1 + 1, 0, none⟩) 1 1, .int .i64 1, .int .i64 1, .bool false]) (by simp [results, Tryz.results89, go_sem]) rfl ⟨_, rfl, ?_, below4 _ _ _ _ _⟩
  exact .inr ⟨_, rfl, by omega, by simp <;> omega, fun i hi => by
      match i, hi with
      | 0, _ => exact cell_pen _ _ _ _ _ _ _ (by simp) rfl
      | i + 1, h => exact absurd h (by show ¬ (i + 1 < 1); omega)⟩


set_option maxHeartbeats 1000000 in
theorem expr_40b (s : ByteArray) (n a : Int) (p : Option Addr) (m c : Nat) (rl : Nat) (hr : (((rl : Nat) : Int) == 29) = false) (w : World) : Calls Tryz.prog 89 #[.agg (nd 40 s n a p m c), .int .i64 (rl : Nat)] w (ShP (shEx [18, 18]) w) := by
  go_enter Tryz.func89, Tryz.ntmps89
  go_wp2_with fail
  refine (exactly_any _ _ _ _).mono ?_
  rintro e w1 ⟨rfl, rfl⟩
  go_wp2_with fail
  refine bodyPost_ret (v := .agg #[.slice (some ⟨w.heap.size + 1 + 1, 0, none⟩) 2 2, .int .i64 2, .int .i64 2, .bool false]) (by simp [results, Tryz.results89, go_sem]) rfl ⟨_, rfl, ?_, below4 _ _ _ _ _⟩
  exact .inr ⟨_, rfl, by omega, by simp <;> omega, fun i hi => by
      match i, hi with
      | 0, _ => exact cell_pen _ _ _ _ _ _ _ (by simp) rfl
      | 1, _ => exact cell_pen _ _ _ _ _ _ _ (by simp) rfl
      | i + 2, h => exact absurd h (by show ¬ (i + 2 < 2); omega)⟩


set_option maxHeartbeats 1000000 in
theorem expr_leaf (k : Int) (h38 : (k == 38) = false) (h39 : (k == 39) = false) (h41 : (k == 41) = false) (h40 : (k == 40) = false) (h42 : (k == 42) = false) (h43 : (k == 43) = false) (h44 : (k == 44) = false) (h45 : (k == 45) = false) (h50 : (k == 50) = false) (h46 : (k == 46) = false) (h51 : (k == 51) = false) (h47 : (k == 47) = false) (h48 : (k == 48) = false) (h49 : (k == 49) = false) (s : ByteArray) (n a : Int) (p : Option Addr) (m c : Nat) (rl : Nat) (w : World) : Calls Tryz.prog 89 #[.agg (nd k s n a p m c), .int .i64 (rl : Nat)] w (ShP (shEx []) w) := by
  go_enter Tryz.func89, Tryz.ntmps89
  go_wp2_with fail
  refine (exactly_any _ _ _ _).mono ?_
  rintro e w1 ⟨rfl, rfl⟩
  go_wp2_with fail
  refine bodyPost_ret (v := .agg #[.slice none 0 0, .int .i64 0, .int .i64 0, .bool false]) (by simp [results, Tryz.results89, go_sem]) rfl ⟨_, rfl, ?_, below3 _ _ _ _⟩
  exact .inl ⟨rfl, rfl⟩


end Go.Proofs.YthbnegggohegkaaGreatDoor
namespace Go.Proofs.YthbnegggohegkaaGreatDoor
open Go.RowKit

theorem box_facts {w w1 : World} {A : Obj} (hb : Below (w.heap.size + 1 + 1) ((w.alloc A).alloc (.cells leafR 94)) w1) :
    (w1.cell? ⟨w.heap.size + 1, 0, none⟩ = some (.slice none 0 0) ∧ w1.cell? ⟨w.heap.size + 1, 1, none⟩ = some (.int .i64 0) ∧ w1.cell? ⟨w.heap.size + 1, 2, none⟩ = some (.int .i64 0) ∧ w1.cell? ⟨w.heap.size + 1, 3, none⟩ = some (.bool false)) ∧
    (w1.frozen? ⟨w.heap.size + 1, 0, none⟩ = false ∧ w1.frozen? ⟨w.heap.size + 1, 1, none⟩ = false ∧ w1.frozen? ⟨w.heap.size + 1, 2, none⟩ = false ∧ w1.frozen? ⟨w.heap.size + 1, 3, none⟩ = false) := by
  have hc : ∀ i v, leafR[i]? = some v → w1.cell? ⟨w.heap.size + 1, i, none⟩ = some v := fun i v h => (hb.cell (p := ⟨w.heap.size + 1, i, none⟩) (by show w.heap.size + 1 < _; omega)).trans (cell_mid _ _ _ _ _ _ (by simp) h)
  have hf : ∀ i, i < 4 → w1.frozen? ⟨w.heap.size + 1, i, none⟩ = false := fun i hi => (hb.frozen (p := ⟨w.heap.size + 1, i, none⟩) (by show w.heap.size + 1 < _; omega)).trans (by simp)
  exact ⟨⟨hc 0 _ rfl, hc 1 _ rfl, hc 2 _ rfl, hc 3 _ rfl⟩, hf 0 (by omega), hf 1 (by omega), hf 2 (by omega), hf 3 (by omega)⟩

/-- A shape that came is laid down in the answer's box. -/
theorem box_shape {w w1 : World} {A : Obj} {S : Shp} {p : Option Addr} (hb : Below (w.heap.size + 1 + 1) ((w.alloc A).alloc (.cells leafR 94)) w1) (hR : RolesAt w1 (w.heap.size + 1 + 1) p S.roles) (v0 v1 v2 v3 : Value) :
    RolesAt ((((w1.setCell ⟨w.heap.size + 1, 0, none⟩ v0).setCell ⟨w.heap.size + 1, 1, none⟩ v1).setCell ⟨w.heap.size + 1, 2, none⟩ v2).setCell ⟨w.heap.size + 1, 3, none⟩ v3) w.heap.size p S.roles ∧
    Below w.heap.size w ((((w1.setCell ⟨w.heap.size + 1, 0, none⟩ v0).setCell ⟨w.heap.size + 1, 1, none⟩ v1).setCell ⟨w.heap.size + 1, 2, none⟩ v2).setCell ⟨w.heap.size + 1, 3, none⟩ v3) := by
  refine ⟨((((hR.set (by omega) _).set (by omega) _).set (by omega) _).set (by omega) _).mono (by omega), ?_⟩
  have h := (below2 w A (.cells leafR 94)).trans (hb.mono (by omega))
  exact (((h.setCell (p := ⟨w.heap.size + 1, 0, none⟩) (by show w.heap.size ≤ w.heap.size + 1; omega) _).setCell (p := ⟨w.heap.size + 1, 1, none⟩) (by show w.heap.size ≤ w.heap.size + 1; omega) _).setCell (p := ⟨w.heap.size + 1, 2, none⟩) (by show w.heap.size ≤ w.heap.size + 1; omega) _).setCell (p := ⟨w.heap.size + 1, 3, none⟩) (by show w.heap.size ≤ w.heap.size + 1; omega) _

set_option maxHeartbeats 1000000 in
theorem list_any (rl : Nat) (w : World) : Calls Tryz.prog 119 #[.int .i64 (rl : Nat)] w (ShP (if rl == 23 then shAl 1 [18] else if rl == 24 then shAl 1 [26] else shAl 0 [18]) w) := by
  by_cases h23 : rl = 23
  · subst h23; exact list_23 w
  by_cases h24 : rl = 24
  · subst h24; exact list_24 w
  rw [if_neg (by simpa using h23), if_neg (by simpa using h24)]
  exact list_other rl (by simp; omega) (by simp; omega) w

set_option maxHeartbeats 1000000 in
theorem slice_few (k : Int) (s : ByteArray) (n a : Int) (p : Option Addr) (m c : Nat) (hm : m ≤ 2) (w : World) : Calls Tryz.prog 120 #[.agg (nd k s n a p m c)] w (ShP (shEx [18, 19, 19, 19]) w) := by
  go_enter Tryz.func120, Tryz.ntmps120
  go_wp2_with fail
  refine (exactly_any _ _ _ _).mono ?_
  rintro e w1 ⟨rfl, rfl⟩
  go_wp2_with fail
  refine bodyPost_ret (v := .agg #[.slice (some ⟨w.heap.size + 1 + 1, 0, none⟩) 4 4, .int .i64 4, .int .i64 4, .bool false]) (by simp [results, Tryz.results120, go_sem]) rfl ⟨_, rfl, ?_, below4 _ _ _ _ _⟩
  exact .inr ⟨_, rfl, by omega, by simp <;> omega, fun i hi => by
      match i, hi with
      | 0, _ => exact cell_pen _ _ _ _ _ _ _ (by simp) rfl
      | 1, _ => exact cell_pen _ _ _ _ _ _ _ (by simp) rfl
      | 2, _ => exact cell_pen _ _ _ _ _ _ _ (by simp) rfl
      | 3, _ => exact cell_pen _ _ _ _ _ _ _ (by simp) rfl
      | i + 4, h => exact absurd h (by show ¬ (i + 4 < 4); omega)⟩

set_option maxHeartbeats 1000000 in
theorem slice_many (k : Int) (s : ByteArray) (n a : Int) (b o m c : Nat) (x : Int) (hm : 2 < m) (w : World) (hb : b < w.heap.size) (hx : w.cell? ⟨b, o + 10, none⟩ = some (.int .i64 x)) (h16 : (x == 16) = false) : Calls Tryz.prog 120 #[.agg (nd k s n a (some ⟨b, o, none⟩) m c)] w (ShP (shEx [18, 19, 19, 19]) w) := by
  go_enter Tryz.func120, Tryz.ntmps120
  go_wp2_with fail
  refine (exactly_any _ _ _ _).mono ?_
  rintro e w1 ⟨rfl, rfl⟩
  go_wp2_with fail
  refine bodyPost_ret (v := .agg #[.slice (some ⟨w.heap.size + 1 + 1, 0, none⟩) 4 4, .int .i64 4, .int .i64 4, .bool false]) (by simp [results, Tryz.results120, go_sem]) rfl ⟨_, rfl, ?_, below4 _ _ _ _ _⟩
  exact .inr ⟨_, rfl, by omega, by simp <;> omega, fun i hi => by
      match i, hi with
      | 0, _ => exact cell_pen _ _ _ _ _ _ _ (by simp) rfl
      | 1, _ => exact cell_pen _ _ _ _ _ _ _ (by simp) rfl
      | 2, _ => exact cell_pen _ _ _ _ _ _ _ (by simp) rfl
      | 3, _ => exact cell_pen _ _ _ _ _ _ _ (by simp) rfl
      | i + 4, h => exact absurd h (by show ¬ (i + 4 < 4); omega)⟩

set_option maxHeartbeats 1000000 in
theorem slice_none (k : Int) (s : ByteArray) (n a : Int) (b o m c : Nat) (hm : 2 < m) (w : World) (hb : b < w.heap.size) (hx : w.cell? ⟨b, o + 10, none⟩ = some (.int .i64 16)) : Calls Tryz.prog 120 #[.agg (nd k s n a (some ⟨b, o, none⟩) m c)] w (ShP (shEx [18, 19, 19, 20]) w) := by
  go_enter Tryz.func120, Tryz.ntmps120
  go_wp2_with fail
  refine (exactly_any _ _ _ _).mono ?_
  rintro e w1 ⟨rfl, rfl⟩
  go_wp2_with fail
  refine bodyPost_ret (v := .agg #[.slice (some ⟨w.heap.size + 1 + 1, 0, none⟩) 4 4, .int .i64 4, .int .i64 4, .bool false]) (by simp [results, Tryz.results120, go_sem]) rfl ⟨_, rfl, ?_, below4 _ _ _ _ _⟩
  exact .inr ⟨_, rfl, by omega, by simp <;> omega, fun i hi => by
      match i, hi with
      | 0, _ => exact cell_pen _ _ _ _ _ _ _ (by simp) rfl
      | 1, _ => exact cell_pen _ _ _ _ _ _ _ (by simp) rfl
      | 2, _ => exact cell_pen _ _ _ _ _ _ _ (by simp) rfl
      | 3, _ => exact cell_pen _ _ _ _ _ _ _ (by simp) rfl
      | i + 4, h => exact absurd h (by show ¬ (i + 4 < 4); omega)⟩

theorem slice_any (k : Int) (s : ByteArray) (n a : Int) (p : Option Addr) (c : Nat) (ks : List MT) (w : World) (hin : (MT.node k s n a p c ks).In w.heap.size w) :
    Calls Tryz.prog 120 #[.agg (nd k s n a p ks.length c)] w (ShP (shEx [18, 19, 19, if noneAt ks 2 then 20 else 19]) w) := by
  have hL := hin.kidsL
  simp only [MT.kids_node, MT.ptr_node] at hL
  by_cases hm : ks.length ≤ 2
  · have e : noneAt ks 2 = false := by unfold noneAt; rw [List.getElem?_eq_none (by omega)]; rfl
    rw [e]
    exact slice_few k s n a p ks.length c hm w
  · have hm' : 2 < ks.length := by omega
    obtain ⟨b, o, rfl, hb, hL⟩ := hL.resolve_left (fun h => by rw [h] at hm'; simp at hm')
    have hx := (hL.get 2 hm').1.c0
    have e : noneAt ks 2 = (ks[2].kind == 16) := by unfold noneAt; rw [List.getElem?_eq_getElem hm']; rfl
    rw [e]
    generalize ks[2] = x at hx
    cases h16 : x.kind == 16 with
    | true =>
      rw [eq_of_beq h16] at hx
      exact slice_none k s n a b o ks.length c hm' w hb hx
    | false => exact slice_many k s n a b o ks.length c x.kind hm' w hb hx h16

set_option maxHeartbeats 1000000 in
theorem expr_38 (s : ByteArray) (n a : Int) (p : Option Addr) (m c : Nat) (rl : Nat) (S : Shp) (h : ∀ W, Calls Tryz.prog 119 #[.int .i64 (rl : Nat)] W (ShP S W)) (w : World) : Calls Tryz.prog 89 #[.agg (nd 38 s n a p m c), .int .i64 (rl : Nat)] w (ShP S w) := by
  have H : Hid _ := h
  clear h
  go_enter Tryz.func89, Tryz.ntmps89
  go_wp2_with fail
  refine (H.out _).mono ?_
  rintro e w1 ⟨q, rfl, hR, hb⟩
  simp only [World.size_alloc] at hR hb
  obtain ⟨⟨c0, c1, c2, c3⟩, f0, f1, f2, f3⟩ := box_facts hb
  have HB : Hid _ := box_shape hb hR (.slice q S.roles.length S.roles.length) (.int .i64 S.least) (.int .i64 S.most) (.bool S.crowded)
  clear hb hR
  go_wp2_with fail
  exact bodyPost_ret (v := .agg (shV S q)) (by simp [results, Tryz.results89, go_sem, *]) rfl ⟨q, rfl, HB.out.1, HB.out.2⟩

set_option maxHeartbeats 1000000 in
theorem expr_47 (s : ByteArray) (n a : Int) (p : Option Addr) (m c : Nat) (rl : Nat) (S : Shp) (w : World) (h : ∀ W, Below w.heap.size w W → Calls Tryz.prog 120 #[.agg (nd 47 s n a p m c)] W (ShP S W)) : Calls Tryz.prog 89 #[.agg (nd 47 s n a p m c), .int .i64 (rl : Nat)] w (ShP S w) := by
  have H : Hid _ := h
  clear h
  go_enter Tryz.func89, Tryz.ntmps89
  go_wp2_with fail
  refine (H.out _ (below2 _ _ _)).mono ?_
  rintro e w1 ⟨q, rfl, hR, hb⟩
  simp only [World.size_alloc] at hR hb
  obtain ⟨⟨c0, c1, c2, c3⟩, f0, f1, f2, f3⟩ := box_facts hb
  have HB : Hid _ := box_shape hb hR (.slice q S.roles.length S.roles.length) (.int .i64 S.least) (.int .i64 S.most) (.bool S.crowded)
  clear hb hR
  go_wp2_with fail
  exact bodyPost_ret (v := .agg (shV S q)) (by simp [results, Tryz.results89, go_sem, *]) rfl ⟨q, rfl, HB.out.1, HB.out.2⟩
end Go.Proofs.YthbnegggohegkaaGreatDoor
namespace Go.Proofs.YthbnegggohegkaaGreatDoor
open Go.RowKit

set_option maxHeartbeats 4000000 in
theorem shape_decl (k : Int) (hk : k = 1 ∨ k = 2 ∨ k = 3 ∨ k = 4 ∨ k = 5 ∨ k = 6 ∨ k = 7 ∨ k = 12 ∨ k = 13 ∨ k = 15) (s : ByteArray) (n a : Int) (p : Option Addr) (m c : Nat) (rl : Nat) (S : Shp) (w : World) (h : ∀ W, Below w.heap.size w W → Calls Tryz.prog 87 #[.agg (nd k s n a p m c)] W (ShP S W)) : Calls Tryz.prog 49 #[.agg (nd k s n a p m c), .int .i64 (rl : Nat)] w (ShP S w) := by
  have H : Hid _ := h
  clear h
  rcases hk with rfl | rfl | rfl | rfl | rfl | rfl | rfl | rfl | rfl | rfl
  all_goals
    go_enter Tryz.func49, Tryz.ntmps49
    go_wp2_with fail
    refine (H.out _ (below2 _ _ _)).mono ?_
    rintro e w1 ⟨q, rfl, hR, hb⟩
    simp only [World.size_alloc] at hR hb
    obtain ⟨⟨c0, c1, c2, c3⟩, f0, f1, f2, f3⟩ := box_facts hb
    have HB : Hid _ := box_shape hb hR (.slice q S.roles.length S.roles.length) (.int .i64 S.least) (.int .i64 S.most) (.bool S.crowded)
    clear hb hR
    go_wp2_with fail
    exact bodyPost_ret (v := .agg (shV S q)) (by simp [results, Tryz.results49, go_sem, *]) rfl ⟨q, rfl, HB.out.1, HB.out.2⟩

set_option maxHeartbeats 4000000 in
theorem shape_stmt (k : Int) (hk : k = 17 ∨ k = 18 ∨ k = 19 ∨ k = 20 ∨ k = 21 ∨ k = 22 ∨ k = 23 ∨ k = 24 ∨ k = 25 ∨ k = 26 ∨ k = 27 ∨ k = 28 ∨ k = 29 ∨ k = 30 ∨ k = 34) (s : ByteArray) (n a : Int) (p : Option Addr) (m c : Nat) (rl : Nat) (S : Shp) (w : World) (h : ∀ W, Below w.heap.size w W → Calls Tryz.prog 88 #[.agg (nd k s n a p m c), .int .i64 (rl : Nat)] W (ShP S W)) : Calls Tryz.prog 49 #[.agg (nd k s n a p m c), .int .i64 (rl : Nat)] w (ShP S w) := by
  have H : Hid _ := h
  clear h
  rcases hk with rfl | rfl | rfl | rfl | rfl | rfl | rfl | rfl | rfl | rfl | rfl | rfl | rfl | rfl | rfl
  all_goals
    go_enter Tryz.func49, Tryz.ntmps49
    go_wp2_with fail
    refine (H.out _ (below2 _ _ _)).mono ?_
    rintro e w1 ⟨q, rfl, hR, hb⟩
    simp only [World.size_alloc] at hR hb
    obtain ⟨⟨c0, c1, c2, c3⟩, f0, f1, f2, f3⟩ := box_facts hb
    have HB : Hid _ := box_shape hb hR (.slice q S.roles.length S.roles.length) (.int .i64 S.least) (.int .i64 S.most) (.bool S.crowded)
    clear hb hR
    go_wp2_with fail
    exact bodyPost_ret (v := .agg (shV S q)) (by simp [results, Tryz.results49, go_sem, *]) rfl ⟨q, rfl, HB.out.1, HB.out.2⟩

set_option maxHeartbeats 4000000 in
theorem shape_expr (k : Int) (h1 : (k == 1) = false) (h2 : (k == 2) = false) (h3 : (k == 3) = false) (h4 : (k == 4) = false) (h5 : (k == 5) = false) (h6 : (k == 6) = false) (h7 : (k == 7) = false) (h12 : (k == 12) = false) (h13 : (k == 13) = false) (h15 : (k == 15) = false) (h17 : (k == 17) = false) (h18 : (k == 18) = false) (h19 : (k == 19) = false) (h20 : (k == 20) = false) (h21 : (k == 21) = false) (h22 : (k == 22) = false) (h23 : (k == 23) = false) (h24 : (k == 24) = false) (h25 : (k == 25) = false) (h26 : (k == 26) = false) (h27 : (k == 27) = false) (h28 : (k == 28) = false) (h29 : (k == 29) = false) (h30 : (k == 30) = false) (h34 : (k == 34) = false) (s : ByteArray) (n a : Int) (p : Option Addr) (m c : Nat) (rl : Nat) (S : Shp) (w : World) (h : ∀ W, Below w.heap.size w W → Calls Tryz.prog 89 #[.agg (nd k s n a p m c), .int .i64 (rl : Nat)] W (ShP S W)) : Calls Tryz.prog 49 #[.agg (nd k s n a p m c), .int .i64 (rl : Nat)] w (ShP S w) := by
  have H : Hid _ := h
  clear h
  go_enter Tryz.func49, Tryz.ntmps49
  go_wp2_with fail
  refine (H.out _ (below2 _ _ _)).mono ?_
  rintro e w1 ⟨q, rfl, hR, hb⟩
  simp only [World.size_alloc] at hR hb
  obtain ⟨⟨c0, c1, c2, c3⟩, f0, f1, f2, f3⟩ := box_facts hb
  have HB : Hid _ := box_shape hb hR (.slice q S.roles.length S.roles.length) (.int .i64 S.least) (.int .i64 S.most) (.bool S.crowded)
  clear hb hR
  go_wp2_with fail
  exact bodyPost_ret (v := .agg (shV S q)) (by simp [results, Tryz.results49, go_sem, *]) rfl ⟨q, rfl, HB.out.1, HB.out.2⟩

theorem shape_any (k : Int) (s : ByteArray) (n a : Int) (p : Option Addr) (c : Nat) (ks : List MT) (rl : Nat) (w : World) (hin : (MT.node k s n a p c ks).In w.heap.size w) :
    Calls Tryz.prog 49 #[.agg (nd k s n a p ks.length c), .int .i64 (rl : Nat)] w (ShP (shOf k ks rl) w) := by
  by_cases e1 : k = 1
  · subst e1; exact shape_decl 1 (by decide) s n a p ks.length c rl _ w (fun W _ => decl_1 s n a p ks.length c W)
  by_cases e2 : k = 2
  · subst e2; exact shape_decl 2 (by decide) s n a p ks.length c rl _ w (fun W _ => decl_2 s n a p ks.length c W)
  by_cases e3 : k = 3
  · subst e3; exact shape_decl 3 (by decide) s n a p ks.length c rl _ w (fun W _ => decl_3 s n a p ks.length c W)
  by_cases e4 : k = 4
  · subst e4; exact shape_decl 4 (by decide) s n a p ks.length c rl _ w (fun W _ => decl_4 s n a p ks.length c W)
  by_cases e5 : k = 5
  · subst e5; exact shape_decl 5 (by decide) s n a p ks.length c rl _ w (fun W _ => decl_5 s n a p ks.length c W)
  by_cases e6 : k = 6
  · subst e6; exact shape_decl 6 (by decide) s n a p ks.length c rl _ w (fun W _ => decl_6 s n a p ks.length c W)
  by_cases e7 : k = 7
  · subst e7; exact shape_decl 7 (by decide) s n a p ks.length c rl _ w (fun W _ => decl_7 s n a p ks.length c W)
  by_cases e12 : k = 12
  · subst e12; exact shape_decl 12 (by decide) s n a p ks.length c rl _ w (fun W _ => decl_12 s n a p ks.length c W)
  by_cases e13 : k = 13
  · subst e13; exact shape_decl 13 (by decide) s n a p ks.length c rl _ w (fun W _ => decl_13 s n a p ks.length c W)
  by_cases e15 : k = 15
  · subst e15; exact shape_decl 15 (by decide) s n a p ks.length c rl _ w (fun W _ => decl_15 s n a p ks.length c W)
  by_cases e17 : k = 17
  · subst e17; exact shape_stmt 17 (by decide) s n a p ks.length c rl _ w (fun W _ => stmt_17 s n a p ks.length c rl W)
  by_cases e18 : k = 18
  · subst e18; exact shape_stmt 18 (by decide) s n a p ks.length c rl _ w (fun W _ => stmt_18 s n a p ks.length c rl W)
  by_cases e19 : k = 19
  · subst e19; exact shape_stmt 19 (by decide) s n a p ks.length c rl _ w (fun W _ => stmt_19 s n a p ks.length c rl W)
  by_cases e20 : k = 20
  · subst e20; exact shape_stmt 20 (by decide) s n a p ks.length c rl _ w (fun W _ => stmt_20 s n a p ks.length c rl W)
  by_cases e21 : k = 21
  · subst e21; exact shape_stmt 21 (by decide) s n a p ks.length c rl _ w (fun W _ => stmt_21 s n a p ks.length c rl W)
  by_cases e22 : k = 22
  · subst e22; exact shape_stmt 22 (by decide) s n a p ks.length c rl _ w (fun W _ => stmt_22 s n a p ks.length c rl W)
  by_cases e23 : k = 23
  · subst e23; exact shape_stmt 23 (by decide) s n a p ks.length c rl _ w (fun W _ => stmt_23 s n a p ks.length c rl W)
  by_cases e24 : k = 24
  · subst e24; exact shape_stmt 24 (by decide) s n a p ks.length c rl _ w (fun W _ => stmt_24 s n a p ks.length c rl W)
  by_cases e25 : k = 25
  · subst e25; exact shape_stmt 25 (by decide) s n a p ks.length c rl _ w (fun W _ => stmt_25 s n a p ks.length c rl W)
  by_cases e26 : k = 26
  · subst e26; exact shape_stmt 26 (by decide) s n a p ks.length c rl _ w (fun W _ => stmt_26 s n a p ks.length c rl W)
  by_cases e27 : k = 27
  · subst e27
    refine shape_stmt 27 (by decide) s n a p ks.length c rl _ w (fun W _ => ?_)
    have e : shOf 27 ks rl = if rl == 22 then shEx [24, 11] else shEx [23, 11] := rfl
    rw [e]
    by_cases hr : rl = 22
    · subst hr; exact stmt_27a s n a p ks.length c W
    · rw [if_neg (by simpa using hr)]; exact stmt_27b s n a p ks.length c rl (by simp; omega) W
  by_cases e28 : k = 28
  · subst e28; exact shape_stmt 28 (by decide) s n a p ks.length c rl _ w (fun W _ => stmt_28 s n a p ks.length c rl W)
  by_cases e29 : k = 29
  · subst e29; exact shape_stmt 29 (by decide) s n a p ks.length c rl _ w (fun W _ => stmt_29 s n a p ks.length c rl W)
  by_cases e30 : k = 30
  · subst e30; exact shape_stmt 30 (by decide) s n a p ks.length c rl _ w (fun W _ => stmt_30 s n a p ks.length c rl W)
  by_cases e34 : k = 34
  · subst e34; exact shape_stmt 34 (by decide) s n a p ks.length c rl _ w (fun W _ => stmt_34 s n a p ks.length c rl W)
  refine shape_expr k (beq_false_of_ne e1) (beq_false_of_ne e2) (beq_false_of_ne e3) (beq_false_of_ne e4) (beq_false_of_ne e5) (beq_false_of_ne e6) (beq_false_of_ne e7) (beq_false_of_ne e12) (beq_false_of_ne e13) (beq_false_of_ne e15) (beq_false_of_ne e17) (beq_false_of_ne e18) (beq_false_of_ne e19) (beq_false_of_ne e20) (beq_false_of_ne e21) (beq_false_of_ne e22) (beq_false_of_ne e23) (beq_false_of_ne e24) (beq_false_of_ne e25) (beq_false_of_ne e26) (beq_false_of_ne e27) (beq_false_of_ne e28) (beq_false_of_ne e29) (beq_false_of_ne e30) (beq_false_of_ne e34) s n a p ks.length c rl _ w (fun W hW => ?_)
  by_cases e38 : k = 38
  · subst e38; exact expr_38 s n a p ks.length c rl _ (fun W => list_any rl W) W
  by_cases e47 : k = 47
  · subst e47
    exact expr_47 s n a p ks.length c rl _ W (fun W' hW' => slice_any 47 s n a p c ks W' (MT.In.mono (by have := hW.size; have := hW'.size; omega) _ (MT.In.below (hW.trans (hW'.mono hW.size)) _ hin)))
  by_cases e40 : k = 40
  · subst e40
    have e : shOf 40 ks rl = if rl == 29 then shEx [18] else shEx [18, 18] := rfl
    rw [e]
    by_cases hr : rl = 29
    · subst hr; exact expr_40a s n a p ks.length c W
    · rw [if_neg (by simpa using hr)]; exact expr_40b s n a p ks.length c rl (by simp; omega) W
  by_cases e39 : k = 39
  · subst e39; exact expr_39 s n a p ks.length c rl W
  by_cases e41 : k = 41
  · subst e41; exact expr_41 s n a p ks.length c rl W
  by_cases e42 : k = 42
  · subst e42; exact expr_42 s n a p ks.length c rl W
  by_cases e43 : k = 43
  · subst e43; exact expr_43 s n a p ks.length c rl W
  by_cases e44 : k = 44
  · subst e44; exact expr_44 s n a p ks.length c rl W
  by_cases e45 : k = 45
  · subst e45; exact expr_45 s n a p ks.length c rl W
  by_cases e50 : k = 50
  · subst e50; exact expr_50 s n a p ks.length c rl W
  by_cases e46 : k = 46
  · subst e46; exact expr_46 s n a p ks.length c rl W
  by_cases e51 : k = 51
  · subst e51; exact expr_51 s n a p ks.length c rl W
  by_cases e48 : k = 48
  · subst e48; exact expr_48 s n a p ks.length c rl W
  by_cases e49 : k = 49
  · subst e49; exact expr_49 s n a p ks.length c rl W
  have e : shOf k ks rl = shEx [] := by
    unfold shOf
    simp only [beq_false_of_ne e1, beq_false_of_ne e2, beq_false_of_ne e3, beq_false_of_ne e4, beq_false_of_ne e5, beq_false_of_ne e6, beq_false_of_ne e7, beq_false_of_ne e12, beq_false_of_ne e13, beq_false_of_ne e15, beq_false_of_ne e17, beq_false_of_ne e18, beq_false_of_ne e19, beq_false_of_ne e20, beq_false_of_ne e21, beq_false_of_ne e22, beq_false_of_ne e23, beq_false_of_ne e24, beq_false_of_ne e25, beq_false_of_ne e26, beq_false_of_ne e27, beq_false_of_ne e28, beq_false_of_ne e29, beq_false_of_ne e30, beq_false_of_ne e34, beq_false_of_ne e38, beq_false_of_ne e39, beq_false_of_ne e40, beq_false_of_ne e41, beq_false_of_ne e42, beq_false_of_ne e43, beq_false_of_ne e44, beq_false_of_ne e45, beq_false_of_ne e46, beq_false_of_ne e47, beq_false_of_ne e48, beq_false_of_ne e49, beq_false_of_ne e50, beq_false_of_ne e51, Bool.false_eq_true, if_false]
  rw [e]
  exact expr_leaf k (beq_false_of_ne e38) (beq_false_of_ne e39) (beq_false_of_ne e41) (beq_false_of_ne e40) (beq_false_of_ne e42) (beq_false_of_ne e43) (beq_false_of_ne e44) (beq_false_of_ne e45) (beq_false_of_ne e50) (beq_false_of_ne e46) (beq_false_of_ne e51) (beq_false_of_ne e47) (beq_false_of_ne e48) (beq_false_of_ne e49) s n a p ks.length c rl W
end Go.Proofs.YthbnegggohegkaaGreatDoor
