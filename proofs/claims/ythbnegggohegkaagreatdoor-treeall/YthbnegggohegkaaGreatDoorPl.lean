/-
  The walks of level, and of part and bracketed out of plain's.
-/
import Derived.Test.YthbnegggohegkaaGreatDoorPu
namespace Go.Proofs.YthbnegggohegkaaGreatDoor
open Go.RowKit

/-- How close an expression's parts hold together. -/
def lev (t : MT) : Int := if t.kind = 51 then (if t.text = ⟨#[43]⟩ then 4 else 5) else 7

set_option maxRecDepth 100000 in
set_option maxHeartbeats 1000000 in
theorem level_sim (t : MT) (h : Sim t) (w : World) : Calls Tryz.prog 147 #[nodeV t] w fun e w' => e = .returned (.int .i64 (lev t)) ∧ Below w.heap.size w w' := by
  cases h with
  | name s a p c hs =>
    have e1 : lev (MT.node 14 s 0 a p c []) = 7 := rfl
    rw [e1]
    simp only [nodeV, MT.kind_node, MT.text_node, MT.num_node, MT.at_node, MT.ptr_node, MT.cap_node, MT.kids_node]
    go_enter Tryz.func147, Tryz.ntmps147
    go_wp2
    go_ret
    exact ⟨rfl, below1 _ _⟩
  | bin s a p c x y hs hx hy =>
    rcases hs with rfl | rfl
    · have e1 : lev (MT.node 51 ⟨#[43]⟩ 0 a p c [x, y]) = 4 := by simp [lev, MT.kind_node, MT.text_node]
      rw [e1]
      simp only [nodeV, MT.kind_node, MT.text_node, MT.num_node, MT.at_node, MT.ptr_node, MT.cap_node, MT.kids_node]
      go_enter Tryz.func147, Tryz.ntmps147
      go_wp2
      go_ret
      exact ⟨rfl, below1 _ _⟩
    · have e1 : lev (MT.node 51 ⟨#[42]⟩ 0 a p c [x, y]) = 5 := by simp [lev, MT.kind_node, MT.text_node]
      rw [e1]
      simp only [nodeV, MT.kind_node, MT.text_node, MT.num_node, MT.at_node, MT.ptr_node, MT.cap_node, MT.kids_node]
      go_enter Tryz.func147, Tryz.ntmps147
      go_wp2
      go_ret
      exact ⟨rfl, below1 _ _⟩

/-- What plain does at a tree. -/
def Plain (pb base : Nat) (t : MT) (out : List UInt8) : Prop :=
  ∀ (bs : List UInt8) (v : Value) (w : World), Pr pb base bs false v w → base ≤ w.heap.size → t.In pb w → bs.length + out.length ≤ 50000 →
    Calls Tryz.prog 132 #[.pointer (some ⟨pb, 0, none⟩), nodeV t] w fun e w' => (∃ u, e = .returned u) ∧ ∃ v', Pr pb base (bs ++ out) false v' w' ∧ PK pb base w w'

/-- A pointer in a box, and a node in one. -/
structure Two (pb bp bn : Nat) (t : MT) (w : World) : Prop where
  p : w.heap[bp]? = some (.cells #[.pointer (some ⟨pb, 0, none⟩)] 114 (0, 0))
  n : w.heap[bn]? = some (.cells #[.int .i64 t.kind, .string t.text, .int .i64 t.num, .int .i64 t.at_, .slice t.ptr t.kids.length t.cap] 24 (0, 0))

theorem Two.keep {pb base bp bn : Nat} {t : MT} {w w' : World} (h : Two pb bp bn t w) (hk : PK pb base w w') (hp : bp ≠ pb) (hn : bn ≠ pb) : Two pb bp bn t w' :=
  ⟨hk.high bp _ _ _ hp h.p (by decide), hk.high bn _ _ _ hn h.n (by decide)⟩
theorem Two.cp {pb bp bn : Nat} {t : MT} {w : World} (h : Two pb bp bn t w) : w.cell? ⟨bp, 0, none⟩ = some (.pointer (some ⟨pb, 0, none⟩)) := by simp [World.cell?, h.p]
theorem Two.cn {pb bp bn : Nat} {t : MT} {w : World} (h : Two pb bp bn t w) : BoxAt w bn t := ⟨by simp [World.cell?, h.n], by simp [World.cell?, h.n], by simp [World.cell?, h.n], by simp [World.cell?, h.n], by simp [World.cell?, h.n]⟩

set_option maxHeartbeats 1000000 in
theorem part1_any (pb base bp bn : Nat) (t : MT) (out bs : List UInt8) (HPl : Plain pb base t out) (v : Value) (w : World) (hP : Pr pb base bs false v w) (hB : base ≤ w.heap.size) (hin : t.In pb w) (hl : bs.length + out.length ≤ 50000) (h2 : Two pb bp bn t w) :
    Calls Tryz.prog 131 #[.pointer (some ⟨bp, 0, none⟩), .pointer (some ⟨bn, 0, none⟩)] w fun e w' => (∃ u, e = .returned u) ∧ ∃ v', Pr pb base (bs ++ out) false v' w' ∧ PK pb base w w' := by
  have hc := h2.cp
  obtain ⟨k0, k1, k2, k3, k4⟩ := h2.cn
  go_enter Tryz.func131, Tryz.ntmps131
  go_wp2_with fail
  refine (HPl bs v _ hP hB hin hl).mono ?_
  rintro e w1 ⟨⟨u, rfl⟩, hr⟩
  go_wp2_with fail
  go_end0
  exact ⟨⟨_, rfl⟩, hr⟩

theorem Pr.set {pb base : Nat} {bs : List UInt8} {bare b : Bool} {v : Value} {w : World} (h : Pr pb base bs bare v w) (hpb : pb < base) : Pr pb base bs b v (w.setCell ⟨pb, 2, none⟩ (.bool b)) :=
  ⟨heap_set h.row 2 _, h.own.kept (grownBy_set' w pb 2 _) (.inr (fun e => by have := (h.own.lt pb e).1; omega))⟩

theorem In.pk {pb base : Nat} {t : MT} {w w' : World} (h : t.In pb w) (hk : PK pb base w w') (hpb : pb < base) : t.In pb w' := MT.In.below (hk.below (Nat.le_of_lt hpb) (Nat.le_refl _)) t h

set_option maxRecDepth 100000 in
set_option maxHeartbeats 2000000 in
theorem bracketed_any (pb base bp bn : Nat) (t : MT) (out bs : List UInt8) (HPl : Plain pb base t out) (v : Value) (w : World) (hP : Pr pb base bs false v w) (hpb : pb < base) (hB : base ≤ w.heap.size) (hin : t.In pb w) (hl : bs.length + out.length + 2 ≤ 50000) (h2 : Two pb bp bn t w) (hbp : bp ≠ pb) (hbn : bn ≠ pb) :
    Calls Tryz.prog 130 #[.pointer (some ⟨pb, 0, none⟩), .string ⟨#[40]⟩, .string ⟨#[41]⟩, .func (.func 131) #[] #[.pointer (some ⟨bp, 0, none⟩), .pointer (some ⟨bn, 0, none⟩)]] w fun e w' => (∃ u, e = .returned u) ∧ ∃ v', Pr pb base (bs ++ ([40] ++ out ++ [41])) false v' w' ∧ PK pb base w w' := by
  have HP : Hid (Plain pb base t out) := HPl
  clear HPl
  have c2 := hP.bare
  have f2 := hP.frozen 2
  have hP1 : Pr pb base bs false v (w.setCell ⟨pb, 2, none⟩ (.bool false)) := hP.set hpb
  have hK1 := PK.set pb base w 2 (.bool false)
  have hz1 := hK1.size
  have hP2 := hP1.below (below1 _ (.cells #[.string ⟨#[40]⟩] 9))
  have hK2 := hK1.trans (PK.of (pb := pb) (below1 (w.setCell ⟨pb, 2, none⟩ (.bool false)) (.cells #[.string ⟨#[40]⟩] 9)) (by omega))
  have hr2 := heap_alloc_new (w.setCell ⟨pb, 2, none⟩ (.bool false)) (.cells #[.string ⟨#[40]⟩] 9)
  go_enter Tryz.func130, Tryz.ntmps130
  go_wp2_with fail
  simp only [World.size_setCell] at hr2
  refine (put_any pb base w.heap.size [⟨#[40]⟩] bs false v _ hP2 hpb (by simp; omega) hB hr2 (by simp [joinAll]; omega) (by simp)).mono ?_
  rintro e w3 ⟨⟨u, rfl⟩, v3, hP3, hK3⟩
  have e40 : bs ++ joinAll [⟨#[40]⟩] = bs ++ [40] := by simp [joinAll]
  rw [e40] at hP3
  have hKA := hK2.trans hK3
  have hzA := hKA.size
  have h2A := h2.keep hKA hbp hbn
  have hinA := In.pk hin hKA hpb
  clear hP hP1 hP2 hK1 hK2 hK3 hr2 c2 f2 e40 h2 hin
  go_wp2_with fail
  refine (part1_any pb base bp bn t out (bs ++ [40]) HP.out v3 _ hP3 (by omega) hinA (by simp; omega) h2A).mono ?_
  rintro e w4 ⟨⟨u, rfl⟩, v4, hP4, hK4⟩
  have hKB := hKA.trans hK4
  have hzB := hKB.size
  have hP5 := hP4.below (below1 _ (.cells #[.string ⟨#[41]⟩] 9))
  have hKC := hKB.trans (PK.of (pb := pb) (below1 w4 (.cells #[.string ⟨#[41]⟩] 9)) (by omega))
  have hr5 := heap_alloc_new w4 (.cells #[.string ⟨#[41]⟩] 9)
  clear hP3 hP4 hKA hK4 h2A hinA
  go_wp2_with fail
  refine (put_any pb base w4.heap.size [⟨#[41]⟩] (bs ++ [40] ++ out) false v4 _ hP5 hpb (by simp; omega) (by omega) hr5 (by simp [joinAll]; omega) (by simp)).mono ?_
  rintro e w6 ⟨⟨u, rfl⟩, v6, hP6, hK6⟩
  have hKD := hKC.trans hK6
  have e41 : bs ++ [40] ++ out ++ joinAll [⟨#[41]⟩] = bs ++ ([40] ++ out ++ [41]) := by simp [joinAll]
  rw [e41] at hP6
  have c6 := hP6.bare
  have f6 := hP6.frozen 2
  have HE : Hid (Pr pb base (bs ++ ([40] ++ out ++ [41])) false v6 (w6.setCell ⟨pb, 2, none⟩ (.bool false)) ∧ PK pb base w (w6.setCell ⟨pb, 2, none⟩ (.bool false))) := ⟨hP6.set hpb, hKD.trans (PK.set pb base w6 2 _)⟩
  clear hP5 hr5 hKC hK6 hKB e41 hP6 hKD
  go_wp2_with fail
  go_end0
  exact ⟨⟨_, rfl⟩, v6, HE.out⟩

/-- Within brackets, if they are needed. -/
def brk (b : Bool) (out : List UInt8) : List UInt8 := if b then [40] ++ out ++ [41] else out

set_option maxRecDepth 100000 in
set_option maxHeartbeats 2000000 in
theorem part_any (pb base : Nat) (t : MT) (out bs : List UInt8) (HPl : Plain pb base t out) (need : Bool) (v : Value) (w : World) (hP : Pr pb base bs false v w) (hpb : pb < base) (hB : base ≤ w.heap.size) (hin : t.In pb w) (hl : bs.length + (brk need out).length ≤ 50000) :
    Calls Tryz.prog 101 #[.pointer (some ⟨pb, 0, none⟩), nodeV t, .bool need] w fun e w' => (∃ u, e = .returned u) ∧ ∃ v', Pr pb base (bs ++ brk need out) false v' w' ∧ PK pb base w w' := by
  have HP : Hid (Plain pb base t out) := HPl
  clear HPl
  have hb2 := below2 w (.cells #[.pointer (some ⟨pb, 0, none⟩)] 114) (nodeO t)
  have hP2 := hP.below hb2
  have hK2 := PK.of (pb := pb) hb2 hB
  have hin2 := In.pk hin hK2 hpb
  have h2 : Two pb w.heap.size (w.heap.size + 1) t ((w.alloc (.cells #[.pointer (some ⟨pb, 0, none⟩)] 114)).alloc (nodeO t)) := by
    refine ⟨?_, ?_⟩
    · exact (Below.heap_alloc _ _ _ (by simp)).trans (heap_alloc_new w _)
    · have := heap_alloc_new (w.alloc (.cells #[.pointer (some ⟨pb, 0, none⟩)] 114)) (nodeO t)
      rwa [World.size_alloc] at this
  have hc := hP2.bare
  cases need
  · go_enter Tryz.func101, Tryz.ntmps101
    go_wp2_with fail
    refine (HP.out bs v _ hP2 (by simp; omega) hin2 hl).mono ?_
    rintro e w3 ⟨⟨u, rfl⟩, v3, hP3, hK3⟩
    have HE : Hid (Pr pb base (bs ++ brk false out) false v3 w3 ∧ PK pb base w w3) := ⟨hP3, hK2.trans hK3⟩
    clear hP3 hK3 hP2 hK2 h2 hc
    go_wp2_with fail
    go_end0
    exact ⟨⟨_, rfl⟩, v3, HE.out⟩
  · go_enter Tryz.func101, Tryz.ntmps101
    go_wp2_with fail
    refine (bracketed_any pb base w.heap.size (w.heap.size + 1) t out bs HP.out v _ hP2 hpb (by simp; omega) hin2 (by simp [brk] at hl; omega) h2 (by omega) (by omega)).mono ?_
    rintro e w3 ⟨⟨u, rfl⟩, v3, hP3, hK3⟩
    have HE : Hid (Pr pb base (bs ++ brk true out) false v3 w3 ∧ PK pb base w w3) := ⟨hP3, hK2.trans hK3⟩
    clear hP3 hK3 hP2 hK2 h2 hc
    go_wp2_with fail
    refine bodyPost_ret (results_none rfl _ _ _) rfl ?_
    exact ⟨⟨_, rfl⟩, v3, HE.out⟩
end Go.Proofs.YthbnegggohegkaaGreatDoor
