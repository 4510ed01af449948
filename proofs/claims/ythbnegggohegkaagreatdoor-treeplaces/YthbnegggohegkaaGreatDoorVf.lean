/-
  Parts.
-/
import Derived.Test.YthbnegggohegkaaGreatDoorVe
import Derived.Test.YthbnegggohegkaaGreatDoorGiJ
namespace Go.Proofs.YthbnegggohegkaaGreatDoor
open Go.RowKit
variable {pb base L : Nat} {s : PS} {v : Value} {w w' : World}

/-- What a closure of a writer has around it: the printer, and a node. -/
structure Bx (pb bp bn : Nat) (y : MT) (w : World) : Prop where
  p : w.heap[bp]? = some (.cells #[.pointer (some ⟨pb, 0, none⟩)] 114 (0, 0))
  n : w.heap[bn]? = some (.cells #[.int .i64 y.kind, .string y.text, .int .i64 y.num, .int .i64 y.at_, .slice y.ptr y.kids.length y.cap] 24 (0, 0))
  inn : y.In pb w
theorem Bx.pk {bp bn : Nat} {y : MT} (hpb : pb < base) (hp : bp ≠ pb) (hn : bn ≠ pb) (h : Bx pb bp bn y w) (hk : PK pb base w w') : Bx pb bp bn y w' :=
  ⟨hk.high bp _ _ _ hp h.p (by decide), hk.high bn _ _ _ hn h.n (by decide), In.pk h.inn hk hpb⟩
theorem Kd.of {y : MT} (h : y.In pb w) : Kd pb y.ptr y.kids w := h.kidsL
/-- How close a node's parts hold together. -/
def levK (y : MT) : Int := if y.kind = 51 then (levelN y.text.data.toList : Nat) else if y.kind = 50 ∨ y.kind = 42 then 6 else 7
set_option maxRecDepth 100000 in
set_option maxHeartbeats 2000000 in
theorem c131 {bp bn : Nat} {y : MT} {g : PS → PS} (h : Wf 132 pb base L y g) : Wc 131 #[.pointer (some ⟨bp, 0, none⟩), .pointer (some ⟨bn, 0, none⟩)] pb base L (Bx pb bp bn y) g := by
  intro s v w hi hP hB hc
  have H : Hid _ := h
  clear h
  have kp : w.cell? ⟨bp, 0, none⟩ = some (.pointer (some ⟨pb, 0, none⟩)) := by simp [World.cell?, hc.p]
  obtain ⟨k0, k1, k2, k3, k4⟩ := box_of hc.n
  go_enter Tryz.func131, Tryz.ntmps131
  go_wp2_with fail
  refine (H.out s v _ hi hP hB hc.inn).mono ?_
  rintro e w5 ⟨⟨u5, rfl⟩, v5, hP5, hi5, hK5⟩
  go_wp2_with fail
  go_end0
  exact ⟨⟨_, rfl⟩, v5, hP5, hi5, hK5⟩
set_option maxRecDepth 100000 in
set_option maxHeartbeats 2000000 in
theorem c144 {bp bn : Nat} {y : MT} {g : PS → PS} (h : Wc 70 #[.pointer (some ⟨pb, 0, none⟩), .slice y.ptr y.kids.length y.cap, .func (.func 71) #[.pointer (some ⟨pb, 0, none⟩)] #[]] pb base L (Kd pb y.ptr y.kids) g) : Wc 144 #[.pointer (some ⟨bp, 0, none⟩), .pointer (some ⟨bn, 0, none⟩)] pb base L (Bx pb bp bn y) g := by
  intro s v w hi hP hB hc
  have H : Hid _ := h
  clear h
  have kp : w.cell? ⟨bp, 0, none⟩ = some (.pointer (some ⟨pb, 0, none⟩)) := by simp [World.cell?, hc.p]
  obtain ⟨k0, k1, k2, k3, k4⟩ := box_of hc.n
  go_enter Tryz.func144, Tryz.ntmps144
  go_wp2_with fail
  refine (H.out s v _ hi hP hB (Kd.of hc.inn)).mono ?_
  rintro e w5 ⟨⟨u5, rfl⟩, v5, hP5, hi5, hK5⟩
  go_wp2_with fail
  go_end0
  exact ⟨⟨_, rfl⟩, v5, hP5, hi5, hK5⟩
set_option maxRecDepth 100000 in
set_option maxHeartbeats 2000000 in
theorem c145 {bp bn : Nat} {y : MT} {g : PS → PS} (h : Wc 70 #[.pointer (some ⟨pb, 0, none⟩), .slice y.ptr y.kids.length y.cap, .func (.func 75) #[.pointer (some ⟨pb, 0, none⟩)] #[]] pb base L (Kd pb y.ptr y.kids) g) : Wc 145 #[.pointer (some ⟨bp, 0, none⟩), .pointer (some ⟨bn, 0, none⟩)] pb base L (Bx pb bp bn y) g := by
  intro s v w hi hP hB hc
  have H : Hid _ := h
  clear h
  have kp : w.cell? ⟨bp, 0, none⟩ = some (.pointer (some ⟨pb, 0, none⟩)) := by simp [World.cell?, hc.p]
  obtain ⟨k0, k1, k2, k3, k4⟩ := box_of hc.n
  go_enter Tryz.func145, Tryz.ntmps145
  go_wp2_with fail
  refine (H.out s v _ hi hP hB (Kd.of hc.inn)).mono ?_
  rintro e w5 ⟨⟨u5, rfl⟩, v5, hP5, hi5, hK5⟩
  go_wp2_with fail
  go_end0
  exact ⟨⟨_, rfl⟩, v5, hP5, hi5, hK5⟩
set_option maxRecDepth 100000 in
set_option maxHeartbeats 2000000 in
theorem c146 {bp bn : Nat} {y : MT} {g : PS → PS} (h : Wc 70 #[.pointer (some ⟨pb, 0, none⟩), .slice y.ptr y.kids.length y.cap, .func (.func 75) #[.pointer (some ⟨pb, 0, none⟩)] #[]] pb base L (Kd pb y.ptr y.kids) g) : Wc 146 #[.pointer (some ⟨bp, 0, none⟩), .pointer (some ⟨bn, 0, none⟩)] pb base L (Bx pb bp bn y) g := by
  intro s v w hi hP hB hc
  have H : Hid _ := h
  clear h
  have kp : w.cell? ⟨bp, 0, none⟩ = some (.pointer (some ⟨pb, 0, none⟩)) := by simp [World.cell?, hc.p]
  obtain ⟨k0, k1, k2, k3, k4⟩ := box_of hc.n
  go_enter Tryz.func146, Tryz.ntmps146
  go_wp2_with fail
  refine (H.out s v _ hi hP hB (Kd.of hc.inn)).mono ?_
  rintro e w5 ⟨⟨u5, rfl⟩, v5, hP5, hi5, hK5⟩
  go_wp2_with fail
  go_end0
  exact ⟨⟨_, rfl⟩, v5, hP5, hi5, hK5⟩
set_option maxRecDepth 100000 in
set_option maxHeartbeats 2000000 in
theorem c133 {bp bn : Nat} {y : MT} {g : PS → PS} (h : Wc 97 #[.pointer (some ⟨pb, 0, none⟩), .slice y.ptr y.kids.length y.cap, .func (.func 73) #[.pointer (some ⟨pb, 0, none⟩)] #[]] pb base L (Kd pb y.ptr y.kids) g) : Wc 133 #[.pointer (some ⟨bp, 0, none⟩), .pointer (some ⟨bn, 0, none⟩)] pb base L (Bx pb bp bn y) g := by
  intro s v w hi hP hB hc
  have H : Hid _ := h
  clear h
  have kp : w.cell? ⟨bp, 0, none⟩ = some (.pointer (some ⟨pb, 0, none⟩)) := by simp [World.cell?, hc.p]
  obtain ⟨k0, k1, k2, k3, k4⟩ := box_of hc.n
  go_enter Tryz.func133, Tryz.ntmps133
  go_wp2_with fail
  refine (H.out s v _ hi hP hB (Kd.of hc.inn)).mono ?_
  rintro e w5 ⟨⟨u5, rfl⟩, v5, hP5, hi5, hK5⟩
  go_wp2_with fail
  go_end0
  exact ⟨⟨_, rfl⟩, v5, hP5, hi5, hK5⟩
set_option maxRecDepth 100000 in
set_option maxHeartbeats 2000000 in
theorem c64 {bp bn : Nat} {y : MT} {g : PS → PS} (h : Wf 65 pb base L y g) : Wc 64 #[.pointer (some ⟨bp, 0, none⟩), .pointer (some ⟨bn, 0, none⟩)] pb base L (Bx pb bp bn y) g := by
  intro s v w hi hP hB hc
  have H : Hid _ := h
  clear h
  have kp : w.cell? ⟨bp, 0, none⟩ = some (.pointer (some ⟨pb, 0, none⟩)) := by simp [World.cell?, hc.p]
  obtain ⟨k0, k1, k2, k3, k4⟩ := box_of hc.n
  go_enter Tryz.func64, Tryz.ntmps64
  go_wp2_with fail
  refine (H.out s v _ hi hP hB hc.inn).mono ?_
  rintro e w5 ⟨⟨u5, rfl⟩, v5, hP5, hi5, hK5⟩
  go_wp2_with fail
  go_end0
  exact ⟨⟨_, rfl⟩, v5, hP5, hi5, hK5⟩
set_option maxRecDepth 100000 in
set_option maxHeartbeats 2000000 in
theorem c111 {bp bn : Nat} {y : MT} {g : PS → PS} (h : Wf 73 pb base L y g) : Wc 111 #[.pointer (some ⟨bp, 0, none⟩), .pointer (some ⟨bn, 0, none⟩)] pb base L (Bx pb bp bn y) g := by
  intro s v w hi hP hB hc
  have H : Hid _ := h
  clear h
  have kp : w.cell? ⟨bp, 0, none⟩ = some (.pointer (some ⟨pb, 0, none⟩)) := by simp [World.cell?, hc.p]
  obtain ⟨k0, k1, k2, k3, k4⟩ := box_of hc.n
  go_enter Tryz.func111, Tryz.ntmps111
  go_wp2_with fail
  refine (H.out s v _ hi hP hB hc.inn).mono ?_
  rintro e w5 ⟨⟨u5, rfl⟩, v5, hP5, hi5, hK5⟩
  go_wp2_with fail
  go_end0
  exact ⟨⟨_, rfl⟩, v5, hP5, hi5, hK5⟩
set_option maxRecDepth 100000 in
set_option maxHeartbeats 2000000 in
theorem level_all (y : MT) (w : World) : Calls Tryz.prog 147 #[nodeV y] w fun e w' => e = .returned (.int .i64 (levK y)) ∧ Below w.heap.size w w' := by
  by_cases h51 : y.kind = 51
  · have e1 : levK y = (levelN y.text.data.toList : Nat) := by unfold levK; rw [if_pos h51]
    rw [e1]
    go_enter Tryz.func147, Tryz.ntmps147
    go_wp2_with (first | (go_at_call 127; refine (level_any _ _).mono ?_; rintro e w5 ⟨rfl, rfl⟩))
    go_ret
    exact ⟨rfl, below1 _ _⟩
  · by_cases h50 : y.kind = 50
    · have e1 : levK y = 6 := by unfold levK; rw [if_neg h51, if_pos (.inl h50)]
      rw [e1]
      go_enter Tryz.func147, Tryz.ntmps147
      go_wp2_with fail
      go_ret
      exact ⟨rfl, below1 _ _⟩
    · by_cases h42 : y.kind = 42
      · have e1 : levK y = 6 := by unfold levK; rw [if_neg h51, if_pos (.inr h42)]
        rw [e1]
        go_enter Tryz.func147, Tryz.ntmps147
        go_wp2_with fail
        go_ret
        exact ⟨rfl, below1 _ _⟩
      · have e1 : levK y = 7 := by unfold levK; rw [if_neg h51, if_neg (by omega)]
        rw [e1]
        go_enter Tryz.func147, Tryz.ntmps147
        go_wp2_with fail
        go_ret
        exact ⟨rfl, below1 _ _⟩
/-- Something within brackets. -/
def brG (o c : ByteArray) (g : PS → PS) (s : PS) : PS := { (putS [c] (g (putS [o] { s with bare := false }))) with bare := s.bare }
/-- A part, in brackets, if it needs them, or would begin a block in a head. -/
def partG (need : Bool) (k : Int) (g : PS → PS) (s : PS) : PS := if need = true ∨ (s.bare = true ∧ (k = 41 ∨ k = 42)) then brG ⟨#[40]⟩ ⟨#[41]⟩ g s else g s
set_option maxRecDepth 100000 in
set_option maxHeartbeats 4000000 in
theorem part_all {y : MT} {g : PS → PS} (need : Bool) (hpb : pb < base) (h : Wf 132 pb base L y g) : Wc 101 #[.pointer (some ⟨pb, 0, none⟩), nodeV y, .bool need] pb base L (fun w => y.In pb w) (partG need y.kind g) := by
  intro s v w hi hP hB hin
  have H : Hid _ := h
  clear h
  obtain ⟨W0, hW0⟩ : ∃ W, W = ((w.alloc (.cells #[.pointer (some ⟨pb, 0, none⟩)] 114)).alloc (.cells #[.int .i64 y.kind, .string y.text, .int .i64 y.num, .int .i64 y.at_, .slice y.ptr y.kids.length y.cap] 24)) := ⟨_, rfl⟩
  have hb0 : Below w.heap.size w W0 := by rw [hW0]; exact below2 _ _ _
  have hP0 := hP.below hb0
  have hK0 : PK pb base w W0 := PK.of (pb := pb) hb0 hB
  have hx0 : Bx pb w.heap.size (w.heap.size + 1) y W0 := by
    refine ⟨?_, ?_, In.pk hin hK0 hpb⟩
    · rw [hW0]; exact (Below.heap_alloc _ _ _ (by simp)).trans (heap_alloc_new w _)
    · rw [hW0]; have := heap_alloc_new (w.alloc (.cells #[.pointer (some ⟨pb, 0, none⟩)] 114)) (.cells #[.int .i64 y.kind, .string y.text, .int .i64 y.num, .int .i64 y.at_, .slice y.ptr y.kids.length y.cap] 24); rwa [World.size_alloc] at this
  have hz0 : base ≤ W0.heap.size := by have := hK0.size; omega
  have HB : Hid (Wc 130 #[.pointer (some ⟨pb, 0, none⟩), .string ⟨#[40]⟩, .string ⟨#[41]⟩, .func (.func 131) #[] #[.pointer (some ⟨w.heap.size, 0, none⟩), .pointer (some ⟨w.heap.size + 1, 0, none⟩)]] pb base L (Bx pb w.heap.size (w.heap.size + 1) y) (brG ⟨#[40]⟩ ⟨#[41]⟩ g)) := brack_any hpb (by decide) (by decide) (c131 H.out) (fun _ _ h1 h2 => h1.pk hpb (by omega) (by omega) h2) Tryz.call131
  have c2 := hP0.c2
  rw [hW0] at c2
  have HD : Hid (Pr2 pb base s v W0 ∧ PK pb base w W0 ∧ Bx pb w.heap.size (w.heap.size + 1) y W0 ∧ base ≤ W0.heap.size) := ⟨hP0, hK0, hx0, hz0⟩
  have HWW : Hid (W0 = _) := hW0
  clear hP hin hb0 hP0 hK0 hx0 hz0 hW0
  by_cases hn : need = true
  · subst hn
    go_enter Tryz.func101, Tryz.ntmps101
    go_wp2_with fail
    rw [← HWW.out]
    refine (HB.out s v W0 hi HD.out.1 HD.out.2.2.2 HD.out.2.2.1).mono ?_
    rintro e w5 ⟨⟨u5, rfl⟩, v5, hP5, hi5, hK5⟩
    have HE : Hid (Pr2 pb base (brG ⟨#[40]⟩ ⟨#[41]⟩ g s) v5 w5 ∧ (brG ⟨#[40]⟩ ⟨#[41]⟩ g s).ind = s.ind ∧ PK pb base w w5) := ⟨hP5, hi5, HD.out.2.1.trans hK5⟩
    clear hP5 hi5 hK5 c2
    go_wp2_with fail
    refine bodyPost_ret (results_none rfl _ _ _) rfl ?_
    refine ⟨⟨_, rfl⟩, v5, ?_⟩
    rw [show partG _ y.kind g s = brG ⟨#[40]⟩ ⟨#[41]⟩ g s from if_pos (by exact .inl rfl)]
    exact HE.out
  have hn2 : need = false := by simpa using hn
  subst hn2
  clear hn
  obtain ⟨sb, hsb⟩ : ∃ b, b = s.bare := ⟨_, rfl⟩
  rw [← hsb] at c2
  have HS : Hid (sb = s.bare) := hsb
  clear hsb
  cases sb
  · go_enter Tryz.func101, Tryz.ntmps101
    go_wp2_with fail
    rw [← HWW.out]
    refine (H.out s v W0 hi HD.out.1 HD.out.2.2.2 HD.out.2.2.1.inn).mono ?_
    rintro e w5 ⟨⟨u5, rfl⟩, v5, hP5, hi5, hK5⟩
    have HE : Hid (Pr2 pb base (g s) v5 w5 ∧ (g s).ind = s.ind ∧ PK pb base w w5) := ⟨hP5, hi5, HD.out.2.1.trans hK5⟩
    clear hP5 hi5 hK5 c2
    go_wp2_with fail
    go_end0
    refine ⟨⟨_, rfl⟩, v5, ?_⟩
    rw [show partG _ y.kind g s = g s from if_neg (by rw [← HS.out]; simp)]
    exact HE.out
  by_cases h41 : y.kind = 41
  · have H41 : Hid (y.kind = 41) := h41
    rw [h41] at HWW c2
    go_enter Tryz.func101, Tryz.ntmps101
    go_wp2_with fail
    rw [← HWW.out]
    refine (HB.out s v W0 hi HD.out.1 HD.out.2.2.2 HD.out.2.2.1).mono ?_
    rintro e w5 ⟨⟨u5, rfl⟩, v5, hP5, hi5, hK5⟩
    have HE : Hid (Pr2 pb base (brG ⟨#[40]⟩ ⟨#[41]⟩ g s) v5 w5 ∧ (brG ⟨#[40]⟩ ⟨#[41]⟩ g s).ind = s.ind ∧ PK pb base w w5) := ⟨hP5, hi5, HD.out.2.1.trans hK5⟩
    clear hP5 hi5 hK5 c2
    go_wp2_with fail
    refine bodyPost_ret (results_none rfl _ _ _) rfl ?_
    refine ⟨⟨_, rfl⟩, v5, ?_⟩
    rw [show partG _ y.kind g s = brG ⟨#[40]⟩ ⟨#[41]⟩ g s from if_pos (by exact .inr ⟨HS.out.symm, .inl H41.out⟩)]
    exact HE.out
  by_cases h42 : y.kind = 42
  · have H42 : Hid (y.kind = 42) := h42
    rw [h42] at HWW c2
    go_enter Tryz.func101, Tryz.ntmps101
    go_wp2_with fail
    rw [← HWW.out]
    refine (HB.out s v W0 hi HD.out.1 HD.out.2.2.2 HD.out.2.2.1).mono ?_
    rintro e w5 ⟨⟨u5, rfl⟩, v5, hP5, hi5, hK5⟩
    have HE : Hid (Pr2 pb base (brG ⟨#[40]⟩ ⟨#[41]⟩ g s) v5 w5 ∧ (brG ⟨#[40]⟩ ⟨#[41]⟩ g s).ind = s.ind ∧ PK pb base w w5) := ⟨hP5, hi5, HD.out.2.1.trans hK5⟩
    clear hP5 hi5 hK5 c2
    go_wp2_with fail
    refine bodyPost_ret (results_none rfl _ _ _) rfl ?_
    refine ⟨⟨_, rfl⟩, v5, ?_⟩
    rw [show partG _ y.kind g s = brG ⟨#[40]⟩ ⟨#[41]⟩ g s from if_pos (by exact .inr ⟨HS.out.symm, .inr H42.out⟩)]
    exact HE.out
  · have H42 : Hid (y.kind ≠ 41 ∧ y.kind ≠ 42) := ⟨h41, h42⟩
    have e41 : (y.kind == 41) = false := by simpa using h41
    have e42 : (y.kind == 42) = false := by simpa using h42
    go_enter Tryz.func101, Tryz.ntmps101
    go_wp2_with fail
    rw [← HWW.out]
    refine (H.out s v W0 hi HD.out.1 HD.out.2.2.2 HD.out.2.2.1.inn).mono ?_
    rintro e w5 ⟨⟨u5, rfl⟩, v5, hP5, hi5, hK5⟩
    have HE : Hid (Pr2 pb base (g s) v5 w5 ∧ (g s).ind = s.ind ∧ PK pb base w w5) := ⟨hP5, hi5, HD.out.2.1.trans hK5⟩
    clear hP5 hi5 hK5 c2
    go_wp2_with fail
    go_end0
    refine ⟨⟨_, rfl⟩, v5, ?_⟩
    rw [show partG _ y.kind g s = g s from if_neg (by rw [← HS.out]; have := H42.out; simp; omega)]
    exact HE.out
end Go.Proofs.YthbnegggohegkaaGreatDoor
