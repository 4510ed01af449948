/-
  The head of a type switch.
  Trees that are alike are written alike.
  Trees whose places are further on.
-/
import Derived.Test.YthbnegggohegkaaGreatDoorWgJ
import Derived.Test.YthbnegggohegkaaGreatDoorVe
import Derived.Test.YthbnegggohegkaaGreatDoorVk
import Derived.Test.YthbnegggohegkaaGreatDoorVr
import Derived.Test.YthbnegggohegkaaGreatDoorVt
import Derived.Test.YthbnegggohegkaaGreatDoorVu
import Derived.Test.YthbnegggohegkaaGreatDoorVy
import Derived.Test.YthbnegggohegkaaGreatDoorSyJ
namespace Go.Proofs.YthbnegggohegkaaGreatDoor
open Go.RowKit
variable {pb base L : Nat} {s : PS} {v : Value} {w w' : World}
set_option maxRecDepth 100000 in
set_option maxHeartbeats 4000000 in
theorem typeHead_none {q y : MT} {g : PS → PS} (hpb : pb < base) (hk : q.kind = 16) (h : Wf 149 pb base L y g) : Wc 137 #[.pointer (some ⟨pb, 0, none⟩), nodeV q, nodeV y] pb base L (fun w => MT.In pb w q ∧ MT.In pb w y) (fun s => putS [⟨#[46, 40, 116, 121, 112, 101, 41]⟩] { (g { s with bare := true }) with bare := false }) := by
  intro s v w hi hP hB hin
  have H : Hid _ := h
  clear h
  have hb0 := below2 w (nodeO q) (nodeO y)
  have hP0 := hP.below hb0
  have hK0 : PK pb base w _ := PK.of (pb := pb) hb0 hB
  have c2 := hP0.c2
  have f2 := hP0.fz 2
  have hP1 := hP0.bare hpb true
  have hK1 := hK0.trans (PK.set pb base _ 2 (.bool true))
  have hi1 := In.pk hin.2 hK1 hpb
  have hz1 := hK1.size
  have e16 : nodeO q = .cells #[.int .i64 16, .string q.text, .int .i64 q.num, .int .i64 q.at_, .slice q.ptr q.kids.length q.cap] 24 := by rw [nodeO, hk]
  rw [e16] at c2 f2 hP1 hK1 hi1 hz1
  clear hP hP0 hb0 e16 hK0
  go_enter Tryz.func137, Tryz.ntmps137
  go_wp2_with fail
  refine (H.out { s with bare := true } v _ hi hP1 (by omega) hi1).mono ?_
  rintro e w5 ⟨⟨u5, rfl⟩, v5, hP5, hi5, hK5⟩
  have d2 := hP5.c2
  have g2 := hP5.fz 2
  have hP6 := hP5.bare hpb false
  have hK6 := (hK1.trans hK5).trans (PK.set pb base w5 2 (.bool false))
  have hz6 := hK6.size
  have HJ : Hid ((g { s with bare := true }).ind = s.ind) := hi5
  have HQ : Hid _ := hP6
  have HK6 : Hid _ := hK6
  clear hP5 hP1 hi5 hK5 hK1 hi1 hP6 hK6 c2 f2 hz1
  go_wp2_with fail
  refine (putc [⟨#[46, 40, 116, 121, 112, 101, 41]⟩] HQ.out hpb (by omega) (al_cons (by decide) al_nil) (by simp) (by first | rfl | simp)).mono ?_
  rintro e w7 ⟨⟨u7, rfl⟩, v7, hP7, hK7⟩
  have HE : Hid (Pr2 pb base (putS [⟨#[46, 40, 116, 121, 112, 101, 41]⟩] { (g { s with bare := true }) with bare := false }) v7 w7 ∧ PK pb base w w7) := ⟨hP7, HK6.out.trans hK7⟩
  clear hP7 hK7
  go_wp2_with fail
  go_end0
  exact ⟨⟨_, rfl⟩, v7, HE.out.1, (putS_ind _ _).trans HJ.out, HE.out.2⟩
set_option maxRecDepth 100000 in
set_option maxHeartbeats 4000000 in
theorem typeHead_some {q y : MT} {g : PS → PS} (hpb : pb < base) (hk : (q.kind == 16) = false) (hs : q.text.size ≤ 4000000000) (h : Wf 149 pb base L y g) : Wc 137 #[.pointer (some ⟨pb, 0, none⟩), nodeV q, nodeV y] pb base L (fun w => MT.In pb w q ∧ MT.In pb w y) (fun s => putS [⟨#[46, 40, 116, 121, 112, 101, 41]⟩] { (g { (putS [q.text, ⟨#[32, 58, 61, 32]⟩] s) with bare := true }) with bare := false }) := by
  intro s v w hi hP hB hin
  have H : Hid _ := h
  clear h
  have hb0 := below2 w (nodeO q) (nodeO y)
  have hP0 := hP.below hb0
  have hK0 : PK pb base w _ := PK.of (pb := pb) hb0 hB
  have r1 : ((w.alloc (nodeO q)).alloc (nodeO y)).heap[w.heap.size + 1]? = some (nodeO y) := by have := heap_alloc_new (w.alloc (nodeO q)) (nodeO y); rwa [World.size_alloc] at this
  have HP0 : Hid _ := hP0
  have HK0 : Hid (PK pb base w _) := hK0
  have HR1 : Hid _ := r1
  clear hP hP0 hb0 hK0 r1
  go_enter Tryz.func137, Tryz.ntmps137
  go_wp2_with fail
  refine (putc [q.text, ⟨#[32, 58, 61, 32]⟩] HP0.out hpb (by simp only [World.size_alloc]; omega) (al_cons hs (al_cons (by decide) al_nil)) (by simp) (by first | rfl | simp)).mono ?_
  rintro e w1 ⟨⟨u1, rfl⟩, v1, hP1', hk1⟩
  have hnd := hk1.high (w.heap.size + 1) _ _ _ (by omega) HR1.out (by decide)
  obtain ⟨k0, k1, k2, k3, k4⟩ := box_of hnd
  have c2 := hP1'.c2
  have f2 := hP1'.fz 2
  have hK0 : PK pb base w w1 := HK0.out.trans hk1
  have hP1 := hP1'.bare hpb true
  have hK1 := hK0.trans (PK.set pb base _ 2 (.bool true))
  have hi1 := In.pk hin.2 hK1 hpb
  have hz1 := hK1.size
  clear hP1' hk1 hnd hK0
  go_wp2_with fail
  refine (H.out { (putS [q.text, ⟨#[32, 58, 61, 32]⟩] s) with bare := true } v1 _ (by rw [putS_ind]; exact hi) hP1 (by omega) hi1).mono ?_
  rintro e w5 ⟨⟨u5, rfl⟩, v5, hP5, hi5, hK5⟩
  have d2 := hP5.c2
  have g2 := hP5.fz 2
  have hP6 := hP5.bare hpb false
  have hK6 := (hK1.trans hK5).trans (PK.set pb base w5 2 (.bool false))
  have hz6 := hK6.size
  have HJ : Hid ((g { (putS [q.text, ⟨#[32, 58, 61, 32]⟩] s) with bare := true }).ind = s.ind) := by have := hi5; rwa [putS_ind] at this
  have HQ : Hid _ := hP6
  have HK6 : Hid _ := hK6
  clear hP5 hP1 hi5 hK5 hK1 hi1 hP6 hK6 c2 f2 hz1 k0 k1 k2 k3 k4
  go_wp2_with fail
  refine (putc [⟨#[46, 40, 116, 121, 112, 101, 41]⟩] HQ.out hpb (by omega) (al_cons (by decide) al_nil) (by simp) (by first | rfl | simp)).mono ?_
  rintro e w7 ⟨⟨u7, rfl⟩, v7, hP7, hK7⟩
  have HE : Hid (Pr2 pb base (putS [⟨#[46, 40, 116, 121, 112, 101, 41]⟩] { (g { (putS [q.text, ⟨#[32, 58, 61, 32]⟩] s) with bare := true }) with bare := false }) v7 w7 ∧ PK pb base w w7) := ⟨hP7, HK6.out.trans hK7⟩
  clear hP7 hK7
  go_wp2_with fail
  go_end0
  exact ⟨⟨_, rfl⟩, v7, HE.out.1, (putS_ind _ _).trans HJ.out, HE.out.2⟩
end Go.Proofs.YthbnegggohegkaaGreatDoor
namespace Go.Proofs.YthbnegggohegkaaGreatDoor
open Go.RowKit
variable {pb base L : Nat} {s : PS} {v : Value} {w w' : World}
/-- Two trees are alike, so deep, but for places and where they lie. -/
def Lk : Nat → MT → MT → Prop
  | 0, T, x => (x.kind = T.kind ∧ x.text = T.text ∧ x.num = T.num) ∧ x.kids.length = T.kids.length
  | f + 1, T, x => (x.kind = T.kind ∧ x.text = T.text ∧ x.num = T.num) ∧ x.kids.length = T.kids.length ∧ ∀ (i : Nat) (hi : i < T.kids.length) (hx : i < x.kids.length), Lk f T.kids[i] x.kids[i]
theorem Lk.same : ∀ {f : Nat} {T x : MT}, Lk f T x → x.kind = T.kind ∧ x.text = T.text ∧ x.num = T.num
  | 0, _, _, h => h.1
  | _ + 1, _, _, h => h.1
theorem Lk.len : ∀ {f : Nat} {T x : MT}, Lk f T x → x.kids.length = T.kids.length
  | 0, _, _, h => h.2
  | _ + 1, _, _, h => h.2.1
theorem Lk.lev {f : Nat} {T x : MT} (h : Lk f T x) : levK x = levK T := by unfold levK; rw [h.same.1, h.same.2.1]
theorem Lk.item {f : Nat} {T x : MT} (h : Lk f T x) : itemS x = itemS T := by unfold itemS; rw [h.same.1, h.same.2.1]
theorem node_eq (x : MT) : x = .node x.kind x.text x.num x.at_ x.ptr x.cap x.kids := by cases x; rfl
theorem Lk.node {f : Nat} {k : Int} {t : ByteArray} {n a : Int} {p : Option Addr} {c : Nat} {ts : List MT} {x : MT} (h : Lk (f + 1) (.node k t n a p c ts) x) :
    ∃ (a' : Int) (p' : Option Addr) (c' : Nat) (ys : List MT), x = .node k t n a' p' c' ys ∧ ys.length = ts.length ∧ ∀ (i : Nat) (hi : i < ts.length) (hx : i < ys.length), Lk f ts[i] ys[i] := by
  obtain ⟨⟨h1, h2, h3⟩, h4, h5⟩ := h
  refine ⟨x.at_, x.ptr, x.cap, x.kids, ?_, h4, h5⟩
  have := node_eq x
  rw [h1, h2, h3] at this
  exact this
theorem Lk.none {f : Nat} {k : Int} {t : ByteArray} {n a : Int} {p : Option Addr} {c : Nat} {x : MT} (h : Lk (f + 1) (.node k t n a p c []) x) : ∃ (a' : Int) (p' : Option Addr) (c' : Nat), x = .node k t n a' p' c' [] := by
  obtain ⟨a', p', c', ys, rfl, hl, _⟩ := h.node
  obtain rfl := List.eq_nil_of_length_eq_zero hl
  exact ⟨a', p', c', rfl⟩
theorem Lk.cons {f : Nat} {k : Int} {t : ByteArray} {n a : Int} {p : Option Addr} {c : Nat} {t0 : MT} {ts : List MT} {x : MT} (h : Lk (f + 1) (.node k t n a p c (t0 :: ts)) x) :
    ∃ (a' : Int) (p' : Option Addr) (c' : Nat) (y0 : MT) (ys : List MT), x = .node k t n a' p' c' (y0 :: ys) ∧ Lk f t0 y0 ∧ ys.length = ts.length ∧ ∀ (i : Nat) (hi : i < ts.length) (hx : i < ys.length), Lk f ts[i] ys[i] := by
  obtain ⟨a', p', c', ys, rfl, hl, hk⟩ := h.node
  cases ys with
  | nil => simp at hl
  | cons y0 ys =>
    refine ⟨a', p', c', y0, ys, rfl, hk 0 (by simp) (by simp), by simpa using hl, fun i hi hx => ?_⟩
    exact hk (i + 1) (by simpa using hi) (by simpa using hx)
theorem Lk.one {f : Nat} {k : Int} {t : ByteArray} {n a : Int} {p : Option Addr} {c : Nat} {t0 : MT} {x : MT} (h : Lk (f + 1) (.node k t n a p c [t0]) x) :
    ∃ (a' : Int) (p' : Option Addr) (c' : Nat) (y0 : MT), x = .node k t n a' p' c' [y0] ∧ Lk f t0 y0 := by
  obtain ⟨a', p', c', y0, ys, rfl, h0, hl, _⟩ := h.cons
  obtain rfl := List.eq_nil_of_length_eq_zero hl
  exact ⟨a', p', c', y0, rfl, h0⟩
theorem Lk.cons2 {f : Nat} {k : Int} {t : ByteArray} {n a : Int} {p : Option Addr} {c : Nat} {t0 t1 : MT} {ts : List MT} {x : MT} (h : Lk (f + 1) (.node k t n a p c (t0 :: t1 :: ts)) x) :
    ∃ (a' : Int) (p' : Option Addr) (c' : Nat) (y0 y1 : MT) (ys : List MT), x = .node k t n a' p' c' (y0 :: y1 :: ys) ∧ Lk f t0 y0 ∧ Lk f t1 y1 ∧ ys.length = ts.length ∧ ∀ (i : Nat) (hi : i < ts.length) (hx : i < ys.length), Lk f ts[i] ys[i] := by
  obtain ⟨a', p', c', y0, ys, rfl, h0, hl, hk⟩ := h.cons
  cases ys with
  | nil => simp at hl
  | cons y1 ys =>
    refine ⟨a', p', c', y0, y1, ys, rfl, h0, hk 0 (by simp) (by simp), by simpa using hl, fun i hi hx => ?_⟩
    exact hk (i + 1) (by simpa using hi) (by simpa using hx)
theorem Lk.two {f : Nat} {k : Int} {t : ByteArray} {n a : Int} {p : Option Addr} {c : Nat} {t0 t1 : MT} {x : MT} (h : Lk (f + 1) (.node k t n a p c [t0, t1]) x) :
    ∃ (a' : Int) (p' : Option Addr) (c' : Nat) (y0 y1 : MT), x = .node k t n a' p' c' [y0, y1] ∧ Lk f t0 y0 ∧ Lk f t1 y1 := by
  obtain ⟨a', p', c', y0, y1, ys, rfl, h0, h1, hl, _⟩ := h.cons2
  obtain rfl := List.eq_nil_of_length_eq_zero hl
  exact ⟨a', p', c', y0, y1, rfl, h0, h1⟩
theorem Lk.three {f : Nat} {k : Int} {t : ByteArray} {n a : Int} {p : Option Addr} {c : Nat} {t0 t1 t2 : MT} {x : MT} (h : Lk (f + 1) (.node k t n a p c [t0, t1, t2]) x) :
    ∃ (a' : Int) (p' : Option Addr) (c' : Nat) (y0 y1 y2 : MT), x = .node k t n a' p' c' [y0, y1, y2] ∧ Lk f t0 y0 ∧ Lk f t1 y1 ∧ Lk f t2 y2 := by
  obtain ⟨a', p', c', y0, y1, ys, rfl, h0, h1, hl, hk⟩ := h.cons2
  match ys, hl, hk with
  | [y2], _, hk => exact ⟨a', p', c', y0, y1, y2, rfl, h0, h1, hk 0 (by simp) (by simp)⟩
theorem Lk.four {f : Nat} {k : Int} {t : ByteArray} {n a : Int} {p : Option Addr} {c : Nat} {t0 t1 t2 t3 : MT} {x : MT} (h : Lk (f + 1) (.node k t n a p c [t0, t1, t2, t3]) x) :
    ∃ (a' : Int) (p' : Option Addr) (c' : Nat) (y0 y1 y2 y3 : MT), x = .node k t n a' p' c' [y0, y1, y2, y3] ∧ Lk f t0 y0 ∧ Lk f t1 y1 ∧ Lk f t2 y2 ∧ Lk f t3 y3 := by
  obtain ⟨a', p', c', y0, y1, ys, rfl, h0, h1, hl, hk⟩ := h.cons2
  match ys, hl, hk with
  | [y2, y3], _, hk => exact ⟨a', p', c', y0, y1, y2, y3, rfl, h0, h1, hk 0 (by simp) (by simp), hk 1 (by simp) (by simp)⟩
/-- A writer writes all trees that are alike alike. -/
def Wx (fn f : Nat) (T : MT) (g : PS → PS) : Prop := ∀ L pb base, L + f ≤ 1000 → pb < base → ∀ x, Lk f T x → Wf fn pb base L x g
def WK (fn f : Nat) (ts : List MT) (gs : Nat → PS → PS) : Prop := ∀ L pb base, L + f ≤ 1000 → pb < base → ∀ ys : List MT, ys.length = ts.length → (∀ (i : Nat) (hi : i < ts.length) (hx : i < ys.length), Lk f ts[i] ys[i]) → ∀ (i : Nat) (hi : i < ys.length), Wf fn pb base L ys[i] (gs i)
theorem WK.mk {fn f : Nat} {ts : List MT} (h : ∀ (i : Nat) (hi : i < ts.length), ∃ g, Wx fn f ts[i] g) : ∃ gs, WK fn f ts gs := by
  classical
  refine ⟨fun i => if hi : i < ts.length then (h i hi).choose else id, fun L pb base hL hpb ys hl hk i hi => ?_⟩
  have hi2 : i < ts.length := by omega
  show Wf fn pb base L ys[i] (dite (i < ts.length) (fun hi => (h i hi).choose) (fun _ => id))
  rw [dif_pos hi2]
  exact (h i hi2).choose_spec L pb base hL hpb ys[i] (hk i hi2 hi)
theorem text_nil {t : ByteArray} (h : t.toList.isEmpty = true) : t = ⟨#[]⟩ := by
  rw [ByteArray.toList_eq] at h
  exact text_eq (l := []) (by simpa using h)
theorem unless_both {fn : Nat} {ah : ByteArray} {y : MT} {g : PS → PS} (hpb : pb < base) (hs : ah.size ≤ 4000000000) (h : ¬ y.kind = 16 → Wf fn pb base L y g) (hE : Ent fn) :
    Wc 107 #[.pointer (some ⟨pb, 0, none⟩), .string ah, nodeV y, .func (.func fn) #[.pointer (some ⟨pb, 0, none⟩)] #[]] pb base L (fun w => MT.In pb w y) (if y.kind = 16 then fun s => s else fun s => g (putS [ah] s)) := by
  by_cases hk : y.kind = 16
  · rw [if_pos hk]; exact unless_none hk hpb
  · rw [if_neg hk]; exact unless_some (by simpa using hk) hs (h hk) hE hpb
theorem label_both {k : Int} {t : ByteArray} {n a : Int} {p : Option Addr} {c : Nat} {ks : List MT} (hpb : pb < base) (ht : t.size ≤ 4000000000) : Wf 135 pb base L (.node k t n a p c ks) (if t.toList.isEmpty = true then fun s => s else fun s => putS [t, ⟨#[58, 32]⟩] s) := by
  by_cases hk : t.toList.isEmpty = true
  · rw [if_pos hk]; obtain rfl := text_nil hk; exact label_none hpb
  · rw [if_neg hk]; exact label_some ht (by simpa using hk) hpb
theorem jump_both {k : Int} {wd t : ByteArray} {n a : Int} {p : Option Addr} {c : Nat} {ks : List MT} (hpb : pb < base) (hs : wd.size ≤ 4000000000) (ht : t.size ≤ 4000000000) : Wc 108 #[.pointer (some ⟨pb, 0, none⟩), .string wd, nodeV (.node k t n a p c ks)] pb base L (fun w => MT.In pb w (.node k t n a p c ks)) (if t.toList.isEmpty = true then fun s => putS [wd] s else fun s => putS [⟨#[32]⟩, t] (putS [wd] s)) := by
  by_cases hk : t.toList.isEmpty = true
  · rw [if_pos hk]; obtain rfl := text_nil hk; exact jump_none hs hpb
  · rw [if_neg hk]; exact jump_some hs ht (by simpa using hk) hpb
theorem typeHead_both {q y : MT} {g : PS → PS} (hpb : pb < base) (hs : q.text.size ≤ 4000000000) (h : Wf 149 pb base L y g) : Wc 137 #[.pointer (some ⟨pb, 0, none⟩), nodeV q, nodeV y] pb base L (fun w => MT.In pb w q ∧ MT.In pb w y) (if q.kind = 16 then fun s => putS [⟨#[46, 40, 116, 121, 112, 101, 41]⟩] { (g { s with bare := true }) with bare := false } else fun s => putS [⟨#[46, 40, 116, 121, 112, 101, 41]⟩] { (g { (putS [q.text, ⟨#[32, 58, 61, 32]⟩] s) with bare := true }) with bare := false }) := by
  by_cases hk : q.kind = 16
  · rw [if_pos hk]; exact typeHead_none hpb hk h
  · rw [if_neg hk]; exact typeHead_some hpb (by simpa using hk) hs h
theorem loop_both {t : ByteArray} {n a : Int} {p : Option Addr} {c : Nat} {y0 y1 y2 y3 : MT} {gl g2 g3 : PS → PS} (hpb : pb < base) (hl : Wf 135 pb base L (.node 24 t n a p c [y0, y1, y2, y3]) gl) (hs0 : (itemS y0).size ≤ 4000000000) (hs1 : (itemS y1).size ≤ 4000000000) (h2 : Wf 134 pb base L y2 g2) (h3 : Wf 102 pb base L y3 g3) :
    Wf 105 pb base L (.node 24 t n a p c [y0, y1, y2, y3]) (if y1.kind = 16 then fun s => g3 (putS [⟨#[32]⟩] (g2 (putS [⟨#[32, 105, 110, 32]⟩] (putS [⟨#[32]⟩, itemS y0] (putS [⟨#[102, 111, 114]⟩] (gl s)))))) else fun s => g3 (putS [⟨#[32]⟩] (g2 (putS [⟨#[32, 105, 110, 32]⟩] (putS [⟨#[44, 32]⟩, itemS y1] (putS [⟨#[32]⟩, itemS y0] (putS [⟨#[102, 111, 114]⟩] (gl s)))))))) := by
  by_cases hk : y1.kind = 16
  · rw [if_pos hk]; exact loop_24n hl hs0 hk h2 h3 hpb
  · rw [if_neg hk]; exact loop_24s hl hs0 (by simpa using hk) hs1 h2 h3 hpb
theorem unary_both {t : ByteArray} {n a : Int} {p : Option Addr} {c : Nat} {y0 : MT} {g0 : PS → PS} (hpb : pb < base) (ht : t.size ≤ 4000000000) (h0 : Wf 132 pb base L y0 g0) :
    Wf 132 pb base L (.node 50 t n a p c [y0]) (fun s => partG (if levK y0 < 6 then true else if t.toList = [45] then (y0.text.toList == [45]) else false) y0.kind g0 (putS [t] s)) := by
  by_cases hl : levK y0 < 6
  · rw [if_pos hl]; exact plain_50a ht h0 hl hpb
  · rw [if_neg hl]
    by_cases h1 : t.toList = [45]
    · rw [if_pos h1]
      have e : t = ⟨#[45]⟩ := by rw [ByteArray.toList_eq] at h1; exact text_eq (l := [45]) h1
      subst e
      exact plain_50b h0 hl hpb
    · rw [if_neg h1]; exact plain_50c ht h0 hl h1 hpb
theorem call_both {t : ByteArray} {n a : Int} {p : Option Addr} {c : Nat} {y0 : MT} {ks : List MT} {g0 g1 : PS → PS} (hpb : pb < base) (h0 : Wf 132 pb base L y0 g0) (h1 : ∀ p' c', Wc 70 #[.pointer (some ⟨pb, 0, none⟩), .slice p' ks.length c', .func (.func 71) #[.pointer (some ⟨pb, 0, none⟩)] #[]] pb base L (Kd pb p' ks) g1) :
    Wf 148 pb base L (.node 48 t n a p c (y0 :: ks)) (fun s => brG ⟨#[40]⟩ ⟨#[41]⟩ g1 (partG (if levK y0 < 7 then true else if y0.kind = 14 then (y0.text.toList == [110, 105, 108]) else false) y0.kind g0 s)) := by
  intro s v w hi hP hB hin
  by_cases hc : c = 1
  · subst hc
    have hcl := hin.len_le
    simp only [MT.kids_node, MT.cap_node, List.length_cons] at hcl
    obtain rfl : ks = [] := List.eq_nil_of_length_eq_zero (by omega)
    by_cases hl : levK y0 < 7
    · rw [if_pos hl]; exact post_48ae h0 (fun p' => h1 p' 0) hl hpb s v w hi hP hB hin
    · rw [if_neg hl]
      by_cases hk : y0.kind = 14
      · rw [if_pos hk]; exact post_48be h0 (fun p' => h1 p' 0) hl hk hpb s v w hi hP hB hin
      · rw [if_neg hk]; exact post_48ce h0 (fun p' => h1 p' 0) hl hk hpb s v w hi hP hB hin
  · by_cases hl : levK y0 < 7
    · rw [if_pos hl]; exact post_48an h0 (fun p' => h1 p' (c - 1)) hl hc hpb s v w hi hP hB hin
    · rw [if_neg hl]
      by_cases hk : y0.kind = 14
      · rw [if_pos hk]; exact post_48bn h0 (fun p' => h1 p' (c - 1)) hl hk hc hpb s v w hi hP hB hin
      · rw [if_neg hk]; exact post_48cn h0 (fun p' => h1 p' (c - 1)) hl hk hc hpb s v w hi hP hB hin
theorem switch_both {t : ByteArray} {n a : Int} {p : Option Addr} {c : Nat} {y0 : MT} {ks : List MT} {gl g0 : PS → PS} {gs : Nat → PS → PS} (hpb : pb < base) (hL1 : L ≤ 1000) (hl : Wf 135 pb base L (.node 25 t n a p c (y0 :: ks)) gl) (h0 : Wc 107 #[.pointer (some ⟨pb, 0, none⟩), .string ⟨#[32]⟩, nodeV y0, .func (.func 134) #[.pointer (some ⟨pb, 0, none⟩)] #[]] pb base L (fun w => MT.In pb w y0) g0) (h : ∀ (i : Nat) (hi : i < ks.length), Wf 74 pb base L ks[i] (gs i)) :
    Wf 106 pb base L (.node 25 t n a p c (y0 :: ks)) (fun s => putS [⟨#[125]⟩] (tabs s.ind (casesG gs ks.length (putS [⟨#[32, 123, 10]⟩] (g0 (putS [⟨#[115, 119, 105, 116, 99, 104]⟩] (gl s))))))) := by
  intro s v w hi hP hB hin
  by_cases hc : c = 1
  · subst hc
    have hcl := hin.len_le
    simp only [MT.kids_node, MT.cap_node, List.length_cons] at hcl
    obtain rfl : ks = [] := List.eq_nil_of_length_eq_zero (by omega)
    exact choices_25e hL1 hl h0 hpb s v w hi hP hB hin
  · exact choices_25n hL1 hl h0 h hc hpb s v w hi hP hB hin
theorem types_both {t : ByteArray} {n a : Int} {p : Option Addr} {c : Nat} {y0 y1 : MT} {ks : List MT} {gl g0 : PS → PS} {gs : Nat → PS → PS} (hpb : pb < base) (hL1 : L ≤ 1000) (hl : Wf 135 pb base L (.node 26 t n a p c (y0 :: y1 :: ks)) gl) (h0 : Wc 137 #[.pointer (some ⟨pb, 0, none⟩), nodeV y0, nodeV y1] pb base L (fun w => MT.In pb w y0 ∧ MT.In pb w y1) g0) (h : ∀ (i : Nat) (hi : i < ks.length), Wf 74 pb base L ks[i] (gs i)) :
    Wf 106 pb base L (.node 26 t n a p c (y0 :: y1 :: ks)) (fun s => putS [⟨#[125]⟩] (tabs s.ind (casesG gs ks.length (putS [⟨#[32, 123, 10]⟩] (g0 (putS [⟨#[32]⟩] (putS [⟨#[115, 119, 105, 116, 99, 104]⟩] (gl s)))))))) := by
  intro s v w hi hP hB hin
  by_cases hc : c = 2
  · subst hc
    have hcl := hin.len_le
    simp only [MT.kids_node, MT.cap_node, List.length_cons] at hcl
    obtain rfl : ks = [] := List.eq_nil_of_length_eq_zero (by omega)
    exact choices_26e hL1 hl h0 hpb s v w hi hP hB hin
  · exact choices_26n hL1 hl h0 h hc hpb s v w hi hP hB hin
end Go.Proofs.YthbnegggohegkaaGreatDoor
namespace Go.Proofs.YthbnegggohegkaaGreatDoor
open Go.RowKit
/-- The same tree with all places so many further on, so deep. -/
def Mv (m : Int) : Nat → MT → MT → Prop
  | 0, t, y => (y.kind = t.kind ∧ y.text = t.text ∧ y.num = t.num ∧ y.at_ = wrap64 (t.at_ + m)) ∧ y.kids.length = t.kids.length
  | f + 1, t, y => (y.kind = t.kind ∧ y.text = t.text ∧ y.num = t.num ∧ y.at_ = wrap64 (t.at_ + m)) ∧ y.kids.length = t.kids.length ∧ ∀ (i : Nat) (hi : i < t.kids.length) (hx : i < y.kids.length), Mv m f t.kids[i] y.kids[i]
def MvA (m : Int) (t y : MT) : Prop := ∀ f, Mv m f t y
variable {m : Int} {t y : MT}
theorem MvA.top (h : MvA m t y) : y.kind = t.kind ∧ y.text = t.text ∧ y.num = t.num ∧ y.at_ = wrap64 (t.at_ + m) := (h 0).1
theorem MvA.len (h : MvA m t y) : y.kids.length = t.kids.length := (h 0).2
theorem MvA.kid (h : MvA m t y) (i : Nat) (hi : i < t.kids.length) (hx : i < y.kids.length) : MvA m t.kids[i] y.kids[i] := fun f => (h (f + 1)).2.2 i hi hx
theorem MvA.mk (h : y.kind = t.kind ∧ y.text = t.text ∧ y.num = t.num ∧ y.at_ = wrap64 (t.at_ + m)) (hl : y.kids.length = t.kids.length) (hk : ∀ (i : Nat) (hi : i < t.kids.length) (hx : i < y.kids.length), MvA m t.kids[i] y.kids[i]) : MvA m t y
  | 0 => ⟨h, hl⟩
  | f + 1 => ⟨h, hl, fun i hi hx => hk i hi hx f⟩
theorem MvA.lk : ∀ (f : Nat) {t y : MT}, MvA m t y → Lk f t y
  | 0, _, _, h => ⟨⟨h.top.1, h.top.2.1, h.top.2.2.1⟩, h.len⟩
  | f + 1, _, _, h => ⟨⟨h.top.1, h.top.2.1, h.top.2.2.1⟩, h.len, fun i hi hx => MvA.lk f (h.kid i hi hx)⟩
/-- Lists of such. -/
def MvL (m : Int) (xs ys : List MT) : Prop := ys.length = xs.length ∧ ∀ (i : Nat) (hi : i < xs.length) (hx : i < ys.length), MvA m xs[i] ys[i]
theorem MvA.kids (h : MvA m t y) : MvL m t.kids y.kids := ⟨h.len, h.kid⟩
theorem MvL.nil {ys : List MT} (h : MvL m [] ys) : ys = [] := List.eq_nil_of_length_eq_zero h.1
theorem MvL.cons {x : MT} {xs ys : List MT} (h : MvL m (x :: xs) ys) : ∃ y ys', ys = y :: ys' ∧ MvA m x y ∧ MvL m xs ys' := by
  cases ys with
  | nil => exact absurd h.1 (by simp)
  | cons y ys => exact ⟨y, ys, rfl, h.2 0 (by simp) (by simp), by simpa using h.1, fun i hi hx => h.2 (i + 1) (by simpa using hi) (by simpa using hx)⟩
theorem mv_opt (P : MT → Bool) (hP : ∀ x y, MvA m x y → P y = P x) : ∀ {xs ys : List MT}, MvL m xs ys → ∀ (i : Nat), (ys[i]?).any P = (xs[i]?).any P
  | [], ys, h, i => by rw [h.nil]
  | x :: xs, ys, h, i => by
    obtain ⟨y, ys', rfl, hx, hl⟩ := h.cons
    cases i with
    | zero => exact hP x y hx
    | succ i => exact mv_opt P hP hl i
theorem mv_any (P : MT → Bool) (hP : ∀ x y, MvA m x y → P y = P x) : ∀ {xs ys : List MT}, MvL m xs ys → ys.any P = xs.any P
  | [], ys, h => by rw [h.nil]
  | x :: xs, ys, h => by
    obtain ⟨y, ys', rfl, hx, hl⟩ := h.cons
    rw [List.any_cons, List.any_cons, hP x y hx, mv_any P hP hl]
theorem mv_none {xs ys : List MT} (h : MvL m xs ys) (i : Nat) : noneAt ys i = noneAt xs i := mv_opt (fun x => x.kind == 16) (fun x y h => by simp only [h.top.1]) h i
theorem mv_def (h : MvA m t y) : isDef y = isDef t := by
  unfold isDef
  rw [h.top.1, mv_opt (fun y => y.kind == 16) (fun x y h => by simp only [h.top.1]) h.kids 0]
theorem mv_sec : ∀ {xs ys : List MT}, MvL m xs ys → ∀ d i, secDef ys d i = secDef xs d i
  | [], ys, h, d, i => by rw [h.nil]
  | x :: xs, ys, h, d, i => by
    obtain ⟨y, ys', rfl, hx, hl⟩ := h.cons
    rw [secDef, secDef, mv_def hx, mv_sec hl]
theorem mv_sh {xs ys : List MT} (h : MvL m xs ys) (k : Int) (rl : Nat) : shOf k ys rl = shOf k xs rl := by
  unfold shOf
  rw [mv_none h 2]
theorem mv_lists (h : MvA m t y) : listsT y = listsT t := by
  unfold listsT
  exact mv_opt _ (fun x y h => mv_any _ (fun u v h => by simp only [h.top.1, h.top.2.1]) h.kids) h.kids 0
theorem mv_own (h : MvA m t y) : ownR y = ownR t := by
  unfold ownR
  rw [h.top.1, h.top.2.1, mv_lists h]
theorem mv_fault (h : MvA m t y) (rl a : Nat) (b : Bool) : nodeFault y rl a b = nodeFault t rl a b := by
  unfold nodeFault
  rw [h.top.1, h.top.2.1, h.top.2.2.1, mv_sh h.kids, h.len]
theorem mv_roles (h : MvA m t y) (rl : Nat) : rolesOf y rl = rolesOf t rl := by
  funext i
  unfold rolesOf
  rw [mv_sec h.kids, h.top.1, mv_sh h.kids]
/-- The same answer, of places so many further on. -/
def eqM (m : Int) : Except (Nat × MT) Nat → Except (Nat × MT) Nat → Prop
  | .ok b, .ok b' => b = b'
  | .error x, .error x' => x'.1 = x.1 ∧ x'.2.at_ = wrap64 (x.2.at_ + m) ∧ x'.2.text = x.2.text
  | _, _ => False
theorem chkK_mv (f : MT → Nat → Nat → Except (Nat × MT) Nat) (hf : ∀ x y r a, MvA m x y → eqM m (f x r a) (f y r a)) (rs : Nat → Nat) : ∀ {xs ys : List MT}, MvL m xs ys → ∀ i a, eqM m (chkK f rs i xs a) (chkK f rs i ys a)
  | [], ys, h, i, a => by rw [h.nil, chkK]; exact rfl
  | x :: xs, ys, h, i, a => by
    obtain ⟨y, ys', rfl, hx, hl⟩ := h.cons
    rw [chkK, chkK]
    have := hf x y (rs i) a hx
    cases h1 : f x (rs i) a with
    | error e =>
      cases h2 : f y (rs i) a with
      | error e' => rw [h1, h2] at this; exact this
      | ok b' => rw [h1, h2] at this; exact this.elim
    | ok b =>
      cases h2 : f y (rs i) a with
      | error e' => rw [h1, h2] at this; exact this.elim
      | ok b' =>
        rw [h1, h2] at this
        obtain rfl : b = b' := this
        exact chkK_mv f hf rs hl (i + 1) b
theorem chk_mv : ∀ (f : Nat) (x y : MT) (r a : Nat), MvA m x y → eqM m (chk f x r a) (chk f y r a)
  | 0, x, y, r, a, h => by
    rw [chk, chk, mv_fault h]; exact ⟨rfl, h.top.2.2.2, h.top.2.1⟩
  | f + 1, x, y, r, a, h => by
    rw [chk, chk, mv_fault h, mv_roles h]
    by_cases h0 : nodeFault x r a true = 0
    · rw [if_pos h0, if_pos h0]
      exact chkK_mv (chk f) (fun x y r a h => chk_mv f x y r a h) _ h.kids 0 (a + 1)
    · rw [if_neg h0, if_neg h0]; exact ⟨rfl, h.top.2.2.2, h.top.2.1⟩
theorem right_mv (h : MvA m t y) : eqM m (rightSpec t) (rightSpec y) := by
  unfold rightSpec
  rw [mv_own h]
  exact chk_mv 60 t y _ 0 h
theorem chkK_code (f : MT → Nat → Nat → Except (Nat × MT) Nat) (hf : ∀ x r a e, f x r a = .error e → e.1 ≠ 0) (rs : Nat → Nat) : ∀ (xs : List MT) (i a : Nat) (e : Nat × MT), chkK f rs i xs a = .error e → e.1 ≠ 0
  | [], i, a, e, h => by rw [chkK] at h; cases h
  | x :: xs, i, a, e, h => by
    rw [chkK] at h
    cases h1 : f x (rs i) a with
    | error e' => rw [h1] at h; cases h; exact hf _ _ _ _ h1
    | ok b => rw [h1] at h; exact chkK_code f hf rs xs (i + 1) b e h
theorem fault_false (t : MT) (rl a : Nat) : nodeFault t rl a false ≠ 0 := by
  unfold nodeFault
  split
  · decide
  · simp
theorem chk_code : ∀ (f : Nat) (x : MT) (r a : Nat) (e : Nat × MT), chk f x r a = .error e → e.1 ≠ 0
  | 0, x, r, a, e, h => by rw [chk] at h; cases h; exact fault_false x r a
  | f + 1, x, r, a, e, h => by
    rw [chk] at h
    by_cases h0 : nodeFault x r a true = 0
    · rw [if_pos h0] at h; exact chkK_code (chk f) (chk_code f) _ _ _ _ _ h
    · rw [if_neg h0] at h; cases h; exact h0
mutual
theorem mv_alike : ∀ (t y : MT), MvA m t y → MT.alike t y = true
  | .node k s n a p c ks, y, h => by
    have h1 := h.top
    simp only [MT.kind_node, MT.text_node, MT.num_node] at h1
    rw [MT.alike, h1.1, h1.2.1, h1.2.2.1, h.len]
    simp only [MT.kids_node, BEq.rfl, Bool.true_and, Bool.and_true]
    exact mv_alikeL ks y.kids h.kids
theorem mv_alikeL : ∀ (xs ys : List MT), MvL m xs ys → MT.alikeL xs ys = true
  | [], ys, _ => by rw [MT.alikeL]
  | x :: xs, ys, h => by
    obtain ⟨y, ys', rfl, hx, hl⟩ := h.cons
    rw [MT.alikeL, mv_alike x y hx, mv_alikeL xs ys' hl]; rfl
end
theorem mv_same (h : MvA m t y) (hs : t.size ≤ 30000) : MT.same t y = true := by
  unfold MT.same
  rw [mv_alike t y h]
  simp; omega
end Go.Proofs.YthbnegggohegkaaGreatDoor
