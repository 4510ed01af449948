/-
  .
  .
  .
-/
import Derived.Test.YtdbijkgnddcneaaGreatDoorZmJ
import Derived.Test.YtdbijkgnddcneaaGreatDoorSq
namespace Go.Proofs.YtdbijkgnddcneaaGreatDoor
open Go.RowKit Go.ChangeMaps
set_option maxRecDepth 1000000
set_option maxHeartbeats 16000000
theorem row_form {w : World} {B : Nat} {e : TypeId} {z n : Nat} {v : Value} {xs : List Value} (h : w.ownsRow B e z v n xs) : ∃ p cap, v = .slice p n cap := by
 rcases h.2 with ⟨rfl, h0⟩ | ⟨g, cap, cur, rfl, _⟩
 ·subst h0; exact ⟨none, 0, rfl⟩
 ·exact ⟨_, cap, rfl⟩
structure JS (w0 : World) (B hb M n x y d ab1 ab2 : Nat) (go1 go2 : Option Nat) (qa qo qp : Nat) (zs ws : List Int) (wv : Value) (w : World) : Prop where
 u : Below w0.heap.size w0 w
 hb0 : w0.heap.size ≤ hb
 M0 : w0.heap.size ≤ M
 hbB : hb < B
 MB : M < B
 heap : HeapAt w hb M [arrV ab1, arrV ab2]
 a1 : Arr w ab1 go1 zs
 a2 : Arr w ab2 go2 (ints n)
 zl : zs.length = n
 wl : ws.length = n
 sm : Sm zs
 want : w.ownsRow B 3 1 wv n (ws.map (Value.int .i64))
 all : w.heap[qa]? = some (.cells #[.int .i64 5, .string ⟨#[108, 105, 115, 116]⟩, .int .i64 0, .int .u64 0, .string ⟨#[]⟩, .int .i64 1, .int .i64 0, .int .i64 (n : Int), .int .i64 (n : Int), .slice none 0 0, .slice none 0 0] 32)
 oth : w.heap[qo]? = some (.cells #[.int .i64 5, .string ⟨#[108, 105, 115, 116]⟩, .int .i64 0, .int .u64 0, .string ⟨#[]⟩, .int .i64 2, .int .i64 0, .int .i64 (n : Int), .int .i64 (n : Int), .slice none 0 0, .slice none 0 0] 32)
 pp : w.heap[qp]? = some (.cells #[.int .i64 5, .string ⟨#[108, 105, 115, 116]⟩, .int .i64 0, .int .u64 0, .string ⟨#[]⟩, .int .i64 1, .int .i64 (x : Int), .int .i64 (y : Int), .int .i64 (d : Int), .slice none 0 0, .slice none 0 0] 32)
 Bs : B ≤ ab1 ∧ B ≤ ab2 ∧ B ≤ qa ∧ B ≤ qo ∧ B ≤ qp
 d1 : ∀ g, go1 = some g → B ≤ g ∧ g ≠ ab1 ∧ g ≠ ab2 ∧ g ≠ qa ∧ g ≠ qo ∧ g ≠ qp ∧ go2 ≠ some g
 d2 : ∀ g, go2 = some g → B ≤ g
theorem JS.below {w0 : World} {B hb M n x y d ab1 ab2 : Nat} {go1 go2 : Option Nat} {qa qo qp : Nat} {zs ws : List Int} {wv : Value} {w w' : World} (h : JS w0 B hb M n x y d ab1 ab2 go1 go2 qa qo qp zs ws wv w) (k : Below w.heap.size w w') : JS w0 B hb M n x y d ab1 ab2 go1 go2 qa qo qp zs ws wv w' :=
 ⟨h.u.trans (k.mono h.u.size), h.hb0, h.M0, h.hbB, h.MB, h.heap.below k, h.a1.below k, h.a2.below k, h.zl, h.wl, h.sm, ownsRow_below h.want k, (k.block _ (hblk h.all)).trans h.all, (k.block _ (hblk h.oth)).trans h.oth, (k.block _ (hblk h.pp)).trans h.pp, h.Bs, h.d1, h.d2⟩
theorem room_got (zs as' : List Int) (x y : Nat) (h : x + y + as'.length ≤ zs.length) : ((zs.take (x + y) ++ as' ++ zs.drop (x + y + as'.length)).drop x).take (y + as'.length) = (zs.drop x).take y ++ as' := by
 have e1 : (zs.take (x + y)).length = x + y := by rw [List.length_take]; omega
 have e2 : (zs.take (x + y)).drop x = (zs.drop x).take y := by rw [List.drop_take, Nat.add_sub_cancel_left]
 have e3 : ((zs.drop x).take y).length = y := by rw [List.length_take, List.length_drop]; omega
 rw [List.append_assoc, List.drop_append_of_le_length (by omega), e2, ← List.append_assoc, List.take_append_of_le_length (by rw [List.length_append]; omega), List.take_of_length_le (by rw [List.length_append]; omega)]
theorem Sm.app {a b : List Int} (h1 : Sm a) (h2 : Sm b) : Sm (a ++ b) := fun z hz => (List.mem_append.1 hz).elim (h1 z) (h2 z)
theorem Sm.take {a : List Int} (h : Sm a) (k : Nat) : Sm (a.take k) := fun z hz => h z (List.mem_of_mem_take hz)
theorem Sm.drop {a : List Int} (h : Sm a) (k : Nat) : Sm (a.drop k) := fun z hz => h z (List.mem_of_mem_drop hz)
theorem ints_len (k : Nat) : (ints k).length = k := by unfold ints; rw [List.length_map, List.length_range]
theorem ints_sm (k : Nat) (hk : k ≤ 40) : Sm (ints k) := fun z hz => by
 unfold ints at hz
 obtain ⟨j, hj, rfl⟩ := List.mem_map.1 hz
 rw [List.mem_range] at hj
 constructor <;> omega
theorem read_whole (hb M : Nat) (vs : List Value) (m ab : Nat) (hm : vs[m]? = some (arrV ab)) (hm2 : m ≤ 1000) (go : Option Nat) (zs : List Int) (hz : Sm zs) (n : Nat) (hn : zs.length = n) (w : World) (hN : NamesAt w) (h : HeapAt w hb M vs) (ha : Arr w ab go zs) :
  Calls Tryz.prog 12 #[.pointer (some ⟨hb, 0, none⟩), .agg #[.int .i64 5, .string ⟨#[108, 105, 115, 116]⟩, .int .i64 0, .int .u64 0, .string ⟨#[]⟩, .int .i64 ((m : Int) + 1), .int .i64 ((0 : Nat) : Int), .int .i64 (n : Int), .int .i64 (n : Int), .slice none 0 0, .slice none 0 0]] w fun r w' => ∃ v, r = .returned (.tuple #[v, .bool true]) ∧ Below w.heap.size w w' ∧ w'.ownsRow w.heap.size 3 1 v n (zs.map (Value.int .i64)) := by
 have := read_all hb M vs m ab hm hm2 go zs hz 0 n n (Nat.le_refl _) (by omega) w hN h ha
 rwa [List.drop_zero, List.take_of_length_le (by omega)] at this
def E6 (hb n x y la : Nat) (wv : Value) (qa qo qq : Nat) (ap : Option Addr) (ac : Nat) (a : Act) : Prop := ∃ u : Nat → Value, a = (F6 (.pointer (some ⟨hb, 0, none⟩)) (.int .i64 (n : Int)) wv (.pointer (some ⟨qa, 0, none⟩)) (.pointer (some ⟨qo, 0, none⟩)) (.int .i64 (x : Int)) (.int .i64 ((x : Int) + y)) (.slice ap la ac) (.pointer (some ⟨qq, 0, none⟩)) (.nilIface) u)
theorem e6_close (hb n x y la : Nat) (wv : Value) (qa qo qq : Nat) (ap : Option Addr) (ac : Nat) (a : Act) (ha : a = (F6 (.pointer (some ⟨hb, 0, none⟩)) (.int .i64 (n : Int)) wv (.pointer (some ⟨qa, 0, none⟩)) (.pointer (some ⟨qo, 0, none⟩)) (.int .i64 (x : Int)) (.int .i64 ((x : Int) + y)) (.slice ap la ac) (.pointer (some ⟨qq, 0, none⟩)) (.nilIface) (fun k => a.tmps.getD k undef))) : E6 hb n x y la wv qa qo qq ap ac a := ⟨fun k => a.tmps.getD k undef, ha⟩
theorem tail17 (many frm to at1 : Int) (pm : Option Addr) (ml mc : Nat) (B hb M n x y d ab1 ab2 : Nat) (go1 go2 : Option Nat) (qa qo qp : Nat) (wv : Value) (u : Nat → Value) (w0 w : World) (zs : List Int) (h : JS w0 B hb M n x y d ab1 ab2 go1 go2 qa qo qp zs zs wv w) (hd : x + d = n) (hyd : y ≤ d) (hn : n ≤ 40) (hN : ∀ W, Below w0.heap.size w0 W → NamesAt W) (hB0 : w0.heap.size ≤ B)
  (as' : List Int) (hS : Sm as') (la : Nat) (hal : as'.length = la) (hla3 : la ≤ 30) (Ba : Nat) (ap : Option Addr) (ac : Nat) (oa : w.ownsRow Ba 32 11 (.slice ap la ac) la (rowOf (wds as'))) (h00 : la = 0 → Value.slice ap la ac = .slice none 0 0) (hdis : ∀ g, go1 = some g → (Value.slice ap la ac).ownBlock ≠ some g) (hBa : B ≤ Ba) :
  Code.wp Tryz.prog (pieceN 17) (bodyPost Tryz.prog Tryz.f3 fun r w' => r = .returned (.bool true) ∧ Below w0.heap.size w0 w') (F2 (.int .i64 many) (.int .i64 frm) (.int .i64 to) (.int .i64 at1) (.slice pm ml mc) (.pointer (some ⟨hb, 0, none⟩)) (.int .i64 (n : Int)) wv (.pointer (some ⟨qa, 0, none⟩)) (.pointer (some ⟨qo, 0, none⟩)) (.int .i64 (x : Int)) (.int .i64 ((x : Int) + y)) (.pointer (some ⟨qp, 0, none⟩)) (.slice ap la ac) (u 30) u) w := by
 have hzl := h.zl
 have cp := (cells_of h.pp).1
 try unfold F1
 try unfold F2
 try unfold F5
 try unfold F6
 conv => arg 2; whnf
 refine wp_seq_k ?_
 intro K17 hK17
 have HK17 : Hid (∀ (a : Act) (w : World), Code.wp Tryz.prog (pieceN 18) (bodyPost Tryz.prog Tryz.f3 fun r w' => r = .returned (.bool true) ∧ Below w0.heap.size w0 w') a w → K17 a w) := hK17
 clear hK17
 have HT : Hid (∀ (rm : Bool) (ql : Nat) (o f c : Int) (W : World) (a : Act), E6 hb n x y la wv qa qo W.heap.size ap ac a → rm = decide (x + y + la ≤ n) → ql = y + la → Below w0.heap.size w0 W → W.ownsRow B 3 1 wv n (zs.map (Value.int .i64)) → W.ownsRow Ba 32 11 (.slice ap la ac) la (rowOf (wds as')) → W.heap[qa]? = some (.cells #[.int .i64 5, .string ⟨#[108, 105, 115, 116]⟩, .int .i64 0, .int .u64 0, .string ⟨#[]⟩, .int .i64 1, .int .i64 0, .int .i64 (n : Int), .int .i64 (n : Int), .slice none 0 0, .slice none 0 0] 32) → W.heap[qo]? = some (.cells #[.int .i64 5, .string ⟨#[108, 105, 115, 116]⟩, .int .i64 0, .int .u64 0, .string ⟨#[]⟩, .int .i64 2, .int .i64 0, .int .i64 (n : Int), .int .i64 (n : Int), .slice none 0 0, .slice none 0 0] 32) → (rm = true → o = 1) → (rm = false → o = 3 ∧ f = 0 ∧ ((y + la : Nat) : Int) ≤ c) →
   (∀ w, w = W.alloc (.cells #[.int .i64 5, .string ⟨#[108, 105, 115, 116]⟩, .int .i64 0, .int .u64 0, .string ⟨#[]⟩, .int .i64 o, .int .i64 f, .int .i64 (ql : Int), .int .i64 c, .slice none 0 0, .slice none 0 0] 32) → (∀ W, Below w.heap.size w W → Calls Tryz.prog 12 #[.pointer (some ⟨hb, 0, none⟩), .agg #[.int .i64 5, .string ⟨#[108, 105, 115, 116]⟩, .int .i64 0, .int .u64 0, .string ⟨#[]⟩, .int .i64 o, .int .i64 f, .int .i64 (ql : Int), .int .i64 c, .slice none 0 0, .slice none 0 0]] W fun r w' => ∃ v, r = .returned (.tuple #[v, .bool true]) ∧ Below W.heap.size W w' ∧ w'.ownsRow W.heap.size 3 1 v ql (((zs.drop x).take y ++ as').map (Value.int .i64))) ∧ (∀ W, Below w.heap.size w W → Calls Tryz.prog 12 #[.pointer (some ⟨hb, 0, none⟩), .agg #[.int .i64 5, .string ⟨#[108, 105, 115, 116]⟩, .int .i64 0, .int .u64 0, .string ⟨#[]⟩, .int .i64 1, .int .i64 0, .int .i64 (n : Int), .int .i64 (n : Int), .slice none 0 0, .slice none 0 0]] W fun r w' => ∃ v, r = .returned (.tuple #[v, .bool true]) ∧ Below W.heap.size W w' ∧ w'.ownsRow W.heap.size 3 1 v n ((wantAt rm zs as' x y (y + la)).map (Value.int .i64))) ∧ (∀ W, Below w.heap.size w W → Calls Tryz.prog 12 #[.pointer (some ⟨hb, 0, none⟩), .agg #[.int .i64 5, .string ⟨#[108, 105, 115, 116]⟩, .int .i64 0, .int .u64 0, .string ⟨#[]⟩, .int .i64 2, .int .i64 0, .int .i64 (n : Int), .int .i64 (n : Int), .slice none 0 0, .slice none 0 0]] W fun r w' => ∃ v, r = .returned (.tuple #[v, .bool true]) ∧ Below W.heap.size W w' ∧ w'.ownsRow W.heap.size 3 1 v n ((ints n).map (Value.int .i64)))) →
   K17 a (W.alloc (.cells #[.int .i64 5, .string ⟨#[108, 105, 115, 116]⟩, .int .i64 0, .int .u64 0, .string ⟨#[]⟩, .int .i64 o, .int .i64 f, .int .i64 (ql : Int), .int .i64 c, .slice none 0 0, .slice none 0 0] 32))) := fun rm ql o f c W a ⟨u, e⟩ h1 h2 h3 h4 h5 h6 h7 h8 h9 hr => by
  have hb1 : Below W.heap.size W (W.alloc (.cells #[.int .i64 5, .string ⟨#[108, 105, 115, 116]⟩, .int .i64 0, .int .u64 0, .string ⟨#[]⟩, .int .i64 o, .int .i64 f, .int .i64 (ql : Int), .int .i64 c, .slice none 0 0, .slice none 0 0] 32)) := below1 _ _
  obtain ⟨r1, r2, r3⟩ := hr _ rfl
  rw [e]
  exact HK17.out _ _ (tail18 hb n x y la ql rm wv qa qo W.heap.size ap ac o f c u w0 _ h2 (h3.trans (hb1.mono h3.size)) hn B Ba as' zs (by omega) hal hla3 hzl h1 hB0 (ownsRow_below h4 hb1) (ownsRow_below h5 hb1) (heap_alloc_new _ _) ((hb1.block _ (hblk h6)).trans h6) ((hb1.block _ (hblk h7)).trans h7) h8 h9 r1 r2 r3)
 clear HK17
 obtain ⟨ql, HQL⟩ : ∃ ql, Hid (ql = y + la) := ⟨_, rfl⟩
 have hrd3 : Hid (∀ (vs : List Value), vs[1]? = some (arrV ab2) → ∀ w : World, Below w0.heap.size w0 w → HeapAt w hb M vs → Arr w ab2 go2 (ints n) → (∀ W, Below w.heap.size w W → Calls Tryz.prog 12 #[.pointer (some ⟨hb, 0, none⟩), .agg #[.int .i64 5, .string ⟨#[108, 105, 115, 116]⟩, .int .i64 0, .int .u64 0, .string ⟨#[]⟩, .int .i64 2, .int .i64 0, .int .i64 (n : Int), .int .i64 (n : Int), .slice none 0 0, .slice none 0 0]] W fun r w' => ∃ v, r = .returned (.tuple #[v, .bool true]) ∧ Below W.heap.size W w' ∧ w'.ownsRow W.heap.size 3 1 v n ((ints n).map (Value.int .i64)))) := fun vs hv w hu hh ha W hW => read_whole hb M vs 1 ab2 hv (by decide) go2 (ints n) (ints_sm n hn) n (ints_len n) W (hN _ (hu.trans (hW.mono hu.size))) (hh.below hW) (ha.below hW)
 go_wp2_with fail
 by_cases hroom : y + la ≤ d
 ·have HA := Append_room_all hb M [arrV ab1, arrV ab2] 0 ab1 rfl (by decide) go1 zs x y d hyd (by omega) as' hS (.slice ap la ac) Ba w (hN _ h.u) h.heap h.a1 (by rw [hal]; exact oa) (fun e => h00 (by omega)) (by omega) (fun g e => (h.d1 g e).2.1) hdis
  rw [hal, ← HQL.out] at HA
  refine Calls.mono HA ?_
  rintro _ W ⟨rfl, ar, kp⟩
  clear HA
  simp only [leadD, MD.val, D, List.length_nil]
  go_wp2_with fail
  have hS' : Sm (zs.take (x + y) ++ as' ++ zs.drop (x + y + la)) := ((h.sm.take _).app hS).app (h.sm.drop _)
  have hl' : (zs.take (x + y) ++ as' ++ zs.drop (x + y + la)).length = n := by rw [List.length_append, List.length_append, List.length_take, List.length_drop]; omega
  have uW : Below w0.heap.size w0 W := h.u.trans (kp.below h.u.size fun i hi e => by have := (h.d1 i e).1; omega)
  have hW : HeapAt W hb M [arrV ab1, arrV ab2] := h.heap.kp kp (fun e => by have := (h.d1 _ e).1; have := h.hbB; omega) (fun e => by have := (h.d1 _ e).1; have := h.MB; omega)
  have a2W : Arr W ab2 go2 (ints n) := h.a2.kp kp (fun e => (h.d1 _ e).2.2.1 rfl) (fun g e q => (h.d1 _ q).2.2.2.2.2.2 e)
  refine HT.out true ql 1 (x : Int) (d : Int) W _ (e6_close _ _ _ _ _ _ _ _ _ _ _ _ rfl) (by symm; exact decide_eq_true (by omega)) HQL.out uW (own_kpS h.want kp fun g hg e1 e2 => ?_) (own_kpS oa kp fun g hg e1 e2 => hdis g e2 e1) ((kp.block _ (hblk h.all) fun e => (h.d1 _ e).2.2.2.1 rfl).trans h.all) ((kp.block _ (hblk h.oth) fun e => (h.d1 _ e).2.2.2.2.1 rfl).trans h.oth) (fun _ => rfl) (fun e => by cases e) (fun w2 hw2 => ?_)
  ·exact box_ne h.want (h.a1.row g e2) e1
  ·have hb1 : Below W.heap.size W w2 := by rw [hw2]; exact below1 _ _
   refine ⟨fun W' hW' => ?_, fun W' hW' => ?_, hrd3.out _ rfl w2 (uW.trans (hb1.mono uW.size)) (hW.below hb1) (a2W.below hb1)⟩
   ·have := read_all hb M [arrV ab1, arrV ab2] 0 ab1 rfl (by decide) go1 _ hS' x ql d (by have := HQL.out; omega) (by rw [hl']; omega) W' (hN _ ((uW.trans (hb1.mono uW.size)).trans (hW'.mono (Nat.le_trans uW.size hb1.size)))) ((hW.below hb1).below hW') ((ar.below hb1).below hW')
    have e := room_got zs as' x y (by omega)
    rw [hal] at e
    rw [HQL.out] at this ⊢
    rw [e] at this
    exact this
   ·have e : wantAt true zs as' x y (y + la) = zs.take (x + y) ++ as' ++ zs.drop (x + y + la) := by
     unfold wantAt
     rw [if_pos rfl, Nat.add_sub_cancel_left, show as'.take la = as' from List.take_of_length_le (by omega)]
    rw [e]
    exact read_whole hb M [arrV ab1, arrV ab2] 0 ab1 rfl (by decide) go1 _ hS' n hl' W' (hN _ ((uW.trans (hb1.mono uW.size)).trans (hW'.mono (Nat.le_trans uW.size hb1.size)))) ((hW.below hb1).below hW') ((ar.below hb1).below hW')
 ·have HA := Append_grow_all hb M [arrV ab1, arrV ab2] (by simp) 0 ab1 rfl (by decide) go1 zs x y d hyd (by omega) as' hS (by omega) (.slice ap la ac) Ba w (hN _ h.u) h.heap h.a1 (by rw [hal]; exact oa) (by omega)
  rw [hal, ← HQL.out, show (([arrV ab1, arrV ab2].length : Int) + 1) = 3 from rfl] at HA
  refine Calls.mono HA ?_
  rintro _ W ⟨R, hR1, hR2, rfl, ab3, g3, hW, ha3, hg3, kp, l3, lg3⟩
  clear HA
  simp only [leadD, MD.val, D, List.length_nil]
  go_wp2_with fail
  have hBs := h.Bs
  have hbB := h.hbB
  have hMB := h.MB
  have hb0 := h.hb0
  have hM0 := h.M0
  have uW : Below w0.heap.size w0 W := h.u.trans (kp.below h.u.size fun i hi e => by omega)
  have a1W : Arr W ab1 go1 zs := h.a1.kp kp (fun e => by omega) (fun g e q => by have := (h.d1 g e).1; omega)
  have a2W : Arr W ab2 go2 (ints n) := h.a2.kp kp (fun e => by omega) (fun g e q => by have := h.d2 g e; omega)
  have hpl : ((zs.drop x).take y ++ as').length = ql := by rw [List.length_append, List.length_take, List.length_drop, HQL.out]; omega
  refine HT.out false ql 3 0 (R : Int) W _ (e6_close _ _ _ _ _ _ _ _ _ _ _ _ rfl) (by symm; exact decide_eq_false (by omega)) HQL.out uW (own_kpS h.want kp fun g hg e1 e2 => by omega) (own_kpS oa kp fun g hg e1 e2 => by omega) ((kp.block _ (hblk h.all) fun e => by omega).trans h.all) ((kp.block _ (hblk h.oth) fun e => by omega).trans h.oth) (fun e => by cases e) (fun _ => ⟨rfl, rfl, by have := HQL.out; omega⟩) (fun w2 hw2 => ?_)
  have hb1 : Below W.heap.size W w2 := by rw [hw2]; exact below1 _ _
  refine ⟨fun W' hW' => ?_, fun W' hW' => ?_, hrd3.out _ rfl w2 (uW.trans (hb1.mono uW.size)) (hW.below hb1) (a2W.below hb1)⟩
  ·have := read_long hb M ([arrV ab1, arrV ab2] ++ [arrV ab3]) 2 ab3 g3 rfl (by decide) ((zs.drop x).take y ++ as') (((h.sm.drop _).take _).app hS) R ⟨by rw [hpl]; omega, hR2⟩ W' (hN _ ((uW.trans (hb1.mono uW.size)).trans (hW'.mono (Nat.le_trans uW.size hb1.size)))) ((hW.below hb1).below hW') ((hW'.block _ (Nat.lt_of_lt_of_le (hblk ha3) hb1.size)).trans ((hb1.block _ (hblk ha3)).trans ha3)) ((hW'.block _ (Nat.lt_of_lt_of_le (hblk hg3) hb1.size)).trans ((hb1.block _ (hblk hg3)).trans (by rw [hpl, show R - ql = R - y - la by have := HQL.out; omega]; exact hg3)))
   rw [hpl] at this
   exact this
  ·exact read_whole hb M ([arrV ab1, arrV ab2] ++ [arrV ab3]) 0 ab1 rfl (by decide) go1 zs h.sm n hzl W' (hN _ ((uW.trans (hb1.mono uW.size)).trans (hW'.mono (Nat.le_trans uW.size hb1.size)))) ((hW.below hb1).below hW') ((a1W.below hb1).below hW')
end Go.Proofs.YtdbijkgnddcneaaGreatDoor
namespace Go.Proofs.YtdbijkgnddcneaaGreatDoor
open Go.RowKit Go.ChangeMaps
set_option maxRecDepth 1000000
set_option maxHeartbeats 16000000
theorem after2 (many frm to at1 : Int) (pm : Option Addr) (ml mc : Nat) (B hb M n x y d ab1 ab2 : Nat) (go1 go2 : Option Nat) (qa qo qp : Nat) (wv : Value) (w0 w : World) (zs : List Int) (h : JS w0 B hb M n x y d ab1 ab2 go1 go2 qa qo qp zs zs wv w) (hd : x + d = n) (hyd : y ≤ d) (hn : n ≤ 40) (hN : ∀ W, Below w0.heap.size w0 W → NamesAt W) (hB0 : w0.heap.size ≤ B) (ms : List Int) (hS : Sm ms) (a : Act) (wr : World) (hE : L2E many frm to at1 pm ml mc hb n x y wv (.pointer (some ⟨qa, 0, none⟩)) (.pointer (some ⟨qo, 0, none⟩)) (.pointer (some ⟨qp, 0, none⟩)) ms w a wr) : Code.wp Tryz.prog (pieceN 17) (bodyPost Tryz.prog Tryz.f3 fun r w' => r = .returned (.bool true) ∧ Below w0.heap.size w0 w') a wr := by
 obtain ⟨u, av, ⟨hb1, oa, h00⟩, rfl⟩ := hE
 obtain ⟨ap, ac, rfl⟩ := row_form oa
 have hBw : B ≤ w.heap.size := by have := h.Bs.1; have := hblk h.a1.arr; omega
 exact tail17 many frm to at1 pm ml mc B hb M n x y d ab1 ab2 go1 go2 qa qo qp wv u w0 wr zs (h.below hb1) hd hyd hn hN hB0 (ms.take 30) (hS.take 30) _ rfl (by rw [List.length_take]; omega) w.heap.size ap ac oa h00 (fun g e q => by have := (oa.lt g q).1; have := hblk (h.a1.row g e); omega) hBw
theorem tail15 (many frm to at1 : Int) (pm : Option Addr) (ml mc : Nat) (hb n x y : Nat) (qa qo qp : Nat) (wv : Value) (u : Nat → Value) (w0 w : World) (ms : List Int)
  (h17 : ∀ (a : Act) (wr : World), L2E many frm to at1 pm ml mc hb n x y wv (.pointer (some ⟨qa, 0, none⟩)) (.pointer (some ⟨qo, 0, none⟩)) (.pointer (some ⟨qp, 0, none⟩)) ms w a wr → Code.wp Tryz.prog (pieceN 17) (bodyPost Tryz.prog Tryz.f3 fun r w' => r = .returned (.bool true) ∧ Below w0.heap.size w0 w') a wr)
  (hl : ∀ (K : Act → World → Prop) (QQ : Exit → Act → World → Prop) (_ : ∀ (a : Act) (wr : World), L2E many frm to at1 pm ml mc hb n x y wv (.pointer (some ⟨qa, 0, none⟩)) (.pointer (some ⟨qo, 0, none⟩)) (.pointer (some ⟨qp, 0, none⟩)) ms w a wr → K a wr) (a1 : Act) (_ : L2I many frm to at1 pm ml mc hb n x y wv (.pointer (some ⟨qa, 0, none⟩)) (.pointer (some ⟨qo, 0, none⟩)) (.pointer (some ⟨qp, 0, none⟩)) ms w a1 w), Code.wp Tryz.prog (Code.loop (bodyN 1)) (Exit.inBlock 2 (Exit.then K QQ)) a1 w) :
  Code.wp Tryz.prog (pieceN 15) (bodyPost Tryz.prog Tryz.f3 fun r w' => r = .returned (.bool true) ∧ Below w0.heap.size w0 w') (F2 (.int .i64 many) (.int .i64 frm) (.int .i64 to) (.int .i64 at1) (.slice pm ml mc) (.pointer (some ⟨hb, 0, none⟩)) (.int .i64 (n : Int)) wv (.pointer (some ⟨qa, 0, none⟩)) (.pointer (some ⟨qo, 0, none⟩)) (.int .i64 (x : Int)) (.int .i64 ((x : Int) + y)) (.pointer (some ⟨qp, 0, none⟩)) (u 29) (u 30) u) w := by
 have HE : Hid _ := h17
 have HL : Hid _ := hl
 have HR : Hid (L2Rel ms w (.slice none 0 0) (.int .i64 0) w) := ⟨0, rfl, Nat.zero_le _, by decide, Below.refl _ _, World.ownsRow_nil _ _ _ _, fun _ => rfl⟩
 clear h17 hl
 try unfold F1
 try unfold F2
 try unfold F5
 try unfold F6
 conv => arg 2; whnf
 refine wp_seq_k ?_
 intro K15 hK15
 have HK15 : Hid (∀ (a : Act) (w : World), Code.wp Tryz.prog (pieceN 16) (bodyPost Tryz.prog Tryz.f3 fun r w' => r = .returned (.bool true) ∧ Below w0.heap.size w0 w') a w → K15 a w) := hK15
 clear hK15
 go_wp2_with fail
 refine HK15.out _ _ ?_
 clear HK15
 try unfold F1
 try unfold F2
 try unfold F5
 try unfold F6
 conv => arg 2; whnf
 refine wp_seq_k ?_
 intro K16 hK16
 have HK16 : Hid (∀ (a : Act) (w : World), Code.wp Tryz.prog (pieceN 17) (bodyPost Tryz.prog Tryz.f3 fun r w' => r = .returned (.bool true) ∧ Below w0.heap.size w0 w') a w → K16 a w) := hK16
 clear hK16
 go_wp2_with fail
 exact HL.out _ _ (fun a wr h => HK16.out _ _ (HE.out a wr h)) _ (l2_close _ _ _ _ _ _ _ _ _ _ _ _ _ _ _ _ _ _ _ HR.out rfl)
theorem tail15_any (many frm to at1 : Int) (pm : Option Addr) (ml mc : Nat) (B hb M n x y d ab1 ab2 : Nat) (go1 go2 : Option Nat) (qa qo qp : Nat) (wv : Value) (u : Nat → Value) (w0 w : World) (zs : List Int) (h : JS w0 B hb M n x y d ab1 ab2 go1 go2 qa qo qp zs zs wv w) (hd : x + d = n) (hyd : y ≤ d) (hn : n ≤ 40) (hN : ∀ W, Below w0.heap.size w0 W → NamesAt W) (hB0 : w0.heap.size ≤ B) (ms : List Int) (hS : Sm ms) (hml : ml = ms.length) (hmb : ml ≤ 9223372036854775807)
  (hmem : ms = [] ∨ ∃ mb mo, pm = some ⟨mb, mo, none⟩ ∧ mb < w0.heap.size ∧ ∀ (i : Nat) (hi : i < ms.length), w0.cell? ⟨mb, mo + i, none⟩ = some (.int .i64 ms[i])) :
  Code.wp Tryz.prog (pieceN 15) (bodyPost Tryz.prog Tryz.f3 fun r w' => r = .returned (.bool true) ∧ Below w0.heap.size w0 w') (F2 (.int .i64 many) (.int .i64 frm) (.int .i64 to) (.int .i64 at1) (.slice pm ml mc) (.pointer (some ⟨hb, 0, none⟩)) (.int .i64 (n : Int)) wv (.pointer (some ⟨qa, 0, none⟩)) (.pointer (some ⟨qo, 0, none⟩)) (.int .i64 (x : Int)) (.int .i64 ((x : Int) + y)) (.pointer (some ⟨qp, 0, none⟩)) (u 29) (u 30) u) w := by
 refine tail15 many frm to at1 pm ml mc hb n x y qa qo qp wv u w0 w ms (after2 many frm to at1 pm ml mc B hb M n x y d ab1 ab2 go1 go2 qa qo qp wv w0 w zs h hd hyd hn hN hB0 ms hS) (fun K QQ hK a1 hI => ?_)
 rcases hmem with rfl | ⟨mb, mo, rfl, hm1, hm2⟩
 ·subst hml
  exact loop2_none many frm to at1 pm mc hb n x y wv _ _ _ w K QQ hK a1 hI
 ·subst hml
  exact loop2 mb mo many frm to at1 mc hb n x y wv _ _ _ ms w (Nat.lt_of_lt_of_le hm1 h.u.size) (fun i hi => (h.u.cell (p := ⟨mb, mo + i, none⟩) hm1).trans (hm2 i hi)) hmb K QQ hK a1 hI
end Go.Proofs.YtdbijkgnddcneaaGreatDoor
namespace Go.Proofs.YtdbijkgnddcneaaGreatDoor
open Go.RowKit Go.ChangeMaps
set_option maxRecDepth 1000000
set_option maxHeartbeats 16000000
theorem blk_ne {w : World} {B n g : Nat} {v : Value} {xs : List Value} {cs : Array Value} {e : TypeId} (h : w.ownsRow B 3 1 v n xs) (hb : w.heap[g]? = some (.cells cs e)) (he : e ≠ 3) : ¬ v.ownBlock = some g := fun q => by
 rcases h.2 with ⟨rfl, _⟩ | ⟨g1, c1, cur1, rfl, _, hh1, _⟩
 ·cases q
 ·simp only [Value.ownBlock, Option.some.injEq] at q
  rw [q, hb] at hh1
  simp only [Option.some.injEq, Obj.cells.injEq] at hh1
  exact he hh1.2.1
theorem JS.put {w0 : World} {B hb M n x y d ab1 ab2 : Nat} {go1 go2 : Option Nat} {qa qo qp : Nat} {zs ws zs' : List Int} {wv : Value} {w w' : World} (h : JS w0 B hb M n x y d ab1 ab2 go1 go2 qa qo qp zs ws wv w) (k : Kp (fun b => go1 = some b) w w') (a : Arr w' ab1 go1 zs') (hl : zs'.length = n) (hs : Sm zs') (hB : w0.heap.size ≤ B) : JS w0 B hb M n x y d ab1 ab2 go1 go2 qa qo qp zs' ws wv w' := by
 have hbB := h.hbB
 have MB := h.MB
 exact ⟨h.u.trans (k.below h.u.size fun i hi e => by have := (h.d1 i e).1; omega), h.hb0, h.M0, h.hbB, h.MB, h.heap.kp k (fun e => by have := (h.d1 _ e).1; omega) (fun e => by have := (h.d1 _ e).1; omega), a, h.a2.kp k (fun e => (h.d1 _ e).2.2.1 rfl) (fun g e q => (h.d1 _ q).2.2.2.2.2.2 e), hl, h.wl, hs, own_kpS h.want k (fun g hg e1 e2 => blk_ne h.want (h.a1.row g e2) (by decide) e1), (k.block _ (hblk h.all) fun e => (h.d1 _ e).2.2.2.1 rfl).trans h.all, (k.block _ (hblk h.oth) fun e => (h.d1 _ e).2.2.2.2.1 rfl).trans h.oth, (k.block _ (hblk h.pp) fun e => (h.d1 _ e).2.2.2.2.2.1 rfl).trans h.pp, h.Bs, h.d1, h.d2⟩
theorem JS.store {w0 : World} {B hb M n x y d ab1 ab2 : Nat} {go1 go2 : Option Nat} {qa qo qp : Nat} {zs ws : List Int} {gw cw : Nat} {w : World} (h : JS w0 B hb M n x y d ab1 ab2 go1 go2 qa qo qp zs ws (.slice (some ⟨gw, 0, none⟩) n cw) w) (hB : w0.heap.size ≤ B) (j : Nat) (z : Int) : JS w0 B hb M n x y d ab1 ab2 go1 go2 qa qo qp zs (ws.set j z) (.slice (some ⟨gw, 0, none⟩) n cw) (w.setCell ⟨gw, j, none⟩ (.int .i64 z)) := by
 have k := set_kp w gw j (.int .i64 z)
 have hgB := (h.want.lt gw rfl).1
 have hbB := h.hbB
 have MB := h.MB
 have ne : ∀ {g : Nat} {cs : Array Value} {e : TypeId}, w.heap[g]? = some (.cells cs e) → e ≠ 3 → ¬ g = gw := fun hb he q => blk_ne h.want hb he (by rw [q]; rfl)
 exact ⟨h.u.trans (k.below h.u.size fun i hi e => by omega), h.hb0, h.M0, h.hbB, h.MB, h.heap.kp k (by omega) (by omega), h.a1.kp k (ne h.a1.arr (by decide)) (fun g e => ne (h.a1.row g e) (by decide)), h.a2.kp k (ne h.a2.arr (by decide)) (fun g e => ne (h.a2.row g e) (by decide)), h.zl, by rw [List.length_set]; exact h.wl, h.sm, nums_set h.want j z, (k.block _ (hblk h.all) (ne h.all (by decide))).trans h.all, (k.block _ (hblk h.oth) (ne h.oth (by decide))).trans h.oth, (k.block _ (hblk h.pp) (ne h.pp (by decide))).trans h.pp, h.Bs, h.d1, h.d2⟩
theorem Sm.set {a : List Int} (h : Sm a) (j : Nat) (z : Int) (hz : -9223372036854775808 ≤ z ∧ z ≤ 9223372036854775807) : Sm (a.set j z) := fun y hy => by
 rcases List.mem_or_eq_of_mem_set hy with h1 | rfl
 ·exact h y h1
 ·exact hz
def E7 (many frm to at1 : Int) (pm : Option Addr) (ml mc : Nat) (hb n x y : Nat) (qa qo qp : Nat) (wv : Value) (a : Act) : Prop := ∃ u : Nat → Value, a = (F2 (.int .i64 many) (.int .i64 frm) (.int .i64 to) (.int .i64 at1) (.slice pm ml mc) (.pointer (some ⟨hb, 0, none⟩)) (.int .i64 (n : Int)) wv (.pointer (some ⟨qa, 0, none⟩)) (.pointer (some ⟨qo, 0, none⟩)) (.int .i64 (x : Int)) (.int .i64 ((x : Int) + y)) (.pointer (some ⟨qp, 0, none⟩)) (u 29) (u 30) u)
theorem e7_close (many frm to at1 : Int) (pm : Option Addr) (ml mc : Nat) (hb n x y : Nat) (qa qo qp : Nat) (wv : Value) (a : Act) (ha : a = (F2 (.int .i64 many) (.int .i64 frm) (.int .i64 to) (.int .i64 at1) (.slice pm ml mc) (.pointer (some ⟨hb, 0, none⟩)) (.int .i64 (n : Int)) wv (.pointer (some ⟨qa, 0, none⟩)) (.pointer (some ⟨qo, 0, none⟩)) (.int .i64 (x : Int)) (.int .i64 ((x : Int) + y)) (.pointer (some ⟨qp, 0, none⟩)) (a.tmps.getD 29 undef) (a.tmps.getD 30 undef) (fun k => a.tmps.getD k undef))) : E7 many frm to at1 pm ml mc hb n x y qa qo qp wv a := ⟨fun k => a.tmps.getD k undef, ha⟩
theorem tail14_none (many frm to at1 : Int) (pm : Option Addr) (ml mc : Nat) (hb n x y : Nat) (qa qo qp : Nat) (wv : Value) (u : Nat → Value) (w0 w : World) (hy : y = 0) (h15 : ∀ a, E7 many frm to at1 pm ml mc hb n x y qa qo qp wv a → Code.wp Tryz.prog (pieceN 15) (bodyPost Tryz.prog Tryz.f3 fun r w' => r = .returned (.bool true) ∧ Below w0.heap.size w0 w') a w) :
  Code.wp Tryz.prog (pieceN 14) (bodyPost Tryz.prog Tryz.f3 fun r w' => r = .returned (.bool true) ∧ Below w0.heap.size w0 w') (F2 (.int .i64 many) (.int .i64 frm) (.int .i64 to) (.int .i64 at1) (.slice pm ml mc) (.pointer (some ⟨hb, 0, none⟩)) (.int .i64 (n : Int)) wv (.pointer (some ⟨qa, 0, none⟩)) (.pointer (some ⟨qo, 0, none⟩)) (.int .i64 (x : Int)) (.int .i64 ((x : Int) + y)) (.pointer (some ⟨qp, 0, none⟩)) (u 29) (u 30) u) w := by
 have HE : Hid _ := h15
 have j1 : ¬ (x : Int) < (x : Int) + y := by omega
 clear h15 hy
 try unfold F1
 try unfold F2
 try unfold F5
 try unfold F6
 conv => arg 2; whnf
 refine wp_seq_k ?_
 intro K14 hK14
 have HK14 : Hid (∀ (a : Act) (w : World), Code.wp Tryz.prog (pieceN 15) (bodyPost Tryz.prog Tryz.f3 fun r w' => r = .returned (.bool true) ∧ Below w0.heap.size w0 w') a w → K14 a w) := hK14
 clear hK14
 go_wp2_with fail
 exact HK14.out _ _ (HE.out _ (e7_close _ _ _ _ _ _ _ _ _ _ _ _ _ _ _ _ rfl))
theorem tail14_some (many frm to at1 : Int) (pm : Option Addr) (ml mc : Nat) (B hb M n x y d ab1 ab2 : Nat) (go1 go2 : Option Nat) (qa qo qp : Nat) (gw cw : Nat) (u : Nat → Value) (w0 w : World) (zs : List Int) (h : JS w0 B hb M n x y d ab1 ab2 go1 go2 qa qo qp zs zs (.slice (some ⟨gw, 0, none⟩) n cw) w) (hd : x + d = n) (hyd : y ≤ d) (hn : n ≤ 40) (hN : ∀ W, Below w0.heap.size w0 W → NamesAt W) (hB0 : w0.heap.size ≤ B) (hat : -9223372036854775808 ≤ at1 ∧ at1 ≤ 9223372036854775807) (hy : 0 < y)
  (h15 : ∀ (zs' : List Int) (W : World), JS w0 B hb M n x y d ab1 ab2 go1 go2 qa qo qp zs' zs' (.slice (some ⟨gw, 0, none⟩) n cw) W → ∀ a, E7 many frm to at1 pm ml mc hb n x y qa qo qp (.slice (some ⟨gw, 0, none⟩) n cw) a → Code.wp Tryz.prog (pieceN 15) (bodyPost Tryz.prog Tryz.f3 fun r w' => r = .returned (.bool true) ∧ Below w0.heap.size w0 w') a W) :
  Code.wp Tryz.prog (pieceN 14) (bodyPost Tryz.prog Tryz.f3 fun r w' => r = .returned (.bool true) ∧ Below w0.heap.size w0 w') (F2 (.int .i64 many) (.int .i64 frm) (.int .i64 to) (.int .i64 at1) (.slice pm ml mc) (.pointer (some ⟨hb, 0, none⟩)) (.int .i64 (n : Int)) (.slice (some ⟨gw, 0, none⟩) n cw) (.pointer (some ⟨qa, 0, none⟩)) (.pointer (some ⟨qo, 0, none⟩)) (.int .i64 (x : Int)) (.int .i64 ((x : Int) + y)) (.pointer (some ⟨qp, 0, none⟩)) (u 29) (u 30) u) w := by
 have HE : Hid _ := h15
 clear h15
 have j1 : (x : Int) < (x : Int) + y := by omega
 have e1 : (x : Int) + y - x = y := by omega
 obtain ⟨k, HX, hky⟩ : ∃ k : Nat, Hid (pickN at1 (y : Int) = (k : Int)) ∧ k < y := ⟨(pickN at1 (y : Int)).toNat, by have := pickN_lt at1 (y : Int) (by omega); show _ = _; omega, by have := pickN_lt at1 (y : Int) (by omega); omega⟩
 have HPX : Hid (∀ V, Calls Tryz.prog 7 #[.int .i64 at1, .int .i64 (y : Int)] V fun r w' => r = .returned (.int .i64 (k : Int)) ∧ w' = V) := fun V => by
  have := pick_any at1 (y : Int) hat.1 hat.2 (by omega) (by omega) V
  rw [HX.out] at this
  exact this
 clear HX hat
 have HJ : Hid _ := h
 clear h
 try unfold F1
 try unfold F2
 try unfold F5
 try unfold F6
 conv => arg 2; whnf
 refine wp_seq_k ?_
 intro K14 hK14
 have HK14 : Hid (∀ (a : Act) (w : World), Code.wp Tryz.prog (pieceN 15) (bodyPost Tryz.prog Tryz.f3 fun r w' => r = .returned (.bool true) ∧ Below w0.heap.size w0 w') a w → K14 a w) := hK14
 clear hK14
 go_wp2_with fail
 refine (HPX.out _).mono ?_
 rintro _ W ⟨rfl, eW⟩
 obtain rfl := eW.symm
 clear HPX
 go_wp2_with fail
 refine rg (S := fun W => (∀ j, W.cell? ⟨qp, j, none⟩ = (#[.int .i64 5, .string ⟨#[108, 105, 115, 116]⟩, .int .i64 0, .int .u64 0, .string ⟨#[]⟩, .int .i64 1, .int .i64 (x : Int), .int .i64 (y : Int), .int .i64 (d : Int), .slice none 0 0, .slice none 0 0] : Array Value)[j]?)) (fun U1 hB4 HU1 => ?_)
 have hS := (cells_of (HJ.out.below hB4).pp).1
 refine tq 0 (.pointer (some ⟨hb, 0, none⟩)) rfl hS ?_
 simp only [sa, sb, Act.put, sd, se, sf]
 refine tk 1 (.agg #[.int .i64 5, .string ⟨#[108, 105, 115, 116]⟩, .int .i64 0, .int .u64 0, .string ⟨#[]⟩, .int .i64 1, .int .i64 (x : Int), .int .i64 (y : Int), .int .i64 (d : Int), .slice none 0 0, .slice none 0 0]) rfl (.inl ⟨by rfl, ?r⟩) hS ?_
 case r => intro W hW; simp [go_sem, execOp, Act.eval, hW]
 simp only [sa, sb, sc, Act.put, sd, se, sf]
 refine tq 2 (.int .i64 (k : Int)) rfl hS ?_
 simp only [sa, sb, sc, Act.put, sd, se, sf]
 have HJ1 : Hid _ := HJ.out.below hB4
 clear HU1 hB4 HJ
 refine one 3 rfl (fun K hK => ?_)
 simp only [sa, sb, sc]
 go_simp
 refine (whole_any (-7) U1).mono ?_
 rintro _ U2 ⟨rfl, c2⟩
 have HJ2 : Hid _ := HJ1.out.below c2
 clear c2 HJ1 hS
 have hS := (cells_of HJ2.out.pp).1
 simp only [wholeD, MD.val, D, List.length_nil]
 go_simp
 refine hK _ _ ⟨hS, ?_⟩
 clear hK K
 try simp only [Act.put, sd, se, sf]
 refine one 4 rfl (fun K hK => ?_)
 simp only [sa, sb, sc]
 go_simp
 refine Calls.mono (Put_all hb M [arrV ab1, arrV ab2] 0 ab1 rfl (by decide) go1 zs x y d hyd (by rw [HJ2.out.zl]; omega) k hky (-7) (FlatR.whole _ (by decide) (by decide)) U2 (hN _ HJ2.out.u) HJ2.out.heap HJ2.out.a1 (fun g e => (HJ2.out.d1 g e).2.1)) ?_
 rintro _ U3 ⟨rfl, a3, k3⟩
 have HJ3 : Hid _ := HJ2.out.put k3 a3 (by rw [List.length_set]; exact HJ2.out.zl) (HJ2.out.sm.set _ _ (by decide)) hB0
 clear a3 k3 HJ2 hS
 have hS := (cells_of HJ3.out.pp).1
 go_simp
 refine hK _ _ ⟨hS, ?_⟩
 clear hK K
 try simp only [Act.put, sd, se, sf]
 refine tq 5 (.nilIface) rfl hS ?_
 simp only [sa, sb, sc, Act.put, sd, se, sf]
 clear hS
 refine dn ?_
 try simp only [Act.put]
 have hWc := nums_at HJ3.out.want (x + k) (by omega)
 have hf := hWc.2
 have hc := hWc.1
 clear hWc
 have j3 : (x : Int) + k < (n : Int) := by omega
 have j4 : (0 : Int) ≤ (x : Int) + k := by omega
 have HJ4 : Hid _ := HJ3.out.store hB0 (x + k) (-7)
 have cA := (cells_of HJ4.out.all).1
 clear HJ3
 go_wp2_with fail
 obtain ⟨U4, eU4⟩ : ∃ W, W = U3.setCell ⟨gw, x + k, none⟩ (.int .i64 (-7)) := ⟨_, rfl⟩
 rw [← eU4] at HJ4 ⊢
 clear cA hf hc eU4
 refine Calls.mono (read_whole hb M [arrV ab1, arrV ab2] 0 ab1 rfl (by decide) go1 _ HJ4.out.sm n HJ4.out.zl U4 (hN _ HJ4.out.u) HJ4.out.heap HJ4.out.a1) ?_
 rintro _ U5 ⟨v5, rfl, c5, o5⟩
 have HJ5 : Hid _ := HJ4.out.below c5
 clear c5 HJ4
 obtain ⟨g5, c5, rfl, -, l5, -⟩ := nums_open o5 (by omega)
 have HAL : Hid (Calls Tryz.prog 13 #[.slice (some ⟨g5, 0, none⟩) n c5, .slice (some ⟨gw, 0, none⟩) n cw] U5 fun r w' => r = .returned (.bool true) ∧ Below U5.heap.size U5 w') := by
  have hl := HJ5.out.zl
  have := alike_same g5 gw c5 cw (zs.set (x + k) (-7)) (by omega) U5 l5 (HJ5.out.want.lt gw rfl).2 (fun j hj => (nums_cell o5 j hj).1) (fun j hj => (nums_cell HJ5.out.want j hj).1)
  rwa [hl] at this
 clear o5 l5
 go_wp2_with fail
 refine HAL.out.mono ?_
 rintro _ U6 ⟨rfl, c6⟩
 have HJ6 : Hid _ := HJ5.out.below c6
 clear c6 HJ5 HAL
 go_wp2_with fail
 exact HK14.out _ _ (HE.out _ _ HJ6.out _ (e7_close _ _ _ _ _ _ _ _ _ _ _ _ _ _ _ _ rfl))
theorem tail14 (many frm to at1 : Int) (pm : Option Addr) (ml mc : Nat) (B hb M n x y d ab1 ab2 : Nat) (go1 go2 : Option Nat) (qa qo qp : Nat) (wv : Value) (u : Nat → Value) (w0 w : World) (zs : List Int) (h : JS w0 B hb M n x y d ab1 ab2 go1 go2 qa qo qp zs zs wv w) (hd : x + d = n) (hyd : y ≤ d) (hn : n ≤ 40) (hN : ∀ W, Below w0.heap.size w0 W → NamesAt W) (hB0 : w0.heap.size ≤ B) (hat : -9223372036854775808 ≤ at1 ∧ at1 ≤ 9223372036854775807) (ms : List Int) (hS : Sm ms) (hml : ml = ms.length) (hmb : ml ≤ 9223372036854775807)
  (hmem : ms = [] ∨ ∃ mb mo, pm = some ⟨mb, mo, none⟩ ∧ mb < w0.heap.size ∧ ∀ (i : Nat) (hi : i < ms.length), w0.cell? ⟨mb, mo + i, none⟩ = some (.int .i64 ms[i])) :
  Code.wp Tryz.prog (pieceN 14) (bodyPost Tryz.prog Tryz.f3 fun r w' => r = .returned (.bool true) ∧ Below w0.heap.size w0 w') (F2 (.int .i64 many) (.int .i64 frm) (.int .i64 to) (.int .i64 at1) (.slice pm ml mc) (.pointer (some ⟨hb, 0, none⟩)) (.int .i64 (n : Int)) wv (.pointer (some ⟨qa, 0, none⟩)) (.pointer (some ⟨qo, 0, none⟩)) (.int .i64 (x : Int)) (.int .i64 ((x : Int) + y)) (.pointer (some ⟨qp, 0, none⟩)) (u 29) (u 30) u) w := by
 have h15 : ∀ (zs' : List Int) (W : World), JS w0 B hb M n x y d ab1 ab2 go1 go2 qa qo qp zs' zs' wv W → ∀ a, E7 many frm to at1 pm ml mc hb n x y qa qo qp wv a → Code.wp Tryz.prog (pieceN 15) (bodyPost Tryz.prog Tryz.f3 fun r w' => r = .returned (.bool true) ∧ Below w0.heap.size w0 w') a W := fun zs' W hJ a ⟨u, e⟩ => by
  rw [e]
  exact tail15_any many frm to at1 pm ml mc B hb M n x y d ab1 ab2 go1 go2 qa qo qp wv u w0 W zs' hJ hd hyd hn hN hB0 ms hS hml hmb hmem
 rcases Nat.eq_zero_or_pos y with h0 | h0
 ·exact tail14_none many frm to at1 pm ml mc hb n x y qa qo qp wv u w0 w h0 (h15 zs w h)
 ·obtain ⟨gw, cw, rfl, -⟩ := nums_open h.want (by omega)
  exact tail14_some many frm to at1 pm ml mc B hb M n x y d ab1 ab2 go1 go2 qa qo qp gw cw u w0 w zs h hd hyd hn hN hB0 hat h0 h15
end Go.Proofs.YtdbijkgnddcneaaGreatDoor
