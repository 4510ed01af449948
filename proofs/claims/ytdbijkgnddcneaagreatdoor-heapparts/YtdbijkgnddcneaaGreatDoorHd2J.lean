/-
  .
  .
-/
import Derived.Test.YtdbijkgnddcneaaGreatDoorSq
import Derived.Test.YtdbijkgnddcneaaGreatDoorIJ
import Derived.Test.YtdbijkgnddcneaaGreatDoorQb
import Derived.Test.YtdbijkgnddcneaaGreatDoorFe2J
import Derived.Laws.BytesArg
namespace Go.Proofs.YtdbijkgnddcneaaGreatDoor
open Go.RowKit
set_option maxRecDepth 100000
set_option maxHeartbeats 8000000
attribute [local go_sem] refold2 cell3_0 cell3_1 b28_0 b28_01
def uw (z : Int) : Int := IntKind.u64.wrap z
def stirC (h : Int) (k : Int) (t : ByteArray) (a f : Int) (s : ByteArray) (r0 : Int) (path : List Int) (il : Nat) : Int :=
 stir (stirT (stir (stirT (stir (stir (stirT (stir h (uw k)) t) (IntKind.u64.wrap a)) (nz f)) s) (IntKind.u64.wrap r0)) (strOfNums path)) il
def MD.hash : Nat → Int → MD → Int
 | 0, h, _ => h
 | n + 1, h, d => d.items.foldl (MD.hash n) (stirC h d.h.k d.h.t d.h.n d.h.f d.h.s d.h.r0 d.h.path d.items.length)
theorem cvu (z : Int) (W : World) : (convert 3 28 (.int .i64 z)).run Tryz.prog W = .ok (.int .u64 (uw z)) W := by simp [go_sem, uw]
theorem full_items {n : Nat} {d : MD} (h : MD.full (n + 1) d = true) : ∀ q ∈ d.items, MD.full n q = true := by
 have h1 : (headOK d.h d.items.length && (d.h.k != 8 || (decide (d.items.length ≤ 30) && d.items.all (MD.full n)))) = true := h
 rw [Bool.and_eq_true] at h1
 by_cases h8 : d.h.k = 8
 ·have := h1.2
  rw [h8] at this
  simp at this
  exact fun q hq => this.2 q hq
 ·have h2 := h1.1
  unfold headOK at h2
  rw [Bool.and_eq_true, Bool.and_eq_true] at h2
  have h3 := h2.1.2
  unfold zeroK at h3
  simp only [Bool.and_eq_true, Bool.or_eq_true, beq_iff_eq] at h3
  rcases h3.2 with e | e
  ·exact absurd e h8
  ·have : d.items = [] := List.eq_nil_of_length_eq_zero (by exact_mod_cast e)
   rw [this]; intro q hq; cases hq
theorem full_small {n : Nat} {d : MD} (h : MD.full (n + 1) d = true) : d.h.s.size ≤ 65536 ∧ d.items.length ≤ 30 := by
 have h1 : (headOK d.h d.items.length && (d.h.k != 8 || (decide (d.items.length ≤ 30) && d.items.all (MD.full n)))) = true := h
 rw [Bool.and_eq_true] at h1
 have h2 := h1.1
 unfold headOK at h2
 rw [Bool.and_eq_true, Bool.and_eq_true] at h2
 have h3 := h2.1.2
 have h4 := h2.2
 unfold zeroK at h3
 simp only [Bool.and_eq_true, Bool.or_eq_true, beq_iff_eq] at h3
 constructor
 ·by_cases k4 : d.h.k = 4
  ·unfold kindB at h4
   rw [if_neg (by omega), if_neg (by omega), if_pos k4] at h4
   exact of_decide_eq_true h4
  ·have e := size_of_list (h3.1.1.1.1.1.1.2.resolve_left k4)
   rw [e]; decide
 ·by_cases h8 : d.h.k = 8
  ·have := h1.2
   rw [h8] at this
   simp at this
   exact this.1
  ·have := h3.2.resolve_left h8
   omega
def HashC (n : Nat) : Prop := ∀ (h : Int) (d : MD) (w : World), MD.In w.heap.size w n d → MD.full n d = true → Calls Tryz.prog 159 #[.int .u64 h, d.val] w fun r w' => r = .returned (.int .u64 (MD.hash n h d)) ∧ Below w.heap.size w w'
def HashRel (n : Nat) (z : Int) (items : List MD) (W : World) (x i : Value) (wr : World) : Prop :=
 ∃ (j : Nat) (y : Int), j ≤ items.length ∧ i = .int .i64 j ∧ x = .int .u64 y ∧ z = (items.drop j).foldl (MD.hash n) y ∧ Below W.heap.size W wr
theorem stirredIn_step (n : Nat) (hI : HashC n) : HashC (n + 1) := by
 intro h d w hin hf
 have HFi : Hid (∀ q ∈ d.items, MD.full n q = true) := full_items hf
 have HI : Hid (HashC n) := hI
 have hF := hin.fine
 have hP := hin.path
 have hits := hin.items
 obtain ⟨hs, hlen⟩ := full_small hf
 have fx2 : (headOK d.h d.items.length && (d.h.k != 8 || (decide (d.items.length ≤ 30) && d.items.all (MD.full n)))) = true := hf
 rw [Bool.and_eq_true] at fx2
 obtain ⟨hp, hb⟩ := head_path fx2.1
 have hty : tyB d.h.k d.h.t = true := by
  have := fx2.1
  unfold headOK at this
  rw [Bool.and_eq_true, Bool.and_eq_true] at this
  exact this.1.1
 have ht := ty_small hty
 clear fx2 hty hin hf hI
 obtain ⟨⟨k, t, a, f, s, r0, r1, r2, r3, pp, path, pc⟩, ip, ic, items⟩ := d
 simp only at ht hp hb hlen hs
 have hs : s.size ≤ 140737488351232 := by omega
 have hc9 := hP.2
 clear hF hP
 obtain ⟨cs, hcs⟩ : ∃ cs, cs = coreF Tryz.zeroCells271 k t a f s r0 path := ⟨_, rfl⟩
 have HC : Hid (∀ W, Below w.heap.size w W → Calls Tryz.prog 164 #[.agg #[.int .i64 k, .string t, .int .i64 a, .int .u64 f, .string s, .int .i64 r0, .int .i64 r1, .int .i64 r2, .int .i64 r3, .slice pp path.length pc, .slice ip items.length ic]] W fun r w' => r = .returned (.agg cs) ∧ Below W.heap.size W w') := fun W hW => by
  rw [hcs]
  refine coreOf_any k t a f s r0 r1 r2 r3 pp path pc ip items.length ic W hp hb ?_
  rcases hc9 with e | ⟨b, o, e1, e2, e3⟩
  ·exact .inl e
  ·exact .inr ⟨b, o, e1, Nat.lt_of_lt_of_le e2 hW.size, fun i hi => (hW.cell (p := ⟨b, o + i, none⟩) e2).trans (e3 i hi)⟩
 have hl := coreF_list k t a f s r0 path hp
 rw [← hcs] at hl
 have hsz : cs.size = 107 := by rw [hcs]; unfold coreF; rw [coreJ_size]; exact coreA_size _ _ _ _ _ _ _
 have hone : cs.all (·.oneCell') = true := by
  rw [hcs, Array.all_eq_true_iff_forall_mem]; exact coreJ_one path _ (Array.all_eq_true_iff_forall_mem.1 (coreA_one _ _ _ _ _ _ _)) _
 have hg : ∀ i, cs[i]? = (coreL k t a (nz f) s r0 path)[i]? := fun i => by rw [← Array.getElem?_toList, hl]
 have f0 : cs[0]? = some (.int .i64 k) := hg 0
 have f1 : cs[1]? = some (.string t) := hg 1
 have f2 : cs[2]? = some (.int .i64 a) := hg 2
 have f3 : cs[3]? = some (.int .u64 (nz f)) := hg 3
 have f4 : cs[4]? = some (.string s) := hg 4
 have f5 : cs[5]? = some (.int .i64 r0) := hg 5
 have f6 : cs[6]? = some (.int .i64 path.length) := hg 6
 have f7 : Hid (∀ i, i < path.length → cs[7 + i]? = some (.int .u8 (path.getD i 0))) := fun i hi => by
  rw [hg (7 + i)]
  unfold coreL pathV
  rw [List.getElem?_append_right (by simp), List.getElem?_map]
  have e : (List.range 100)[7 + i - 7]? = some i := by
   rw [show 7 + i - 7 = i by omega]; exact List.getElem?_range (by omega)
  show Option.map _ (List.range 100)[7 + i - 7]? = _
  rw [e]
  simp [List.getD]
 have hst : ∀ W : World, (storeCells ⟨W.heap.size, 0, none⟩ cs.toList).run Tryz.prog (W.alloc (.cells Tryz.zeroCells271 271)) = .ok () (W.alloc (.cells cs 271)) := fun W => run_storeCells_new W 271 Tryz.zeroCells271 cs (by rw [hsz]; exact info116) (by rw [hsz]; exact zero_size) hone
 clear hcs hone hl hg hc9 hb
 simp only [MD.val, D, MD.hash]
 generalize hnf : nz f = nf at f3
 have hpi : (path.length : Int) ≤ 100 := by omega
 have hii : (items.length : Int) ≤ 140737488351232 := by omega
 obtain ⟨Z, hZ⟩ : ∃ Z, Z = items.foldl (MD.hash n) (stirC h k t a f s r0 path items.length) := ⟨_, rfl⟩
 rw [← hZ]
 unfold stirC at hZ
 rw [hnf] at hZ
 have HZ : Hid (Z = items.foldl (MD.hash n) _) := hZ
 have HT : Hid (MD.ItemsIn w.heap.size w n ⟨⟨k, t, a, f, s, r0, r1, r2, r3, pp, path, pc⟩, ip, ic, items⟩) := hits
 clear hZ hits hnf
 go_enter Tryz.func159, Tryz.ntmps159
 go_wp2_with fail
 refine (HC.out _ (below1 _ _)).mono ?_
 rintro r w1 ⟨rfl, b1⟩
 have e1 : ∀ j, w1.cell? ⟨w.heap.size, j, none⟩ = (#[.int .i64 k, .string t, .int .i64 a, .int .u64 f, .string s, .int .i64 r0, .int .i64 r1, .int .i64 r2, .int .i64 r3, .slice pp path.length pc, .slice ip items.length ic] : Array Value)[j]? := fun j => row_at ((b1.block w.heap.size (by simp)).trans (heap_alloc_new _ _)) j
 have z1 : w.heap.size < w1.heap.size := by have := b1.size; simp at this; omega
 have q1 : Below w.heap.size w w1 := (below1 _ _).trans (b1.mono (by simp))
 have HQ1 : Hid _ := q1
 clear b1 q1
 go_wp2_with fail
 refine wp_region_noPanic ?_
 refine wp_region_held (S := fun W => ∀ j, W.cell? ⟨w1.heap.size, j, none⟩ = cs[j]?) (by kernel_rfl) ?_
 obtain ⟨W4, hW4⟩ : ∃ W4, W4 = (w1.alloc (.cells cs 271)).drew := ⟨_, rfl⟩
 have e4 : ({ (w1.alloc (.cells cs 271)) with drawn := (w1.alloc (.cells cs 271)).drawn + 1 } : World) = W4 := hW4.symm
 rw [e4]
 have hS : ∀ j, W4.cell? ⟨w1.heap.size, j, none⟩ = cs[j]? := fun j => by rw [hW4]; exact row_at (heap_alloc_new w1 _) j
 have hB4 : Below w.heap.size w W4 := by rw [hW4]; exact (HQ1.out.alloc HQ1.out.size _).drew
 have hI4 : ∀ j, W4.cell? ⟨w.heap.size, j, none⟩ = (#[.int .i64 k, .string t, .int .i64 a, .int .u64 f, .string s, .int .i64 r0, .int .i64 r1, .int .i64 r2, .int .i64 r3, .slice pp path.length pc, .slice ip items.length ic] : Array Value)[j]? := fun j => by rw [hW4]; exact (World.cell?_alloc_lt _ _ _ z1).trans (e1 j)
 have hz4 : w1.heap.size < W4.heap.size := by rw [hW4]; show _ < (w1.alloc _).heap.size; simp
 clear e4 hW4 e1 hst
 refine tq 0 (.int .u64 h) rfl hS ?_
 simp only [sa, sb, Act.put, sd, se, sf]
 refine tq 1 (.pointer (some ⟨w1.heap.size, 0, none⟩)) rfl hS ?_
 simp only [sa, sb, sc, Act.put, sd, se, sf]
 refine tq 2 (.pointer (some ⟨w1.heap.size, 0, none⟩)) rfl hS ?_
 simp only [sa, sb, sc, Act.put, sd, se, sf]
 refine tk 3 (.int .i64 k) rfl (.inl ⟨by rfl, ?r⟩) hS ?_
 case r => intro W hW; simp [go_sem, execOp, Act.eval, hW, f0]
 simp only [sa, sb, sc, Act.put, sd, se, sf]
 refine tk 4 (.int .u64 (uw k)) rfl (.inl ⟨by rfl, ?r⟩) hS ?_
 case r => intro W hW; simp [go_sem, execOp, Act.eval, cvu]
 simp only [sa, sb, sc, Act.put, sd, se, sf]
 refine tq 6 (.pointer (some ⟨w1.heap.size, 0, none⟩)) rfl hS ?_
 simp only [sa, sb, sc, Act.put, sd, se, sf]
 refine tq 7 (.pointer (some ⟨w1.heap.size, 1, none⟩)) rfl hS ?_
 simp only [sa, sb, sc, Act.put, sd, se, sf]
 refine tk 8 (.string t) rfl (.inl ⟨by rfl, ?r⟩) hS ?_
 case r => intro W hW; simp [go_sem, execOp, Act.eval, hW, f1]
 simp only [sa, sb, sc, Act.put, sd, se, sf]
 refine one 5 rfl (fun K hK => ?_)
 simp only [sa, sb, sc]
 go_simp
 refine (stirred_any _ _ _).mono ?_
 rintro e w5 ⟨rfl, rfl⟩
 go_simp
 refine hK _ _ ⟨hS, ?_⟩
 clear hK K
 refine one 9 rfl (fun K hK => ?_)
 simp only [sa, sb, sc]
 go_simp
 refine (stirredText_any _ _ _ (by omega)).mono ?_
 rintro e w6 ⟨rfl, rfl⟩
 go_simp
 refine hK _ _ ⟨hS, ?_⟩
 clear hK K
 refine tq 10 (.int .u64 (stirT (stir h (uw k)) t)) rfl hS ?_
 simp only [sa, sb, sc, Act.put, sd, sf]
 refine dn ?_
 try simp only [Act.put]
 have g2 := (hS 2).trans f2
 have g3 := (hS 3).trans f3
 have g4 := (hS 4).trans f4
 have g5 := (hS 5).trans f5
 have g6 := (hS 6).trans f6
 have hcv : (convert 121 9 (.slice (some ⟨w1.heap.size, 7, none⟩) path.length 100)).run Tryz.prog w6 = .ok (.string (strOfNums path)) w6 :=
  run_convert_bytes_arg w6 121 5 Tryz.underlying121 Tryz.underlying5 w1.heap.size 7 path.length 100 path rfl (fun i hi => (hS (7 + i)).trans (f7.out i hi)) 9 Tryz.underlying9
 have h10 := hI4 10
 simp only [List.getElem?_toArray, List.getElem?_cons_succ, List.getElem?_cons_zero] at h10
 have HI4 : Hid _ := hI4
 have HB4 : Hid (Below w.heap.size w w6) := hB4
 clear hS hsz f0 f1 f2 f3 f4 f5 f6 HC hI4 hB4
 generalize hzz : stirT (stir h (uw k)) t = z0 at *
 have hq : (strOfNums path).size ≤ 140737488351232 := by rw [strOfNums_size]; omega
 generalize hzp : strOfNums path = sp at *
 go_wp2_with (first | (go_at_call 196; refine (stirred_any _ _ _).mono ?_; rintro r w' ⟨rfl, rfl⟩) | (go_at_call 195; refine (stirredText_any _ _ _ (by assumption)).mono ?_; rintro r w' ⟨rfl, rfl⟩))
 have HZ2 : Hid (Z = (items.drop 0).foldl (MD.hash n) (stir (stirT (stir (stirT (stir (stir z0 (IntKind.u64.wrap a)) nf) s) (IntKind.u64.wrap r0)) sp) items.length)) := by
  have h1 := HZ.out
  rw [List.drop_zero]; exact h1
 clear HZ hcv hq hzp hzz g2 g3 g4 g5 g6
 go_loopw [0, 54] (fun x i wr => HashRel n Z items w' x i wr) (fun _ i _ => items.length - (intOf i).toNat)
 case atStart => exact ⟨0, _, Nat.zero_le _, rfl, rfl, HZ2.out, Below.refl _ _⟩
 case round =>
  obtain ⟨j, y, hj, rfl, rfl, hq, hb⟩ := hrel
  have HB : Hid (Below w'.heap.size w' wr) := hb
  have HB0 : Hid (Below w.heap.size w wr) := HB4.out.trans (hb.mono HB4.out.size)
  have hz := HB0.out.size
  have HQ : Hid (Z = (items.drop j).foldl (MD.hash n) y) := hq
  clear hq hb
  by_cases hlt : j < items.length
  ·have i1 : (j : Int) < items.length := by omega
   obtain ⟨bb, o, rfl, hbB, hC, hIn⟩ : ∃ bb o, ip = some ⟨bb, o, none⟩ ∧ bb < w.heap.size ∧ MD.CellsAt wr bb (o + j * 11) items[j] ∧ MD.In w.heap.size wr n items[j] := by
    rcases MD.ItemsIn.below HT.out HB0.out with e | ⟨bb, o, e1, e2, e3⟩
    ·have e' : items = [] := e
     rw [e'] at hlt; simp at hlt
    ·exact ⟨bb, o, e1, e2, e3 j hlt⟩
   have HQ2 : Hid (Z = (items.drop (j + 1)).foldl (MD.hash n) (MD.hash n y items[j])) := by
    have h1 := HQ.out
    rw [List.drop_eq_getElem_cons hlt, List.foldl_cons] at h1
    exact h1
   have HFk := HFi.out _ (List.getElem_mem hlt)
   generalize items[j] = kid at hC hIn HQ2 HFk
   have HK : Hid (∀ W, Below wr.heap.size wr W → Calls Tryz.prog 159 #[.int .u64 y, kid.val] W fun r w' => r = .returned (.int .u64 (MD.hash n y kid)) ∧ Below W.heap.size W w') := fun W hW => HI.out y kid W (MD.In.later hIn hz hW) HFk
   generalize MD.hash n y kid = y2 at HQ2 HK
   obtain ⟨⟨k0, k1, k2, k3, k4, k5, k6, k7, k8, kp, kpath, kpc⟩, kip, kic, kit⟩ := kid
   have c0 : wr.cell? ⟨bb, o + j * 11, none⟩ = some (.int .i64 k0) := hC 0 (by omega)
   have c1 : wr.cell? ⟨bb, o + j * 11 + 1, none⟩ = some (.string k1) := hC 1 (by omega)
   have c2 : wr.cell? ⟨bb, o + j * 11 + 2, none⟩ = some (.int .i64 k2) := hC 2 (by omega)
   have c3 : wr.cell? ⟨bb, o + j * 11 + 3, none⟩ = some (.int .u64 k3) := hC 3 (by omega)
   have c4 : wr.cell? ⟨bb, o + j * 11 + 4, none⟩ = some (.string k4) := hC 4 (by omega)
   have c5 : wr.cell? ⟨bb, o + j * 11 + 5, none⟩ = some (.int .i64 k5) := hC 5 (by omega)
   have c6 : wr.cell? ⟨bb, o + j * 11 + 6, none⟩ = some (.int .i64 k6) := hC 6 (by omega)
   have c7 : wr.cell? ⟨bb, o + j * 11 + 7, none⟩ = some (.int .i64 k7) := hC 7 (by omega)
   have c8 : wr.cell? ⟨bb, o + j * 11 + 8, none⟩ = some (.int .i64 k8) := hC 8 (by omega)
   have c9 : wr.cell? ⟨bb, o + j * 11 + 9, none⟩ = some (.slice kp kpath.length kpc) := hC 9 (by omega)
   have c10 : wr.cell? ⟨bb, o + j * 11 + 10, none⟩ = some (.slice kip kit.length kic) := hC 10 (by omega)
   clear hC hIn HI HFk HFi HT HI4 h10 HQ
   simp only [MD.val, D] at HK
   go_wp2_with (go_at_call 159; refine (HK.out _ (below1 _ _)).mono ?_; rintro r w2 ⟨rfl, b2⟩; have HX : Hid (Below wr.heap.size wr w2) := (below1 _ _).trans (b2.mono (by simp)); clear b2)
   exact ⟨⟨j + 1, _, hlt, by go_num, rfl, HQ2.out, HB.out.trans (HX.out.mono HB.out.size)⟩, by simp [intOf]; omega⟩
  ·have i1 : ¬ (j : Int) < items.length := by omega
   have e : Z = y := by
    have h1 := HQ.out
    rw [List.drop_of_length_le (by omega)] at h1
    exact h1
   subst e
   clear HQ HZ2
   go_wp2_with fail
   go_ret
   exact ⟨rfl, HB0.out⟩
theorem stirredIn_any : ∀ n, HashC n
 | 0 => fun _ _ _ h _ => h.elim
 | n + 1 => stirredIn_step n (stirredIn_any n)
theorem hashed_any (n : Nat) (d : MD) (w : World) (hin : MD.In w.heap.size w n d) (hf : MD.full n d = true) : Calls Tryz.prog 115 #[d.val] w fun r w' => r = .returned (.int .u64 (MD.hash n 14695981039346656037 d)) ∧ Below w.heap.size w w' := by
 have HI : Hid (∀ (h : Int) (W : World), Below w.heap.size w W → Calls Tryz.prog 159 #[.int .u64 h, d.val] W fun r w' => r = .returned (.int .u64 (MD.hash n h d)) ∧ Below W.heap.size W w') := fun h W hW => stirredIn_any n h d W (hin.later (Nat.le_refl _) hW) hf
 have HI2 : Hid (∀ (W : World), Below w.heap.size w W → Calls Tryz.prog 159 #[.int .u64 14695981039346656037, d.val] W fun r w' => r = .returned (.int .u64 (MD.hash n 14695981039346656037 d)) ∧ Below W.heap.size W w') := fun W hW => HI.out _ W hW
 clear HI
 generalize MD.hash n 14695981039346656037 d = z at HI2 ⊢
 obtain ⟨⟨k, t, a, f, s, r0, r1, r2, r3, pp, path, pc⟩, ip, ic, items⟩ := d
 simp only [MD.val, D] at HI2 ⊢
 clear hin hf
 go_enter Tryz.func115, Tryz.ntmps115
 go_wp2_with (go_at_call 159; refine (HI2.out _ (below1 _ _)).mono ?_; rintro r w' ⟨rfl, hb⟩)
 go_ret
 exact ⟨rfl, (below1 _ _).trans (hb.mono (by simp))⟩
end Go.Proofs.YtdbijkgnddcneaaGreatDoor
namespace Go.Proofs.YtdbijkgnddcneaaGreatDoor
theorem feq_nz {f g : Int} (f0 : 0 ≤ f) (f1 : f ≤ 18446744073709551615) (g0 : 0 ≤ g) (g1 : g ≤ 18446744073709551615) (h : feq f g = true) : nz f = nz g := by
 rw [feq_rank f g f0 f1 g0 g1] at h
 simp only [Bool.and_eq_true, decide_eq_true_eq] at h
 have h2 := h.2
 unfold rnk at h2
 unfold nz
 by_cases h3 : f = 9223372036854775808 <;> by_cases h4 : g = 9223372036854775808 <;> by_cases h5 : f < 9223372036854775808 <;> by_cases h6 : g < 9223372036854775808 <;> simp only [h3, h4, h5, h6, if_true, if_false] at h2 ⊢ <;> omega
theorem zeroK_of_full {n : Nat} {d : MD} (h : MD.full (n + 1) d = true) : zeroK d.h.k d.h.n d.h.f d.h.s d.h.r0 d.h.r1 d.h.r2 d.h.r3 d.h.path.length d.items.length = true := by
 have h1 : (headOK d.h d.items.length && (d.h.k != 8 || (decide (d.items.length ≤ 30) && d.items.all (MD.full n)))) = true := h
 rw [Bool.and_eq_true] at h1
 have h2 := h1.1
 unfold headOK at h2
 rw [Bool.and_eq_true, Bool.and_eq_true] at h2
 exact h2.1.2
def MD.Fl : Nat → MD → Prop
 | 0, _ => True
 | n + 1, d => 0 ≤ d.h.f ∧ d.h.f ≤ 18446744073709551615 ∧ ∀ q ∈ d.items, MD.Fl n q
theorem fold_eq (n : Nat) (hI : ∀ (h : Int) (x y : MD), MD.Fl n x → MD.Fl n y → MD.full n x = true → MD.full n y = true → (MD.eqv n x y).1 = true → MD.hash n h x = MD.hash n h y) : ∀ (xs ys : List MD) (h : Int), xs.length = ys.length → (∀ q ∈ xs, MD.Fl n q) → (∀ q ∈ ys, MD.Fl n q) → (∀ q ∈ xs, MD.full n q = true) → (∀ q ∈ ys, MD.full n q = true) → (allEq (MD.eqv n) xs ys).1 = true → xs.foldl (MD.hash n) h = ys.foldl (MD.hash n) h
 | [], [], _, _, _, _, _, _, _ => rfl
 | [], _ :: _, _, hl, _, _, _, _, _ => by simp at hl
 | _ :: _, [], _, hl, _, _, _, _, _ => by simp at hl
 | x :: xs, y :: ys, h, hl, lx, ly, fx, fy, he => by
  unfold allEq at he
  by_cases hq : (MD.eqv n x y).1 = true
  ·rw [if_pos hq] at he
   rw [List.foldl_cons, List.foldl_cons, hI h x y (lx x (by simp)) (ly y (by simp)) (fx x (by simp)) (fy y (by simp)) hq]
   exact fold_eq n hI xs ys _ (by simpa using hl) (fun q m => lx q (by simp [m])) (fun q m => ly q (by simp [m])) (fun q m => fx q (by simp [m])) (fun q m => fy q (by simp [m])) he
  ·rw [if_neg hq] at he; cases he
theorem bytes_nil {s : ByteArray} (h : s.toList = []) : s = ⟨#[]⟩ := by
 have := size_of_list h
 apply ByteArray.ext
 exact Array.eq_empty_of_size_eq_zero this
theorem hash_eq : ∀ (n : Nat) (h : Int) (x y : MD), MD.Fl n x → MD.Fl n y → MD.full n x = true → MD.full n y = true → (MD.eqv n x y).1 = true → MD.hash n h x = MD.hash n h y
 | 0, _, _, _, _, _, _, _, he => by cases he
 | n + 1, h, x, y, lx, ly, fx, fy, he => by
  have zx := zeroK_of_full fx
  have zy := zeroK_of_full fy
  have ix := full_items fx
  have iy := full_items fy
  unfold MD.eqv at he
  by_cases hty : x.h.k = y.h.k ∧ x.h.t = y.h.t
  ·rw [if_pos hty] at he
   unfold zeroK at zx zy
   simp only [Bool.and_eq_true, Bool.or_eq_true, beq_iff_eq] at zx zy
   obtain ⟨⟨⟨⟨⟨⟨⟨⟨x1, x2⟩, x3⟩, x4⟩, x5⟩, x6⟩, x7⟩, x8⟩, x9⟩ := zx
   obtain ⟨⟨⟨⟨⟨⟨⟨⟨y1, y2⟩, y3⟩, y4⟩, y5⟩, y6⟩, y7⟩, y8⟩, y9⟩ := zy
   have pn : ∀ l : List Int, (l.length : Int) = 0 → l = [] := fun l e => List.eq_nil_of_length_eq_zero (by exact_mod_cast e)
   have qn : ∀ l : List MD, (l.length : Int) = 0 → l = [] := fun l e => List.eq_nil_of_length_eq_zero (by exact_mod_cast e)
   show x.items.foldl (MD.hash n) (stirC h x.h.k x.h.t x.h.n x.h.f x.h.s x.h.r0 x.h.path x.items.length) = y.items.foldl (MD.hash n) (stirC h y.h.k y.h.t y.h.n y.h.f y.h.s y.h.r0 y.h.path y.items.length)
   by_cases h8 : x.h.k = 8
   ·have k8 : y.h.k = 8 := hty.1 ▸ h8
    rw [if_pos h8] at he
    by_cases hl : x.items.length = y.items.length
    ·rw [if_pos hl] at he
     rw [← hl, ← hty.1, ← hty.2]
     have a1 : x.h.n = 0 := by omega
     have a2 : y.h.n = 0 := by omega
     have b1 : x.h.f = 0 := by omega
     have b2 : y.h.f = 0 := by omega
     have c1 : x.h.s = ⟨#[]⟩ := bytes_nil (x3.resolve_left (by omega))
     have c2 : y.h.s = ⟨#[]⟩ := bytes_nil (y3.resolve_left (by omega))
     have d1 : x.h.r0 = 0 := by omega
     have d2 : y.h.r0 = 0 := by omega
     have e1 : x.h.path = [] := pn _ (x8.resolve_left (by omega))
     have e2 : y.h.path = [] := pn _ (y8.resolve_left (by omega))
     rw [a1, a2, b1, b2, c1, c2, d1, d2, e1, e2]
     exact fold_eq n (hash_eq n) _ _ _ hl lx.2.2 ly.2.2 ix iy he
    ·rw [if_neg hl] at he; cases he
   ·have n8 : y.h.k ≠ 8 := hty.1 ▸ h8
    have m1 : x.items = [] := qn _ (x9.resolve_left h8)
    have m2 : y.items = [] := qn _ (y9.resolve_left n8)
    rw [if_neg h8] at he
    rw [m1, m2, ← hty.1, ← hty.2]
    show stirC _ _ _ _ _ _ _ _ _ = stirC _ _ _ _ _ _ _ _ _
    by_cases h3 : x.h.k = 3
    ·have k3 : y.h.k = 3 := hty.1 ▸ h3
     rw [if_pos h3] at he
     have a1 : x.h.n = 0 := by omega
     have a2 : y.h.n = 0 := by omega
     have c1 : x.h.s = ⟨#[]⟩ := bytes_nil (x3.resolve_left (by omega))
     have c2 : y.h.s = ⟨#[]⟩ := bytes_nil (y3.resolve_left (by omega))
     have d1 : x.h.r0 = 0 := by omega
     have d2 : y.h.r0 = 0 := by omega
     have e1 : x.h.path = [] := pn _ (x8.resolve_left (by omega))
     have e2 : y.h.path = [] := pn _ (y8.resolve_left (by omega))
     have := feq_nz lx.1 lx.2.1 ly.1 ly.2.1 he
     unfold stirC
     rw [a1, a2, this, c1, c2, d1, d2, e1, e2]
    ·rw [if_neg h3] at he
     by_cases h5 : x.h.k = 5 ∨ x.h.k = 6 ∨ x.h.k = 7
     ·rw [if_pos h5] at he; cases he
     ·rw [if_neg h5] at he
      obtain ⟨e1, e2, e3, e4, e5⟩ := of_decide_eq_true he
      unfold stirC
      rw [e1, e2, e3, e4, e5]
  ·rw [if_neg hty] at he; cases he
theorem allEq_right (n : Nat) (hI : ∀ (x y : MD), MD.Fl n x → MD.Fl n y → (MD.eqv n x y).1 = true → (MD.eqv n y y).1 = true) : ∀ (xs ys : List MD), xs.length = ys.length → (∀ q ∈ xs, MD.Fl n q) → (∀ q ∈ ys, MD.Fl n q) → (allEq (MD.eqv n) xs ys).1 = true → (allEq (MD.eqv n) ys ys).1 = true
 | [], [], _, _, _, _ => rfl
 | [], _ :: _, hl, _, _, _ => by simp at hl
 | _ :: _, [], hl, _, _, _ => by simp at hl
 | x :: xs, y :: ys, hl, lx, ly, he => by
  unfold allEq at he ⊢
  by_cases hq : (MD.eqv n x y).1 = true
  ·rw [if_pos hq] at he
   rw [if_pos (hI x y (lx x (by simp)) (ly y (by simp)) hq)]
   exact allEq_right n hI xs ys (by simpa using hl) (fun q m => lx q (by simp [m])) (fun q m => ly q (by simp [m])) he
  ·rw [if_neg hq] at he; cases he
theorem eqv_right : ∀ (n : Nat) (x y : MD), MD.Fl n x → MD.Fl n y → (MD.eqv n x y).1 = true → (MD.eqv n y y).1 = true
 | 0, _, _, _, _, he => by cases he
 | n + 1, x, y, lx, ly, he => by
  unfold MD.eqv at he ⊢
  rw [if_pos ⟨rfl, rfl⟩]
  by_cases hty : x.h.k = y.h.k ∧ x.h.t = y.h.t
  ·rw [if_pos hty, hty.1] at he
   by_cases h8 : y.h.k = 8
   ·rw [if_pos h8] at he ⊢
    rw [if_pos rfl]
    by_cases hl : x.items.length = y.items.length
    ·rw [if_pos hl] at he
     exact allEq_right n (eqv_right n) _ _ hl lx.2.2 ly.2.2 he
    ·rw [if_neg hl] at he; cases he
   ·rw [if_neg h8] at he ⊢
    by_cases h3 : y.h.k = 3
    ·rw [if_pos h3] at he ⊢
     have h1 : feq x.h.f y.h.f = true := he
     rw [feq_rank _ _ lx.1 lx.2.1 ly.1 ly.2.1] at h1
     simp only [Bool.and_eq_true] at h1
     show feq y.h.f y.h.f = true
     rw [feq_rank _ _ ly.1 ly.2.1 ly.1 ly.2.1]
     simp only [Bool.and_eq_true, decide_eq_true_eq]
     exact ⟨⟨h1.1.2, h1.1.2⟩, trivial⟩
    ·rw [if_neg h3] at he ⊢
     by_cases h5 : y.h.k = 5 ∨ y.h.k = 6 ∨ y.h.k = 7
     ·rw [if_pos h5] at he; cases he
     ·rw [if_neg h5]; exact decide_eq_true ⟨rfl, rfl, rfl, rfl, rfl⟩
  ·rw [if_neg hty] at he; cases he
end Go.Proofs.YtdbijkgnddcneaaGreatDoor
