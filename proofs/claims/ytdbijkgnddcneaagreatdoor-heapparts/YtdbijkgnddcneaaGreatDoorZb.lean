/-
  object and Read at a pointer.
-/
import Derived.Test.YtdbijkgnddcneaaGreatDoorZaJ
namespace Go.Proofs.YtdbijkgnddcneaaGreatDoor
open Go.RowKit Go.ChangeMaps
attribute [local go_sem] refold2 cell3_0 cell3_1 b28_0 b28_01 nz26 nz23 b32_012 b32_015 b30_023 b30_0123 b30_0 b131_0 ta84_84


set_option maxRecDepth 100000 in
set_option maxHeartbeats 4000000 in
theorem object_ptr (hb M : Nat) (vs : List Value) (m ab : Nat) (hm : vs[m]? = some (.iface 84 (.pointer (some ⟨ab, 0, none⟩)))) (t : ByteArray) (pp : Option Addr) (pl pc : Nat) (w : World) (h : HeapAt w hb M vs) (HF0 : ∀ W, Below w.heap.size w W → Calls Tryz.prog 64 #[.pointer (some ⟨hb, 0, none⟩), .agg #[.int .i64 9, .string t, .int .i64 0, .int .u64 0, .string ⟨#[]⟩, .int .i64 ((m : Int) + 1), .int .i64 0, .int .i64 0, .int .i64 0, .slice pp pl pc, .slice none 0 0]] W fun r w' => r = .returned (.bool true) ∧ Below W.heap.size W w') :
    Calls Tryz.prog 44 #[.pointer (some ⟨hb, 0, none⟩), .agg #[.int .i64 9, .string t, .int .i64 0, .int .u64 0, .string ⟨#[]⟩, .int .i64 ((m : Int) + 1), .int .i64 0, .int .i64 0, .int .i64 0, .slice pp pl pc, .slice none 0 0]] w fun r w' => r = .returned (.tuple #[.pointer (some ⟨ab, 0, none⟩), .bool true]) ∧ Below w.heap.size w w' := by
  have HF : Hid _ := HF0
  clear HF0
  go_enter Tryz.func44, Tryz.ntmps44
  go_wp2_with fail
  have u0 := below1 w (.cells #[.int .i64 9, .string t, .int .i64 0, .int .u64 0, .string ⟨#[]⟩, .int .i64 ((m : Int) + 1), .int .i64 0, .int .i64 0, .int .i64 0, .slice pp pl pc, .slice none 0 0] 32)
  obtain ⟨U0, hU0⟩ : ∃ W, W = w.alloc (.cells #[.int .i64 9, .string t, .int .i64 0, .int .u64 0, .string ⟨#[]⟩, .int .i64 ((m : Int) + 1), .int .i64 0, .int .i64 0, .int .i64 0, .slice pp pl pc, .slice none 0 0] 32) := ⟨_, rfl⟩
  rw [← hU0] at u0 ⊢
  have b0 : U0.heap[w.heap.size]? = some (.cells #[.int .i64 9, .string t, .int .i64 0, .int .u64 0, .string ⟨#[]⟩, .int .i64 ((m : Int) + 1), .int .i64 0, .int .i64 0, .int .i64 0, .slice pp pl pc, .slice none 0 0] 32) := by rw [hU0]; exact heap_alloc_new _ _
  clear hU0
  refine (HF.out U0 u0).mono ?_
  rintro _ U1 ⟨rfl, c1⟩
  have u1 : Below w.heap.size w U1 := u0.trans (c1.mono u0.size)
  have b1 : U1.heap[w.heap.size]? = some (.cells #[.int .i64 9, .string t, .int .i64 0, .int .u64 0, .string ⟨#[]⟩, .int .i64 ((m : Int) + 1), .int .i64 0, .int .i64 0, .int .i64 0, .slice pp pl pc, .slice none 0 0] 32) := (c1.block _ (hblk b0)).trans b0
  clear b0 u0 c1
  go_wp2_with fail
  refine wp_region_noPanic ?_
  refine wp_region_held (S := fun W => (∀ j, W.cell? ⟨w.heap.size, j, none⟩ = (#[.int .i64 9, .string t, .int .i64 0, .int .u64 0, .string ⟨#[]⟩, .int .i64 ((m : Int) + 1), .int .i64 0, .int .i64 0, .int .i64 0, .slice pp pl pc, .slice none 0 0] : Array Value)[j]?) ∧ (∀ j, W.cell? ⟨hb, j, none⟩ = (#[.map (some M), .int .i64 vs.length] : Array Value)[j]?) ∧ HeapAt W hb M vs) (by kernel_rfl) ?_
  obtain ⟨U2, hU2⟩ : ∃ W4, W4 = (U1).drew := ⟨_, rfl⟩
  have e4 : ({ U1 with drawn := (U1).drawn + 1 } : World) = U2 := hU2.symm
  rw [e4]
  have hB4 : Below (U1).heap.size (U1) U2 := by rw [hU2]; exact (Below.refl _ _).drew
  have hS : (∀ j, U2.cell? ⟨w.heap.size, j, none⟩ = (#[.int .i64 9, .string t, .int .i64 0, .int .u64 0, .string ⟨#[]⟩, .int .i64 ((m : Int) + 1), .int .i64 0, .int .i64 0, .int .i64 0, .slice pp pl pc, .slice none 0 0] : Array Value)[j]?) ∧ (∀ j, U2.cell? ⟨hb, j, none⟩ = (#[.map (some M), .int .i64 vs.length] : Array Value)[j]?) ∧ HeapAt U2 hb M vs := ⟨(cells_of ((hB4.block _ (hblk b1)).trans b1)).1, (cells_of ((h.below u1).below hB4).box).1, (h.below u1).below hB4⟩
  have HU2 : Hid (U2 = (U1).drew) := hU2
  clear e4 hU2
  refine wpAnyH_take (i := 0) (v := .pointer (some ⟨hb, 0, none⟩)) rfl (by kernel_rfl) (by kernel_rfl) (by kernel_rfl) (fun _ _ _ h => h) (Or.inl ⟨by rfl, ?r⟩) hS ?_
  case r => intro W hW; simp [go_sem, execOp, Act.eval]
  simp only [List.getElem_toArray, List.getElem_cons_zero, Act.put, List.setIfInBounds_toArray, List.set_cons_succ, List.set_cons_zero]
  refine wpAnyH_take (i := 1) (v := .pointer (some ⟨hb, 0, none⟩)) rfl (by kernel_rfl) (by kernel_rfl) (by kernel_rfl) (fun _ _ _ h => h) (Or.inl ⟨by rfl, ?r⟩) hS ?_
  case r => intro W hW; simp [go_sem, execOp, Act.eval]
  simp only [List.getElem_toArray, List.getElem_cons_zero, List.getElem_cons_succ, Act.put, List.setIfInBounds_toArray, List.set_cons_succ, List.set_cons_zero]
  refine wpAnyH_take (i := 2) (v := .pointer (some ⟨hb, 0, none⟩)) rfl (by kernel_rfl) (by kernel_rfl) (by kernel_rfl) (fun _ _ _ h => h) (Or.inl ⟨by rfl, ?r⟩) hS ?_
  case r => intro W hW; simp [go_sem, execOp, Act.eval]
  simp only [List.getElem_toArray, List.getElem_cons_zero, List.getElem_cons_succ, Act.put, List.setIfInBounds_toArray, List.set_cons_succ, List.set_cons_zero]
  refine wpAnyH_take (i := 3) (v := .map (some M)) rfl (by kernel_rfl) (by kernel_rfl) (by kernel_rfl) (fun _ _ _ h => h) (Or.inl ⟨by rfl, ?r⟩) hS ?_
  case r => intro W hW; simp [go_sem, execOp, Act.eval, hW.2.1]
  simp only [List.getElem_toArray, List.getElem_cons_zero, List.getElem_cons_succ, Act.put, List.setIfInBounds_toArray, List.set_cons_succ, List.set_cons_zero]
  refine wpAnyH_take (i := 4) (v := .pointer (some ⟨w.heap.size, 5, none⟩)) rfl (by kernel_rfl) (by kernel_rfl) (by kernel_rfl) (fun _ _ _ h => h) (Or.inl ⟨by rfl, ?r⟩) hS ?_
  case r => intro W hW; simp [go_sem, execOp, Act.eval]
  simp only [List.getElem_toArray, List.getElem_cons_zero, List.getElem_cons_succ, Act.put, List.setIfInBounds_toArray, List.set_cons_succ, List.set_cons_zero]
  refine wpAnyH_take (i := 5) (v := .pointer (some ⟨w.heap.size, 5, none⟩)) rfl (by kernel_rfl) (by kernel_rfl) (by kernel_rfl) (fun _ _ _ h => h) (Or.inl ⟨by rfl, ?r⟩) hS ?_
  case r => intro W hW; simp [go_sem, execOp, Act.eval]
  simp only [List.getElem_toArray, List.getElem_cons_zero, List.getElem_cons_succ, Act.put, List.setIfInBounds_toArray, List.set_cons_succ, List.set_cons_zero]
  refine wpAnyH_take (i := 6) (v := .int .i64 ((m : Int) + 1)) rfl (by kernel_rfl) (by kernel_rfl) (by kernel_rfl) (fun _ _ _ h => h) (Or.inl ⟨by rfl, ?r⟩) hS ?_
  case r => intro W hW; simp [go_sem, execOp, Act.eval, hW.1]
  simp only [List.getElem_toArray, List.getElem_cons_zero, List.getElem_cons_succ, Act.put, List.setIfInBounds_toArray, List.set_cons_succ, List.set_cons_zero]
  refine wpAnyH_take (i := 7) (v := .iface 84 (.pointer (some ⟨ab, 0, none⟩))) rfl (by kernel_rfl) (by kernel_rfl) (by kernel_rfl) (fun _ _ _ h => h) (Or.inl ⟨by rfl, ?r⟩) hS ?_
  case r => intro W hW; simp [go_sem, execOp, Act.eval, hW.2.2.look hm rfl]
  simp only [List.getElem_toArray, List.getElem_cons_zero, List.getElem_cons_succ, Act.put, List.setIfInBounds_toArray, List.set_cons_succ, List.set_cons_zero]
  refine wpAnyH_take (i := 8) (v := .tuple #[.pointer (some ⟨ab, 0, none⟩), .bool true]) rfl (by kernel_rfl) (by kernel_rfl) (by kernel_rfl) (fun _ _ _ h => h) (Or.inl ⟨by rfl, ?r⟩) hS ?_
  case r => intro W hW; simp [go_sem, execOp, Act.eval]
  simp only [List.getElem_toArray, List.getElem_cons_zero, List.getElem_cons_succ, Act.put, List.setIfInBounds_toArray, List.set_cons_succ, List.set_cons_zero]
  refine wpAnyH_take (i := 9) (v := .tuple #[.pointer (some ⟨ab, 0, none⟩), .bool true]) rfl (by kernel_rfl) (by kernel_rfl) (by kernel_rfl) (fun _ _ _ h => h) (Or.inl ⟨by rfl, ?r⟩) hS ?_
  case r => intro W hW; simp [go_sem, execOp, Act.eval]
  simp only [List.getElem_toArray, List.getElem_cons_zero, List.getElem_cons_succ, Act.put, List.setIfInBounds_toArray, List.set_cons_succ, List.set_cons_zero]
  refine wpAnyH_take (i := 10) (v := .pointer (some ⟨ab, 0, none⟩)) rfl (by kernel_rfl) (by kernel_rfl) (by kernel_rfl) (fun _ _ _ h => h) (Or.inl ⟨by rfl, ?r⟩) hS ?_
  case r => intro W hW; simp [go_sem, execOp, Act.eval]
  simp only [List.getElem_toArray, List.getElem_cons_zero, List.getElem_cons_succ, Act.put, List.setIfInBounds_toArray, List.set_cons_succ, List.set_cons_zero]
  refine wpAnyH_take (i := 11) (v := .bool true) rfl (by kernel_rfl) (by kernel_rfl) (by kernel_rfl) (fun _ _ _ h => h) (Or.inl ⟨by rfl, ?r⟩) hS ?_
  case r => intro W hW; simp [go_sem, execOp, Act.eval]
  simp only [List.getElem_toArray, List.getElem_cons_zero, List.getElem_cons_succ, Act.put, List.setIfInBounds_toArray, List.set_cons_succ, List.set_cons_zero]
  have u2 : Below w.heap.size w U2 := u1.trans (hB4.mono u1.size)
  clear HU2 hB4 b1 u1
  refine wpAnyH_all (rs := [12]) (by kernel_rfl) (by simp) (fun i2 hi2 => ?_)
  obtain rfl : i2 = 12 := by simpa using hi2
  clear hi2
  refine wpOp_step rfl (fun K hK => ite_yes rfl ?_)
  simp only [List.getElem_toArray, List.getElem_cons_zero, List.getElem_cons_succ]
  go_simp
  refine hK _ _ ⟨hS, ?_⟩
  clear hK K
  try simp only [Act.put, List.setIfInBounds_toArray, List.set_cons_succ, List.set_cons_zero]
  refine wpAnyH_all (rs := [13]) (by kernel_rfl) (by simp) (fun i2 hi2 => ?_)
  obtain rfl : i2 = 13 := by simpa using hi2
  clear hi2
  refine wpOp_step rfl (fun K hK => ite_yes rfl ?_)
  simp only [List.getElem_toArray, List.getElem_cons_zero, List.getElem_cons_succ]
  go_simp
  refine hK _ _ ⟨hS, ?_⟩
  clear hK K hS
  try simp only [Act.put, List.setIfInBounds_toArray, List.set_cons_succ, List.set_cons_zero]
  refine wpAnyH_done (by kernel_rfl) ?_ _
  refine NoPanic.normal ?_
  try simp only [Act.put]
  go_wp2_with fail
  exact bodyPost_ret (v := .tuple #[.pointer (some ⟨ab, 0, none⟩), .bool true]) (by simp [results, Tryz.results44, go_sem]) rfl ⟨rfl, u2⟩

set_option maxRecDepth 100000 in
set_option maxHeartbeats 4000000 in
theorem Read_ptr (hb M : Nat) (vs : List Value) (m ab : Nat) (t : ByteArray) (pp : Option Addr) (pl pc : Nat) (h0 h1 h2 h3 h4 h5 h6 h7 h8 h9 h10 : Value) (k a f : Int) (s : ByteArray) (r0 r1 r2 r3 : Int) (qp : Option Addr) (qpath : List Int) (qc : Nat) (ip : Option Addr) (ic : Nat) (items : List MD) (n : Nat) (w : World) (_h : HeapAt w hb M vs) (ha : w.heap[ab]? = some (.cells #[h0, h1, h2, h3, h4, h5, h6, h7, h8, h9, h10] 86)) (HO0 : ∀ W, Below w.heap.size w W → Calls Tryz.prog 44 #[.pointer (some ⟨hb, 0, none⟩), .agg #[.int .i64 9, .string t, .int .i64 0, .int .u64 0, .string ⟨#[]⟩, .int .i64 ((m : Int) + 1), .int .i64 0, .int .i64 0, .int .i64 0, .slice pp pl pc, .slice none 0 0]] W fun r w' => r = .returned (.tuple #[.pointer (some ⟨ab, 0, none⟩), .bool true]) ∧ Below W.heap.size W w') (HP0 : ∀ W, Below w.heap.size w W → Calls Tryz.prog 46 #[.agg #[h0, h1, h2, h3, h4, h5, h6, h7, h8, h9, h10], .slice pp pl pc] W fun r w' => r = .returned (.tuple #[.agg #[.int .i64 k, .string t, .int .i64 a, .int .u64 f, .string s, .int .i64 r0, .int .i64 r1, .int .i64 r2, .int .i64 r3, .slice qp qpath.length qc, .slice ip items.length ic], .bool true]) ∧ Below W.heap.size W w') (hin : MD.In w.heap.size w n ⟨⟨k, t, a, f, s, r0, r1, r2, r3, qp, qpath, qc⟩, ip, ic, items⟩) (hf : MD.full n ⟨⟨k, t, a, f, s, r0, r1, r2, r3, qp, qpath, qc⟩, ip, ic, items⟩ = true) :
    Calls Tryz.prog 17 #[.pointer (some ⟨hb, 0, none⟩), .agg #[.int .i64 9, .string t, .int .i64 0, .int .u64 0, .string ⟨#[]⟩, .int .i64 ((m : Int) + 1), .int .i64 0, .int .i64 0, .int .i64 0, .slice pp pl pc, .slice none 0 0]] w fun r w' => ∃ d : MD, r = .returned (.tuple #[d.val, .nilIface]) ∧ MD.In w'.heap.size w' n d ∧ MD.Above w.heap.size n d ∧ MD.same n ⟨⟨k, t, a, f, s, r0, r1, r2, r3, qp, qpath, qc⟩, ip, ic, items⟩ d = true ∧ Below w.heap.size w w' := by
  have HO : Hid _ := HO0
  have HP : Hid _ := HP0
  clear HO0 HP0
  go_enter Tryz.func17, Tryz.ntmps17
  go_wp2_with fail
  obtain ⟨U0, hU0⟩ : ∃ W, W = (w.alloc (.cells #[.int .i64 9, .string t, .int .i64 0, .int .u64 0, .string ⟨#[]⟩, .int .i64 ((m : Int) + 1), .int .i64 0, .int .i64 0, .int .i64 0, .slice pp pl pc, .slice none 0 0] 32)).alloc (.cells #[.int .i64 0, .string ⟨#[]⟩, .int .i64 0, .int .u64 0, .string ⟨#[]⟩, .int .i64 0, .int .i64 0, .int .i64 0, .int .i64 0, .slice none 0 0, .slice none 0 0] 32) := ⟨_, rfl⟩
  rw [← hU0]
  have u0 : Below w.heap.size w U0 := by rw [hU0]; exact below2 w _ _
  have b0 : U0.heap[w.heap.size]? = some (.cells #[.int .i64 9, .string t, .int .i64 0, .int .u64 0, .string ⟨#[]⟩, .int .i64 ((m : Int) + 1), .int .i64 0, .int .i64 0, .int .i64 0, .slice pp pl pc, .slice none 0 0] 32) := by rw [hU0, Below.heap_alloc _ _ _ (by simp)]; exact heap_alloc_new _ _
  have r0' : U0.heap[w.heap.size + 1]? = some (.cells #[.int .i64 0, .string ⟨#[]⟩, .int .i64 0, .int .u64 0, .string ⟨#[]⟩, .int .i64 0, .int .i64 0, .int .i64 0, .int .i64 0, .slice none 0 0, .slice none 0 0] 32) := by rw [hU0]; exact heap2_1 _ _ _
  clear hU0
  refine (HO.out U0 u0).mono ?_
  rintro _ U2 ⟨rfl, c1⟩
  have u2 : Below w.heap.size w U2 := u0.trans (c1.mono u0.size)
  have b2 : U2.heap[w.heap.size]? = some (.cells #[.int .i64 9, .string t, .int .i64 0, .int .u64 0, .string ⟨#[]⟩, .int .i64 ((m : Int) + 1), .int .i64 0, .int .i64 0, .int .i64 0, .slice pp pl pc, .slice none 0 0] 32) := (c1.block _ (hblk b0)).trans b0
  have r2' : U2.heap[w.heap.size + 1]? = some (.cells #[.int .i64 0, .string ⟨#[]⟩, .int .i64 0, .int .u64 0, .string ⟨#[]⟩, .int .i64 0, .int .i64 0, .int .i64 0, .int .i64 0, .slice none 0 0, .slice none 0 0] 32) := (c1.block _ (hblk r0')).trans r0'
  have a2 : U2.heap[ab]? = _ := (u2.block _ (hblk ha)).trans ha
  clear b0 r0' u0 c1
  have bc2 := (cells_of b2).1
  go_wp2_with fail
  refine wp_region_noPanic ?_
  refine wp_region_held (S := fun W => (∀ j, W.cell? ⟨w.heap.size, j, none⟩ = (#[.int .i64 9, .string t, .int .i64 0, .int .u64 0, .string ⟨#[]⟩, .int .i64 ((m : Int) + 1), .int .i64 0, .int .i64 0, .int .i64 0, .slice pp pl pc, .slice none 0 0] : Array Value)[j]?) ∧ (∀ j, W.cell? ⟨ab, j, none⟩ = (#[h0, h1, h2, h3, h4, h5, h6, h7, h8, h9, h10] : Array Value)[j]?)) (by kernel_rfl) ?_
  obtain ⟨U3, hU3⟩ : ∃ W4, W4 = (U2).drew := ⟨_, rfl⟩
  have e4 : ({ U2 with drawn := (U2).drawn + 1 } : World) = U3 := hU3.symm
  rw [e4]
  have hB4 : Below (U2).heap.size (U2) U3 := by rw [hU3]; exact (Below.refl _ _).drew
  have hS : (∀ j, U3.cell? ⟨w.heap.size, j, none⟩ = (#[.int .i64 9, .string t, .int .i64 0, .int .u64 0, .string ⟨#[]⟩, .int .i64 ((m : Int) + 1), .int .i64 0, .int .i64 0, .int .i64 0, .slice pp pl pc, .slice none 0 0] : Array Value)[j]?) ∧ (∀ j, U3.cell? ⟨ab, j, none⟩ = (#[h0, h1, h2, h3, h4, h5, h6, h7, h8, h9, h10] : Array Value)[j]?) := ⟨(cells_of ((hB4.block _ (hblk b2)).trans b2)).1, (cells_of ((hB4.block _ (hblk a2)).trans a2)).1⟩
  have HU3 : Hid (U3 = (U2).drew) := hU3
  clear e4 hU3
  refine wpAnyH_take (i := 0) (v := .pointer (some ⟨ab, 0, none⟩)) rfl (by kernel_rfl) (by kernel_rfl) (by kernel_rfl) (fun _ _ _ h => h) (Or.inl ⟨by rfl, ?r⟩) hS ?_
  case r => intro W hW; simp [go_sem, execOp, Act.eval]
  simp only [List.getElem_toArray, List.getElem_cons_zero, Act.put, List.setIfInBounds_toArray, List.set_cons_succ, List.set_cons_zero]
  refine wpAnyH_take (i := 1) (v := .pointer (some ⟨ab, 0, none⟩)) rfl (by kernel_rfl) (by kernel_rfl) (by kernel_rfl) (fun _ _ _ h => h) (Or.inl ⟨by rfl, ?r⟩) hS ?_
  case r => intro W hW; simp [go_sem, execOp, Act.eval]
  simp only [List.getElem_toArray, List.getElem_cons_zero, List.getElem_cons_succ, Act.put, List.setIfInBounds_toArray, List.set_cons_succ, List.set_cons_zero]
  refine wpAnyH_take (i := 2) (v := .pointer (some ⟨ab, 0, none⟩)) rfl (by kernel_rfl) (by kernel_rfl) (by kernel_rfl) (fun _ _ _ h => h) (Or.inl ⟨by rfl, ?r⟩) hS ?_
  case r => intro W hW; simp [go_sem, execOp, Act.eval]
  simp only [List.getElem_toArray, List.getElem_cons_zero, List.getElem_cons_succ, Act.put, List.setIfInBounds_toArray, List.set_cons_succ, List.set_cons_zero]
  refine wpAnyH_take (i := 3) (v := .agg #[h0, h1, h2, h3, h4, h5, h6, h7, h8, h9, h10]) rfl (by kernel_rfl) (by kernel_rfl) (by kernel_rfl) (fun _ _ _ h => h) (Or.inl ⟨by rfl, ?r⟩) hS ?_
  case r => intro W hW; simp [go_sem, execOp, Act.eval, hW.2]
  simp only [List.getElem_toArray, List.getElem_cons_zero, List.getElem_cons_succ, Act.put, List.setIfInBounds_toArray, List.set_cons_succ, List.set_cons_zero]
  refine wpAnyH_take (i := 4) (v := .pointer (some ⟨w.heap.size, 5, none⟩)) rfl (by kernel_rfl) (by kernel_rfl) (by kernel_rfl) (fun _ _ _ h => h) (Or.inl ⟨by rfl, ?r⟩) hS ?_
  case r => intro W hW; simp [go_sem, execOp, Act.eval]
  simp only [List.getElem_toArray, List.getElem_cons_zero, List.getElem_cons_succ, Act.put, List.setIfInBounds_toArray, List.set_cons_succ, List.set_cons_zero]
  refine wpAnyH_take (i := 5) (v := .pointer (some ⟨w.heap.size, 9, none⟩)) rfl (by kernel_rfl) (by kernel_rfl) (by kernel_rfl) (fun _ _ _ h => h) (Or.inl ⟨by rfl, ?r⟩) hS ?_
  case r => intro W hW; simp [go_sem, execOp, Act.eval]
  simp only [List.getElem_toArray, List.getElem_cons_zero, List.getElem_cons_succ, Act.put, List.setIfInBounds_toArray, List.set_cons_succ, List.set_cons_zero]
  refine wpAnyH_take (i := 6) (v := .slice pp pl pc) rfl (by kernel_rfl) (by kernel_rfl) (by kernel_rfl) (fun _ _ _ h => h) (Or.inl ⟨by rfl, ?r⟩) hS ?_
  case r => intro W hW; simp [go_sem, execOp, Act.eval, hW.1]
  simp only [List.getElem_toArray, List.getElem_cons_zero, List.getElem_cons_succ, Act.put, List.setIfInBounds_toArray, List.set_cons_succ, List.set_cons_zero]
  have uU3 : Below w.heap.size w U3 := u2.trans (hB4.mono u2.size)
  have bU3 : U3.heap[w.heap.size]? = some (.cells #[.int .i64 9, .string t, .int .i64 0, .int .u64 0, .string ⟨#[]⟩, .int .i64 ((m : Int) + 1), .int .i64 0, .int .i64 0, .int .i64 0, .slice pp pl pc, .slice none 0 0] 32) := (hB4.block _ (hblk b2)).trans b2
  have aU3 : U3.heap[ab]? = some (.cells #[h0, h1, h2, h3, h4, h5, h6, h7, h8, h9, h10] 86) := (hB4.block _ (hblk a2)).trans a2
  have rU3 : U3.heap[w.heap.size + 1]? = some (.cells #[.int .i64 0, .string ⟨#[]⟩, .int .i64 0, .int .u64 0, .string ⟨#[]⟩, .int .i64 0, .int .i64 0, .int .i64 0, .int .i64 0, .slice none 0 0, .slice none 0 0] 32) := (hB4.block _ (hblk r2')).trans r2'
  clear HU3 hB4 b2 a2 r2' u2 bc2
  refine wpAnyH_all (rs := [7, 11]) (by kernel_rfl) (by simp) (fun i2 hi2 => ?_)
  have hi3 : i2 = 7 ∨ i2 = 11 := by simpa using hi2
  clear hi2
  rcases hi3 with rfl | rfl
  · refine wpOp_step rfl (fun K hK => ite_yes rfl ?_)
    simp only [List.getElem_toArray, List.getElem_cons_zero, List.getElem_cons_succ]
    go_simp
    refine (HP.out U3 uU3).mono ?_
    rintro _ V1 ⟨rfl, cV1⟩
    have uV1 : Below w.heap.size w V1 := uU3.trans (cV1.mono uU3.size)
    have bV1 : V1.heap[w.heap.size]? = some (.cells #[.int .i64 9, .string t, .int .i64 0, .int .u64 0, .string ⟨#[]⟩, .int .i64 ((m : Int) + 1), .int .i64 0, .int .i64 0, .int .i64 0, .slice pp pl pc, .slice none 0 0] 32) := (cV1.block _ (hblk bU3)).trans bU3
    have aV1 : V1.heap[ab]? = some (.cells #[h0, h1, h2, h3, h4, h5, h6, h7, h8, h9, h10] 86) := (cV1.block _ (hblk aU3)).trans aU3
    have rV1 : V1.heap[w.heap.size + 1]? = some (.cells #[.int .i64 0, .string ⟨#[]⟩, .int .i64 0, .int .u64 0, .string ⟨#[]⟩, .int .i64 0, .int .i64 0, .int .i64 0, .int .i64 0, .slice none 0 0, .slice none 0 0] 32) := (cV1.block _ (hblk rU3)).trans rU3
    go_simp
    have hSV1 : (∀ j, V1.cell? ⟨w.heap.size, j, none⟩ = (#[.int .i64 9, .string t, .int .i64 0, .int .u64 0, .string ⟨#[]⟩, .int .i64 ((m : Int) + 1), .int .i64 0, .int .i64 0, .int .i64 0, .slice pp pl pc, .slice none 0 0] : Array Value)[j]?) ∧ (∀ j, V1.cell? ⟨ab, j, none⟩ = (#[h0, h1, h2, h3, h4, h5, h6, h7, h8, h9, h10] : Array Value)[j]?) := ⟨(cells_of bV1).1, (cells_of aV1).1⟩
    refine hK _ _ ⟨hSV1, ?_⟩
    clear hK K hS
    have hS := hSV1
    clear hSV1
    try simp only [Act.put, List.setIfInBounds_toArray, List.set_cons_succ, List.set_cons_zero]
    refine wpAnyH_take (i := 8) (v := .tuple #[.agg #[.int .i64 k, .string t, .int .i64 a, .int .u64 f, .string s, .int .i64 r0, .int .i64 r1, .int .i64 r2, .int .i64 r3, .slice qp qpath.length qc, .slice ip items.length ic], .bool true]) rfl (by kernel_rfl) (by kernel_rfl) (by kernel_rfl) (fun _ _ _ h => h) (Or.inl ⟨by rfl, ?r⟩) hS ?_
    case r => intro W hW; simp [go_sem, execOp, Act.eval]
    simp only [List.getElem_toArray, List.getElem_cons_zero, List.getElem_cons_succ, Act.put, List.setIfInBounds_toArray, List.set_cons_succ, List.set_cons_zero]
    refine wpAnyH_take (i := 9) (v := .agg #[.int .i64 k, .string t, .int .i64 a, .int .u64 f, .string s, .int .i64 r0, .int .i64 r1, .int .i64 r2, .int .i64 r3, .slice qp qpath.length qc, .slice ip items.length ic]) rfl (by kernel_rfl) (by kernel_rfl) (by kernel_rfl) (fun _ _ _ h => h) (Or.inl ⟨by rfl, ?r⟩) hS ?_
    case r => intro W hW; simp [go_sem, execOp, Act.eval]
    simp only [List.getElem_toArray, List.getElem_cons_zero, List.getElem_cons_succ, Act.put, List.setIfInBounds_toArray, List.set_cons_succ, List.set_cons_zero]
    refine wpAnyH_take (i := 10) (v := .bool true) rfl (by kernel_rfl) (by kernel_rfl) (by kernel_rfl) (fun _ _ _ h => h) (Or.inl ⟨by rfl, ?r⟩) hS ?_
    case r => intro W hW; simp [go_sem, execOp, Act.eval]
    simp only [List.getElem_toArray, List.getElem_cons_zero, List.getElem_cons_succ, Act.put, List.setIfInBounds_toArray, List.set_cons_succ, List.set_cons_zero]
    refine wpAnyH_all (rs := [11]) (by kernel_rfl) (by simp) (fun i2 hi2 => ?_)
    obtain rfl : i2 = 11 := by simpa using hi2
    clear hi2
    refine wpOp_step rfl (fun K hK => ite_yes rfl ?_)
    simp only [List.getElem_toArray, List.getElem_cons_zero, List.getElem_cons_succ]
    go_simp
    obtain ⟨V2, hV2⟩ : ∃ W, W = V1.alloc (.cells #[.int .i64 0, .string ⟨#[]⟩, .int .i64 0, .int .u64 0, .string ⟨#[]⟩, .int .i64 0, .int .i64 0, .int .i64 0, .int .i64 0, .slice none 0 0, .slice none 0 0] 32) := ⟨_, rfl⟩
    rw [← hV2]
    have cV2 : Below V1.heap.size V1 V2 := by rw [hV2]; exact below1 _ _
    have nV2 : V2.heap[V1.heap.size]? = some (.cells #[.int .i64 0, .string ⟨#[]⟩, .int .i64 0, .int .u64 0, .string ⟨#[]⟩, .int .i64 0, .int .i64 0, .int .i64 0, .int .i64 0, .slice none 0 0, .slice none 0 0] 32) := by rw [hV2]; exact heap_alloc_new _ _
    clear hV2
    have uV2 : Below w.heap.size w V2 := uV1.trans (cV2.mono uV1.size)
    have bV2 : V2.heap[w.heap.size]? = some (.cells #[.int .i64 9, .string t, .int .i64 0, .int .u64 0, .string ⟨#[]⟩, .int .i64 ((m : Int) + 1), .int .i64 0, .int .i64 0, .int .i64 0, .slice pp pl pc, .slice none 0 0] 32) := (cV2.block _ (hblk bV1)).trans bV1
    have aV2 : V2.heap[ab]? = some (.cells #[h0, h1, h2, h3, h4, h5, h6, h7, h8, h9, h10] 86) := (cV2.block _ (hblk aV1)).trans aV1
    have rV2 : V2.heap[w.heap.size + 1]? = some (.cells #[.int .i64 0, .string ⟨#[]⟩, .int .i64 0, .int .u64 0, .string ⟨#[]⟩, .int .i64 0, .int .i64 0, .int .i64 0, .int .i64 0, .slice none 0 0, .slice none 0 0] 32) := (cV2.block _ (hblk rV1)).trans rV1
    have hSV2 : (∀ j, V2.cell? ⟨w.heap.size, j, none⟩ = (#[.int .i64 9, .string t, .int .i64 0, .int .u64 0, .string ⟨#[]⟩, .int .i64 ((m : Int) + 1), .int .i64 0, .int .i64 0, .int .i64 0, .slice pp pl pc, .slice none 0 0] : Array Value)[j]?) ∧ (∀ j, V2.cell? ⟨ab, j, none⟩ = (#[h0, h1, h2, h3, h4, h5, h6, h7, h8, h9, h10] : Array Value)[j]?) := ⟨(cells_of bV2).1, (cells_of aV2).1⟩
    refine hK _ _ ⟨hSV2, ?_⟩
    clear hK K hS
    have hS := hSV2
    clear hSV2
    try simp only [Act.put, List.setIfInBounds_toArray, List.set_cons_succ, List.set_cons_zero]
    have hnb : w.heap.size + 1 < V1.heap.size ∧ ab < V1.heap.size := ⟨hblk rV1, hblk aV1⟩
    obtain ⟨nc, nf⟩ := cells_of nV2
    refine wpAnyH_all (rs := [12]) (by kernel_rfl) (by simp) (fun i2 hi2 => ?_)
    obtain rfl : i2 = 12 := by simpa using hi2
    clear hi2
    refine wpOp_step rfl (fun K hK => ite_yes rfl ?_)
    simp only [List.getElem_toArray, List.getElem_cons_zero, List.getElem_cons_succ]
    go_simp
    have kV3 := kp_eleven V2 (V1.heap.size) (.int .i64 k) (.string t) (.int .i64 a) (.int .u64 f) (.string s) (.int .i64 r0) (.int .i64 r1) (.int .i64 r2) (.int .i64 r3) (.slice qp qpath.length qc) (.slice ip items.length ic)
    have hrV3 := eleven_set nV2 (.int .i64 k) (.string t) (.int .i64 a) (.int .u64 f) (.string s) (.int .i64 r0) (.int .i64 r1) (.int .i64 r2) (.int .i64 r3) (.slice qp qpath.length qc) (.slice ip items.length ic)
    obtain ⟨V3, hV3⟩ : ∃ W, W = (((((((((((V2.setCell ⟨V1.heap.size, 0, none⟩ (.int .i64 k)).setCell ⟨V1.heap.size, 1, none⟩ (.string t)).setCell ⟨V1.heap.size, 2, none⟩ (.int .i64 a)).setCell ⟨V1.heap.size, 3, none⟩ (.int .u64 f)).setCell ⟨V1.heap.size, 4, none⟩ (.string s)).setCell ⟨V1.heap.size, 5, none⟩ (.int .i64 r0)).setCell ⟨V1.heap.size, 6, none⟩ (.int .i64 r1)).setCell ⟨V1.heap.size, 7, none⟩ (.int .i64 r2)).setCell ⟨V1.heap.size, 8, none⟩ (.int .i64 r3)).setCell ⟨V1.heap.size, 9, none⟩ (.slice qp qpath.length qc)).setCell ⟨V1.heap.size, 10, none⟩ (.slice ip items.length ic)) := ⟨_, rfl⟩
    rw [← hV3] at kV3 hrV3 ⊢
    clear hV3
    have rcV3 := (cells_of hrV3).1
    have uV3 : Below w.heap.size w V3 := uV2.trans (kV3.below uV2.size fun i hi e => by have := hnb; omega)
    have bV3 : V3.heap[w.heap.size]? = some (.cells #[.int .i64 9, .string t, .int .i64 0, .int .u64 0, .string ⟨#[]⟩, .int .i64 ((m : Int) + 1), .int .i64 0, .int .i64 0, .int .i64 0, .slice pp pl pc, .slice none 0 0] 32) := (kV3.block _ (hblk bV2) (fun e => by have := hnb; omega)).trans bV2
    have aV3 : V3.heap[ab]? = some (.cells #[h0, h1, h2, h3, h4, h5, h6, h7, h8, h9, h10] 86) := (kV3.block _ (hblk aV2) (fun e => by have := hnb; omega)).trans aV2
    have rV3 : V3.heap[w.heap.size + 1]? = some (.cells #[.int .i64 0, .string ⟨#[]⟩, .int .i64 0, .int .u64 0, .string ⟨#[]⟩, .int .i64 0, .int .i64 0, .int .i64 0, .int .i64 0, .slice none 0 0, .slice none 0 0] 32) := (kV3.block _ (hblk rV2) (fun e => by have := hnb; omega)).trans rV2
    have hSV3 : (∀ j, V3.cell? ⟨w.heap.size, j, none⟩ = (#[.int .i64 9, .string t, .int .i64 0, .int .u64 0, .string ⟨#[]⟩, .int .i64 ((m : Int) + 1), .int .i64 0, .int .i64 0, .int .i64 0, .slice pp pl pc, .slice none 0 0] : Array Value)[j]?) ∧ (∀ j, V3.cell? ⟨ab, j, none⟩ = (#[h0, h1, h2, h3, h4, h5, h6, h7, h8, h9, h10] : Array Value)[j]?) := ⟨(cells_of bV3).1, (cells_of aV3).1⟩
    refine hK _ _ ⟨hSV3, ?_⟩
    clear hK K hS
    have hS := hSV3
    clear hSV3
    try simp only [Act.put, List.setIfInBounds_toArray, List.set_cons_succ, List.set_cons_zero]
    refine wpAnyH_all (rs := [13]) (by kernel_rfl) (by simp) (fun i2 hi2 => ?_)
    obtain rfl : i2 = 13 := by simpa using hi2
    clear hi2
    refine wpOp_step rfl (fun K hK => ite_yes rfl ?_)
    simp only [List.getElem_toArray, List.getElem_cons_zero, List.getElem_cons_succ]
    go_simp
    refine hK _ _ ⟨hS, ?_⟩
    clear hK K hS
    try simp only [Act.put, List.setIfInBounds_toArray, List.set_cons_succ, List.set_cons_zero]
    refine wpAnyH_done (by kernel_rfl) ?_ _
    refine NoPanic.normal ?_
    try simp only [Act.put]
    go_wp2_with fail
    clear HP HO
    refine ((copiedH_any n) ⟨⟨k, t, a, f, s, r0, r1, r2, r3, qp, qpath, qc⟩, ip, ic, items⟩ V3 (MD.In.mono uV3.size n _ (MD.In.below uV3 n _ hin)) hf).mono ?_
    rintro _ X1 ⟨⟨⟨k1, t1, a1, f1, s1, x0, x1, x2, x3, pp1, path1, pc1⟩, ip1, ic1, items1⟩, rfl, di, dab, ds, cX1, _⟩
    have uX1 : Below w.heap.size w X1 := uV3.trans (cX1.mono uV3.size)
    have rX1 : X1.heap[w.heap.size + 1]? = some (.cells #[.int .i64 0, .string ⟨#[]⟩, .int .i64 0, .int .u64 0, .string ⟨#[]⟩, .int .i64 0, .int .i64 0, .int .i64 0, .int .i64 0, .slice none 0 0, .slice none 0 0] 32) := (cX1.block _ (hblk rV3)).trans rV3
    have zX1 : w.heap.size + 1 < V3.heap.size := hblk rV3
    obtain ⟨rcX1, rfX1⟩ := cells_of rX1
    have HI : Hid _ := di
    have HS2 : Hid _ := ds
    have HA2 : Hid _ := dab
    clear di ds dab
    simp only [MD.val, D]
    go_wp2_with fail
    have kX2 := kp_eleven X1 (w.heap.size + 1) (.int .i64 k1) (.string t1) (.int .i64 a1) (.int .u64 f1) (.string s1) (.int .i64 x0) (.int .i64 x1) (.int .i64 x2) (.int .i64 x3) (.slice pp1 path1.length pc1) (.slice ip1 items1.length ic1)
    have hrX2 := eleven_set rX1 (.int .i64 k1) (.string t1) (.int .i64 a1) (.int .u64 f1) (.string s1) (.int .i64 x0) (.int .i64 x1) (.int .i64 x2) (.int .i64 x3) (.slice pp1 path1.length pc1) (.slice ip1 items1.length ic1)
    obtain ⟨X2, hX2⟩ : ∃ W, W = (((((((((((X1.setCell ⟨w.heap.size + 1, 0, none⟩ (.int .i64 k1)).setCell ⟨w.heap.size + 1, 1, none⟩ (.string t1)).setCell ⟨w.heap.size + 1, 2, none⟩ (.int .i64 a1)).setCell ⟨w.heap.size + 1, 3, none⟩ (.int .u64 f1)).setCell ⟨w.heap.size + 1, 4, none⟩ (.string s1)).setCell ⟨w.heap.size + 1, 5, none⟩ (.int .i64 x0)).setCell ⟨w.heap.size + 1, 6, none⟩ (.int .i64 x1)).setCell ⟨w.heap.size + 1, 7, none⟩ (.int .i64 x2)).setCell ⟨w.heap.size + 1, 8, none⟩ (.int .i64 x3)).setCell ⟨w.heap.size + 1, 9, none⟩ (.slice pp1 path1.length pc1)).setCell ⟨w.heap.size + 1, 10, none⟩ (.slice ip1 items1.length ic1)) := ⟨_, rfl⟩
    rw [← hX2] at kX2 hrX2 ⊢
    clear hX2
    have rcX2 := (cells_of hrX2).1
    have uX2 : Below w.heap.size w X2 := uX1.trans (kX2.below uX1.size fun i hi e => by omega)
    have di2 := MD.In.mono kX2.size n _ (MD.In.aloft (fun b hlo hB => kX2.block b hB (by omega)) n _ HI.out HA2.out)
    exact bodyPost_ret (v := .tuple #[(⟨⟨k1, t1, a1, f1, s1, x0, x1, x2, x3, pp1, path1, pc1⟩, ip1, ic1, items1⟩ : MD).val, .nilIface]) (by simp [results, Tryz.results17, go_sem, rcX2, MD.val, D]) rfl ⟨_, rfl, di2, MD.Above.mono (by omega) n _ HA2.out, HS2.out, uX2⟩
  · refine wpOp_step rfl (fun K hK => ite_yes rfl ?_)
    simp only [List.getElem_toArray, List.getElem_cons_zero, List.getElem_cons_succ]
    go_simp
    obtain ⟨V1, hV1⟩ : ∃ W, W = U3.alloc (.cells #[.int .i64 0, .string ⟨#[]⟩, .int .i64 0, .int .u64 0, .string ⟨#[]⟩, .int .i64 0, .int .i64 0, .int .i64 0, .int .i64 0, .slice none 0 0, .slice none 0 0] 32) := ⟨_, rfl⟩
    rw [← hV1]
    have cV1 : Below U3.heap.size U3 V1 := by rw [hV1]; exact below1 _ _
    have nV1 : V1.heap[U3.heap.size]? = some (.cells #[.int .i64 0, .string ⟨#[]⟩, .int .i64 0, .int .u64 0, .string ⟨#[]⟩, .int .i64 0, .int .i64 0, .int .i64 0, .int .i64 0, .slice none 0 0, .slice none 0 0] 32) := by rw [hV1]; exact heap_alloc_new _ _
    clear hV1
    have uV1 : Below w.heap.size w V1 := uU3.trans (cV1.mono uU3.size)
    have bV1 : V1.heap[w.heap.size]? = some (.cells #[.int .i64 9, .string t, .int .i64 0, .int .u64 0, .string ⟨#[]⟩, .int .i64 ((m : Int) + 1), .int .i64 0, .int .i64 0, .int .i64 0, .slice pp pl pc, .slice none 0 0] 32) := (cV1.block _ (hblk bU3)).trans bU3
    have aV1 : V1.heap[ab]? = some (.cells #[h0, h1, h2, h3, h4, h5, h6, h7, h8, h9, h10] 86) := (cV1.block _ (hblk aU3)).trans aU3
    have rV1 : V1.heap[w.heap.size + 1]? = some (.cells #[.int .i64 0, .string ⟨#[]⟩, .int .i64 0, .int .u64 0, .string ⟨#[]⟩, .int .i64 0, .int .i64 0, .int .i64 0, .int .i64 0, .slice none 0 0, .slice none 0 0] 32) := (cV1.block _ (hblk rU3)).trans rU3
    have hSV1 : (∀ j, V1.cell? ⟨w.heap.size, j, none⟩ = (#[.int .i64 9, .string t, .int .i64 0, .int .u64 0, .string ⟨#[]⟩, .int .i64 ((m : Int) + 1), .int .i64 0, .int .i64 0, .int .i64 0, .slice pp pl pc, .slice none 0 0] : Array Value)[j]?) ∧ (∀ j, V1.cell? ⟨ab, j, none⟩ = (#[h0, h1, h2, h3, h4, h5, h6, h7, h8, h9, h10] : Array Value)[j]?) := ⟨(cells_of bV1).1, (cells_of aV1).1⟩
    refine hK _ _ ⟨hSV1, ?_⟩
    clear hK K hS
    have hS := hSV1
    clear hSV1
    try simp only [Act.put, List.setIfInBounds_toArray, List.set_cons_succ, List.set_cons_zero]
    refine wpAnyH_all (rs := [7]) (by kernel_rfl) (by simp) (fun i2 hi2 => ?_)
    obtain rfl : i2 = 7 := by simpa using hi2
    clear hi2
    refine wpOp_step rfl (fun K hK => ite_yes rfl ?_)
    simp only [List.getElem_toArray, List.getElem_cons_zero, List.getElem_cons_succ]
    go_simp
    refine (HP.out V1 uV1).mono ?_
    rintro _ V2 ⟨rfl, cV2⟩
    have uV2 : Below w.heap.size w V2 := uV1.trans (cV2.mono uV1.size)
    have bV2 : V2.heap[w.heap.size]? = some (.cells #[.int .i64 9, .string t, .int .i64 0, .int .u64 0, .string ⟨#[]⟩, .int .i64 ((m : Int) + 1), .int .i64 0, .int .i64 0, .int .i64 0, .slice pp pl pc, .slice none 0 0] 32) := (cV2.block _ (hblk bV1)).trans bV1
    have aV2 : V2.heap[ab]? = some (.cells #[h0, h1, h2, h3, h4, h5, h6, h7, h8, h9, h10] 86) := (cV2.block _ (hblk aV1)).trans aV1
    have rV2 : V2.heap[w.heap.size + 1]? = some (.cells #[.int .i64 0, .string ⟨#[]⟩, .int .i64 0, .int .u64 0, .string ⟨#[]⟩, .int .i64 0, .int .i64 0, .int .i64 0, .int .i64 0, .slice none 0 0, .slice none 0 0] 32) := (cV2.block _ (hblk rV1)).trans rV1
    have nV2 : V2.heap[U3.heap.size]? = _ := (cV2.block _ (hblk nV1)).trans nV1
    go_simp
    have hSV2 : (∀ j, V2.cell? ⟨w.heap.size, j, none⟩ = (#[.int .i64 9, .string t, .int .i64 0, .int .u64 0, .string ⟨#[]⟩, .int .i64 ((m : Int) + 1), .int .i64 0, .int .i64 0, .int .i64 0, .slice pp pl pc, .slice none 0 0] : Array Value)[j]?) ∧ (∀ j, V2.cell? ⟨ab, j, none⟩ = (#[h0, h1, h2, h3, h4, h5, h6, h7, h8, h9, h10] : Array Value)[j]?) := ⟨(cells_of bV2).1, (cells_of aV2).1⟩
    refine hK _ _ ⟨hSV2, ?_⟩
    clear hK K hS
    have hS := hSV2
    clear hSV2
    try simp only [Act.put, List.setIfInBounds_toArray, List.set_cons_succ, List.set_cons_zero]
    refine wpAnyH_take (i := 8) (v := .tuple #[.agg #[.int .i64 k, .string t, .int .i64 a, .int .u64 f, .string s, .int .i64 r0, .int .i64 r1, .int .i64 r2, .int .i64 r3, .slice qp qpath.length qc, .slice ip items.length ic], .bool true]) rfl (by kernel_rfl) (by kernel_rfl) (by kernel_rfl) (fun _ _ _ h => h) (Or.inl ⟨by rfl, ?r⟩) hS ?_
    case r => intro W hW; simp [go_sem, execOp, Act.eval]
    simp only [List.getElem_toArray, List.getElem_cons_zero, List.getElem_cons_succ, Act.put, List.setIfInBounds_toArray, List.set_cons_succ, List.set_cons_zero]
    refine wpAnyH_take (i := 9) (v := .agg #[.int .i64 k, .string t, .int .i64 a, .int .u64 f, .string s, .int .i64 r0, .int .i64 r1, .int .i64 r2, .int .i64 r3, .slice qp qpath.length qc, .slice ip items.length ic]) rfl (by kernel_rfl) (by kernel_rfl) (by kernel_rfl) (fun _ _ _ h => h) (Or.inl ⟨by rfl, ?r⟩) hS ?_
    case r => intro W hW; simp [go_sem, execOp, Act.eval]
    simp only [List.getElem_toArray, List.getElem_cons_zero, List.getElem_cons_succ, Act.put, List.setIfInBounds_toArray, List.set_cons_succ, List.set_cons_zero]
    refine wpAnyH_take (i := 10) (v := .bool true) rfl (by kernel_rfl) (by kernel_rfl) (by kernel_rfl) (fun _ _ _ h => h) (Or.inl ⟨by rfl, ?r⟩) hS ?_
    case r => intro W hW; simp [go_sem, execOp, Act.eval]
    simp only [List.getElem_toArray, List.getElem_cons_zero, List.getElem_cons_succ, Act.put, List.setIfInBounds_toArray, List.set_cons_succ, List.set_cons_zero]
    have hnb : w.heap.size + 1 < U3.heap.size ∧ ab < U3.heap.size := ⟨hblk rU3, hblk aU3⟩
    obtain ⟨nc, nf⟩ := cells_of nV2
    refine wpAnyH_all (rs := [12]) (by kernel_rfl) (by simp) (fun i2 hi2 => ?_)
    obtain rfl : i2 = 12 := by simpa using hi2
    clear hi2
    refine wpOp_step rfl (fun K hK => ite_yes rfl ?_)
    simp only [List.getElem_toArray, List.getElem_cons_zero, List.getElem_cons_succ]
    go_simp
    have kV3 := kp_eleven V2 (U3.heap.size) (.int .i64 k) (.string t) (.int .i64 a) (.int .u64 f) (.string s) (.int .i64 r0) (.int .i64 r1) (.int .i64 r2) (.int .i64 r3) (.slice qp qpath.length qc) (.slice ip items.length ic)
    have hrV3 := eleven_set nV2 (.int .i64 k) (.string t) (.int .i64 a) (.int .u64 f) (.string s) (.int .i64 r0) (.int .i64 r1) (.int .i64 r2) (.int .i64 r3) (.slice qp qpath.length qc) (.slice ip items.length ic)
    obtain ⟨V3, hV3⟩ : ∃ W, W = (((((((((((V2.setCell ⟨U3.heap.size, 0, none⟩ (.int .i64 k)).setCell ⟨U3.heap.size, 1, none⟩ (.string t)).setCell ⟨U3.heap.size, 2, none⟩ (.int .i64 a)).setCell ⟨U3.heap.size, 3, none⟩ (.int .u64 f)).setCell ⟨U3.heap.size, 4, none⟩ (.string s)).setCell ⟨U3.heap.size, 5, none⟩ (.int .i64 r0)).setCell ⟨U3.heap.size, 6, none⟩ (.int .i64 r1)).setCell ⟨U3.heap.size, 7, none⟩ (.int .i64 r2)).setCell ⟨U3.heap.size, 8, none⟩ (.int .i64 r3)).setCell ⟨U3.heap.size, 9, none⟩ (.slice qp qpath.length qc)).setCell ⟨U3.heap.size, 10, none⟩ (.slice ip items.length ic)) := ⟨_, rfl⟩
    rw [← hV3] at kV3 hrV3 ⊢
    clear hV3
    have rcV3 := (cells_of hrV3).1
    have uV3 : Below w.heap.size w V3 := uV2.trans (kV3.below uV2.size fun i hi e => by have := hnb; omega)
    have bV3 : V3.heap[w.heap.size]? = some (.cells #[.int .i64 9, .string t, .int .i64 0, .int .u64 0, .string ⟨#[]⟩, .int .i64 ((m : Int) + 1), .int .i64 0, .int .i64 0, .int .i64 0, .slice pp pl pc, .slice none 0 0] 32) := (kV3.block _ (hblk bV2) (fun e => by have := hnb; omega)).trans bV2
    have aV3 : V3.heap[ab]? = some (.cells #[h0, h1, h2, h3, h4, h5, h6, h7, h8, h9, h10] 86) := (kV3.block _ (hblk aV2) (fun e => by have := hnb; omega)).trans aV2
    have rV3 : V3.heap[w.heap.size + 1]? = some (.cells #[.int .i64 0, .string ⟨#[]⟩, .int .i64 0, .int .u64 0, .string ⟨#[]⟩, .int .i64 0, .int .i64 0, .int .i64 0, .int .i64 0, .slice none 0 0, .slice none 0 0] 32) := (kV3.block _ (hblk rV2) (fun e => by have := hnb; omega)).trans rV2
    have hSV3 : (∀ j, V3.cell? ⟨w.heap.size, j, none⟩ = (#[.int .i64 9, .string t, .int .i64 0, .int .u64 0, .string ⟨#[]⟩, .int .i64 ((m : Int) + 1), .int .i64 0, .int .i64 0, .int .i64 0, .slice pp pl pc, .slice none 0 0] : Array Value)[j]?) ∧ (∀ j, V3.cell? ⟨ab, j, none⟩ = (#[h0, h1, h2, h3, h4, h5, h6, h7, h8, h9, h10] : Array Value)[j]?) := ⟨(cells_of bV3).1, (cells_of aV3).1⟩
    refine hK _ _ ⟨hSV3, ?_⟩
    clear hK K hS
    have hS := hSV3
    clear hSV3
    try simp only [Act.put, List.setIfInBounds_toArray, List.set_cons_succ, List.set_cons_zero]
    refine wpAnyH_all (rs := [13]) (by kernel_rfl) (by simp) (fun i2 hi2 => ?_)
    obtain rfl : i2 = 13 := by simpa using hi2
    clear hi2
    refine wpOp_step rfl (fun K hK => ite_yes rfl ?_)
    simp only [List.getElem_toArray, List.getElem_cons_zero, List.getElem_cons_succ]
    go_simp
    refine hK _ _ ⟨hS, ?_⟩
    clear hK K hS
    try simp only [Act.put, List.setIfInBounds_toArray, List.set_cons_succ, List.set_cons_zero]
    refine wpAnyH_done (by kernel_rfl) ?_ _
    refine NoPanic.normal ?_
    try simp only [Act.put]
    go_wp2_with fail
    clear HP HO
    refine ((copiedH_any n) ⟨⟨k, t, a, f, s, r0, r1, r2, r3, qp, qpath, qc⟩, ip, ic, items⟩ V3 (MD.In.mono uV3.size n _ (MD.In.below uV3 n _ hin)) hf).mono ?_
    rintro _ X1 ⟨⟨⟨k1, t1, a1, f1, s1, x0, x1, x2, x3, pp1, path1, pc1⟩, ip1, ic1, items1⟩, rfl, di, dab, ds, cX1, _⟩
    have uX1 : Below w.heap.size w X1 := uV3.trans (cX1.mono uV3.size)
    have rX1 : X1.heap[w.heap.size + 1]? = some (.cells #[.int .i64 0, .string ⟨#[]⟩, .int .i64 0, .int .u64 0, .string ⟨#[]⟩, .int .i64 0, .int .i64 0, .int .i64 0, .int .i64 0, .slice none 0 0, .slice none 0 0] 32) := (cX1.block _ (hblk rV3)).trans rV3
    have zX1 : w.heap.size + 1 < V3.heap.size := hblk rV3
    obtain ⟨rcX1, rfX1⟩ := cells_of rX1
    have HI : Hid _ := di
    have HS2 : Hid _ := ds
    have HA2 : Hid _ := dab
    clear di ds dab
    simp only [MD.val, D]
    go_wp2_with fail
    have kX2 := kp_eleven X1 (w.heap.size + 1) (.int .i64 k1) (.string t1) (.int .i64 a1) (.int .u64 f1) (.string s1) (.int .i64 x0) (.int .i64 x1) (.int .i64 x2) (.int .i64 x3) (.slice pp1 path1.length pc1) (.slice ip1 items1.length ic1)
    have hrX2 := eleven_set rX1 (.int .i64 k1) (.string t1) (.int .i64 a1) (.int .u64 f1) (.string s1) (.int .i64 x0) (.int .i64 x1) (.int .i64 x2) (.int .i64 x3) (.slice pp1 path1.length pc1) (.slice ip1 items1.length ic1)
    obtain ⟨X2, hX2⟩ : ∃ W, W = (((((((((((X1.setCell ⟨w.heap.size + 1, 0, none⟩ (.int .i64 k1)).setCell ⟨w.heap.size + 1, 1, none⟩ (.string t1)).setCell ⟨w.heap.size + 1, 2, none⟩ (.int .i64 a1)).setCell ⟨w.heap.size + 1, 3, none⟩ (.int .u64 f1)).setCell ⟨w.heap.size + 1, 4, none⟩ (.string s1)).setCell ⟨w.heap.size + 1, 5, none⟩ (.int .i64 x0)).setCell ⟨w.heap.size + 1, 6, none⟩ (.int .i64 x1)).setCell ⟨w.heap.size + 1, 7, none⟩ (.int .i64 x2)).setCell ⟨w.heap.size + 1, 8, none⟩ (.int .i64 x3)).setCell ⟨w.heap.size + 1, 9, none⟩ (.slice pp1 path1.length pc1)).setCell ⟨w.heap.size + 1, 10, none⟩ (.slice ip1 items1.length ic1)) := ⟨_, rfl⟩
    rw [← hX2] at kX2 hrX2 ⊢
    clear hX2
    have rcX2 := (cells_of hrX2).1
    have uX2 : Below w.heap.size w X2 := uX1.trans (kX2.below uX1.size fun i hi e => by omega)
    have di2 := MD.In.mono kX2.size n _ (MD.In.aloft (fun b hlo hB => kX2.block b hB (by omega)) n _ HI.out HA2.out)
    exact bodyPost_ret (v := .tuple #[(⟨⟨k1, t1, a1, f1, s1, x0, x1, x2, x3, pp1, path1, pc1⟩, ip1, ic1, items1⟩ : MD).val, .nilIface]) (by simp [results, Tryz.results17, go_sem, rcX2, MD.val, D]) rfl ⟨_, rfl, di2, MD.Above.mono (by omega) n _ HA2.out, HS2.out, uX2⟩
end Go.Proofs.YtdbijkgnddcneaaGreatDoor
