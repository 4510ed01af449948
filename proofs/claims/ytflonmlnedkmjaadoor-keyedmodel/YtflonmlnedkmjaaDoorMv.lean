/-
  now, told, whole.
-/
import Derived.Test.YtflonmlnedkmjaaDoorMuJ
import Derived.Test.YtflonmlnedkmjaaDoorMf
namespace Go.Proofs.YtflonmlnedkmjaaDoor
open Go.RowKit
variable {n : Nat} {w w' : World} {m : Nat} {es A B : List Ent} {e : Ent} {G : KG}
/-- An int, a text. -/
def wholeD (z : Int) : MD := ⟨⟨2, ⟨#[105, 110, 116]⟩, z, 0, ⟨#[]⟩, 0, 0, 0, 0, none, [], 0⟩, none, 0, []⟩
def textD (s : ByteArray) : MD := ⟨⟨4, ⟨#[116, 101, 120, 116]⟩, 0, 0, s, 0, 0, 0, 0, none, [], 0⟩, none, 0, []⟩
set_option maxRecDepth 100000 in
theorem whole_val (z : Int) (w : World) : Calls Tryd.prog 10 #[.int .i64 z] w fun r w' => r = .returned (wholeD z).val ∧ Below w.heap.size w w' := by
  simp only [wholeD, MD.val, D]
  go_enter Tryd.func10, Tryd.ntmps10
  go_wp2_with fail
  refine bodyPost_ret (v := .agg #[.int .i64 2, .string ⟨#[105, 110, 116]⟩, .int .i64 z, .int .u64 0, .string ⟨#[]⟩, .int .i64 0, .int .i64 0, .int .i64 0, .int .i64 0, .slice none 0 0, .slice none 0 0]) (by simp [results, Tryd.results10, go_sem]) rfl ⟨rfl, below1 _ _⟩
set_option maxRecDepth 100000 in
theorem now_live {kp vp : Value} {h : Int} {nx : Option Nat} {bf bh b : Nat} (he : EntAt w b kp vp h nx bf bh false) : Calls Tryd.prog 30 #[.pointer (some ⟨m, 0, none⟩), .pointer (some ⟨b, 0, none⟩)] w fun r w' => r = .returned (.pointer (some ⟨b, 0, none⟩)) ∧ w' = w := by
  have hce := he.cell
  have ze := row_ltT he
  clear he
  go_enter Tryd.func30, Tryd.ntmps30
  go_wp2_with fail
  go_ret
  exact ⟨rfl, rfl⟩
set_option maxRecDepth 100000 in
set_option maxHeartbeats 4000000 in
theorem now_gone {kb : Nat} {vp : Value} {k : MD} {nx : Option Nat} {bf bh b : Nat} (h : KM n w m es G) (hN : NamesAt w) (hb : Box w n kb k) (hr : MD.right n k = true) (he : EntAt w b (.pointer (some ⟨kb, 0, none⟩)) vp (MD.hash n seed k) nx bf bh true) :
    Calls Tryd.prog 30 #[.pointer (some ⟨m, 0, none⟩), .pointer (some ⟨b, 0, none⟩)] w fun r w' => FindP n es k r ∧ Below w.heap.size w w' := by
  have HF : Hid (∀ W, Below w.heap.size w W → Calls Tryd.prog 20 #[.pointer (some ⟨m, 0, none⟩), k.val, .int .u64 (MD.hash n seed k)] W fun r w' => FindP n es k r ∧ Below w.heap.size w w') := fun W hW => (find_any n W m es G k _ (hash_ok n k).1 (hash_ok n k).2 (hN.kept hW) (h.keep hW) (hb.inn.later (Nat.le_refl _) hW) hr rfl).mono fun _ _ h => ⟨h.1, hW.trans (h.2.mono hW.size)⟩
  have hcv : ∀ j, w.cell? ⟨kb, j, none⟩ = k.cells[j]? := fun j => row_at hb.cells j
  have zv := row_ltT hb.cells
  have hce := he.cell
  have ze := row_ltT he
  generalize MD.hash n seed k = hv at HF hce
  generalize hQ : (fun r w' => FindP n es k r ∧ Below w.heap.size w w') = Q at HF ⊢
  have HP : Hid (∀ r w', Q r w' → ∃ p, r = .returned (.pointer p)) := fun r w' hq => by
    rw [← hQ] at hq
    rcases hq.1 with ⟨rfl, _⟩ | ⟨e, _, rfl, _⟩ <;> exact ⟨_, rfl⟩
  clear hQ he hb hr h
  obtain ⟨⟨k0, k1, k2, k3, k4, k5, k6, k7, k8, kp, kpath, kpc⟩, kip, kic, kit⟩ := k
  simp only [MD.val, MD.cells, D] at HF hcv
  go_enter Tryd.func30, Tryd.ntmps30
  have HF2 : Hid (∀ W, Below w.heap.size w W → Calls Tryd.prog 20 #[.pointer (some ⟨m, 0, none⟩), .agg #[.int .i64 k0, .string k1, .int .i64 k2, .int .u64 k3, .string k4, .int .i64 k5, .int .i64 k6, .int .i64 k7, .int .i64 k8, .slice kp kpath.length kpc, .slice kip kit.length kic], .int .u64 hv] W fun r w' => ∃ p, r = .returned (.pointer p) ∧ Hid (Q (.returned (.pointer p)) w')) := fun W hW => (HF.out W hW).mono fun r w' hq => by
    obtain ⟨p, rfl⟩ := HP.out r w' hq
    exact ⟨p, rfl, hq⟩
  clear HF HP
  go_wp2_with fail
  go_region_with (go_at_call 20; refine (HF2.out _ ?_).mono ?_; exact (Below.refl _ _).drew; rintro r w1 ⟨p, rfl, HQ⟩)
  all_goals go_wp2_with fail
  all_goals go_ret
  all_goals exact HQ.out
/-- What told answers. -/
def ToldP (n : Nat) (k v : MD) (w : World) (r : Ending) (w' : World) : Prop := ∃ k' v', r = .returned (.tuple #[k'.val, v'.val]) ∧ MD.same n k k' = true ∧ MD.same n v v' = true ∧ MD.In w'.heap.size w' n k' ∧ MD.In w'.heap.size w' n v' ∧ Below w.heap.size w w'
set_option maxRecDepth 100000 in
set_option maxHeartbeats 4000000 in
theorem told_any {kb vb : Nat} {k v : MD} (hb : Box w n kb k) (hv : Box w n vb v) (hrk : MD.right n k = true) (hrv : MD.right n v = true) :
    Calls Tryd.prog 27 #[.agg #[.pointer (some ⟨kb, 0, none⟩), .pointer (some ⟨vb, 0, none⟩)]] w (ToldP n k v w) := by
  have HK : Hid (∀ W, Below w.heap.size w W → Calls Tryd.prog 24 #[k.val] W (CopyG n k W)) := fun W hW => copiedG_any n k W (hb.inn.later (Nat.le_refl _) hW) (right_full hrk)
  have HV : Hid (∀ W, Below w.heap.size w W → Calls Tryd.prog 24 #[v.val] W (CopyG n v W)) := fun W hW => copiedG_any n v W (hv.inn.later (Nat.le_refl _) hW) (right_full hrv)
  have hck : ∀ j, w.cell? ⟨kb, j, none⟩ = k.cells[j]? := fun j => row_at hb.cells j
  have hcv : ∀ j, w.cell? ⟨vb, j, none⟩ = v.cells[j]? := fun j => row_at hv.cells j
  have zk := row_ltT hb.cells
  have zv := row_ltT hv.cells
  clear hb hv hrk hrv
  generalize hQ : ToldP n k v w = Q
  have HQ : Hid (ToldP n k v w = Q) := hQ
  clear hQ
  obtain ⟨⟨a0, a1, a2, a3, a4, a5, a6, a7, a8, ap, apath, apc⟩, aip, aic, ait⟩ := k
  obtain ⟨⟨b0, b1, b2, b3, b4, b5, b6, b7, b8, bp, bpath, bpc⟩, bip, bic, bit⟩ := v
  simp only [MD.val, MD.cells, D] at HK HV hck hcv
  go_enter Tryd.func27, Tryd.ntmps27
  go_wp2_with fail
  obtain ⟨W0, hW0⟩ : ∃ W0, W0 = ((w.alloc (.cells #[.pointer (some ⟨kb, 0, none⟩), .pointer (some ⟨vb, 0, none⟩)] 60)).alloc (.cells #[.int .i64 0, .string ⟨#[]⟩, .int .i64 0, .int .u64 0, .string ⟨#[]⟩, .int .i64 0, .int .i64 0, .int .i64 0, .int .i64 0, .slice none 0 0, .slice none 0 0] 39)).alloc (.cells #[.int .i64 0, .string ⟨#[]⟩, .int .i64 0, .int .u64 0, .string ⟨#[]⟩, .int .i64 0, .int .i64 0, .int .i64 0, .int .i64 0, .slice none 0 0, .slice none 0 0] 39) := ⟨_, rfl⟩
  have b0w : Below w.heap.size w W0 := by rw [hW0]; exact below3 _ _ _ _
  obtain ⟨h30, h31, h32⟩ := heap3 w (.cells #[.pointer (some ⟨kb, 0, none⟩), .pointer (some ⟨vb, 0, none⟩)] 60) (.cells #[.int .i64 0, .string ⟨#[]⟩, .int .i64 0, .int .u64 0, .string ⟨#[]⟩, .int .i64 0, .int .i64 0, .int .i64 0, .int .i64 0, .slice none 0 0, .slice none 0 0] 39) (.cells #[.int .i64 0, .string ⟨#[]⟩, .int .i64 0, .int .u64 0, .string ⟨#[]⟩, .int .i64 0, .int .i64 0, .int .i64 0, .int .i64 0, .slice none 0 0, .slice none 0 0] 39)
  rw [← hW0] at h30 h31 h32 ⊢
  have zW : W0.heap.size = w.heap.size + 3 := by rw [hW0]; simp
  clear hW0
  refine wp_region_noPanic ?_
  refine wp_region_held (S := fun W => W.cell? ⟨w.heap.size, 0, none⟩ = some (.pointer (some ⟨kb, 0, none⟩)) ∧ W.cell? ⟨w.heap.size, 1, none⟩ = some (.pointer (some ⟨vb, 0, none⟩)) ∧ (∀ j, W.cell? ⟨kb, j, none⟩ = (#[.int .i64 a0, .string a1, .int .i64 a2, .int .u64 a3, .string a4, .int .i64 a5, .int .i64 a6, .int .i64 a7, .int .i64 a8, .slice ap apath.length apc, .slice aip ait.length aic] : Array Value)[j]?) ∧ ∀ j, W.cell? ⟨vb, j, none⟩ = (#[.int .i64 b0, .string b1, .int .i64 b2, .int .u64 b3, .string b4, .int .i64 b5, .int .i64 b6, .int .i64 b7, .int .i64 b8, .slice bp bpath.length bpc, .slice bip bit.length bic] : Array Value)[j]?) (by kernel_rfl) ?_
  obtain ⟨V0, hV0⟩ : ∃ W4, W4 = (W0).drew := ⟨_, rfl⟩
  have e4 : ({ W0 with drawn := (W0).drawn + 1 } : World) = V0 := hV0.symm
  rw [e4]
  have hB4 : Below (W0).heap.size (W0) V0 := by rw [hV0]; exact (Below.refl _ _).drew
  have hS : V0.cell? ⟨w.heap.size, 0, none⟩ = some (.pointer (some ⟨kb, 0, none⟩)) ∧ V0.cell? ⟨w.heap.size, 1, none⟩ = some (.pointer (some ⟨vb, 0, none⟩)) ∧ (∀ j, V0.cell? ⟨kb, j, none⟩ = (#[.int .i64 a0, .string a1, .int .i64 a2, .int .u64 a3, .string a4, .int .i64 a5, .int .i64 a6, .int .i64 a7, .int .i64 a8, .slice ap apath.length apc, .slice aip ait.length aic] : Array Value)[j]?) ∧ ∀ j, V0.cell? ⟨vb, j, none⟩ = (#[.int .i64 b0, .string b1, .int .i64 b2, .int .u64 b3, .string b4, .int .i64 b5, .int .i64 b6, .int .i64 b7, .int .i64 b8, .slice bp bpath.length bpc, .slice bip bit.length bic] : Array Value)[j]? := ⟨(hB4.cell (p := ⟨w.heap.size, 0, none⟩) (by show w.heap.size < _; omega)).trans (row_at h30 0), (hB4.cell (p := ⟨w.heap.size, 1, none⟩) (by show w.heap.size < _; omega)).trans (row_at h30 1), fun j => ((b0w.trans (hB4.mono b0w.size)).cell (p := ⟨kb, j, none⟩) zk).trans (hck j), fun j => ((b0w.trans (hB4.mono b0w.size)).cell (p := ⟨vb, j, none⟩) zv).trans (hcv j)⟩
  have HV0 : Hid (V0 = (W0).drew) := hV0
  clear e4 hV0
  refine wpAnyH_take (i := 0) (v := .pointer (some ⟨w.heap.size, 0, none⟩)) rfl (by kernel_rfl) (by kernel_rfl) (by kernel_rfl) (fun _ _ _ h => h) (Or.inl ⟨by rfl, ?r⟩) hS ?_
  case r => intro W hW; simp [go_sem, execOp, Act.eval]
  simp only [List.getElem_toArray, List.getElem_cons_zero, Act.put, List.setIfInBounds_toArray, List.set_cons_succ, List.set_cons_zero]
  refine wpAnyH_take (i := 1) (v := .pointer (some ⟨kb, 0, none⟩)) rfl (by kernel_rfl) (by kernel_rfl) (by kernel_rfl) (fun _ _ _ h => h) (Or.inl ⟨by rfl, ?r⟩) hS ?_
  case r => intro W hW; simp [go_sem, execOp, Act.eval, hW.1]
  simp only [List.getElem_toArray, List.getElem_cons_zero, List.getElem_cons_succ, Act.put, List.setIfInBounds_toArray, List.set_cons_succ, List.set_cons_zero]
  refine wpAnyH_take (i := 2) (v := .pointer (some ⟨kb, 0, none⟩)) rfl (by kernel_rfl) (by kernel_rfl) (by kernel_rfl) (fun _ _ _ h => h) (Or.inl ⟨by rfl, ?r⟩) hS ?_
  case r => intro W hW; simp [go_sem, execOp, Act.eval]
  simp only [List.getElem_toArray, List.getElem_cons_zero, List.getElem_cons_succ, Act.put, List.setIfInBounds_toArray, List.set_cons_succ, List.set_cons_zero]
  refine wpAnyH_take (i := 3) (v := .agg #[.int .i64 a0, .string a1, .int .i64 a2, .int .u64 a3, .string a4, .int .i64 a5, .int .i64 a6, .int .i64 a7, .int .i64 a8, .slice ap apath.length apc, .slice aip ait.length aic]) rfl (by kernel_rfl) (by kernel_rfl) (by kernel_rfl) (fun _ _ _ h => h) (Or.inl ⟨by rfl, ?r⟩) hS ?_
  case r => intro W hW; simp [go_sem, execOp, Act.eval, hW.2.2.1]
  simp only [List.getElem_toArray, List.getElem_cons_zero, List.getElem_cons_succ, Act.put, List.setIfInBounds_toArray, List.set_cons_succ, List.set_cons_zero]
  refine wpAnyH_take (i := 5) (v := .pointer (some ⟨w.heap.size, 1, none⟩)) rfl (by kernel_rfl) (by kernel_rfl) (by kernel_rfl) (fun _ _ _ h => h) (Or.inl ⟨by rfl, ?r⟩) hS ?_
  case r => intro W hW; simp [go_sem, execOp, Act.eval]
  simp only [List.getElem_toArray, List.getElem_cons_zero, List.getElem_cons_succ, Act.put, List.setIfInBounds_toArray, List.set_cons_succ, List.set_cons_zero]
  refine wpAnyH_take (i := 6) (v := .pointer (some ⟨vb, 0, none⟩)) rfl (by kernel_rfl) (by kernel_rfl) (by kernel_rfl) (fun _ _ _ h => h) (Or.inl ⟨by rfl, ?r⟩) hS ?_
  case r => intro W hW; simp [go_sem, execOp, Act.eval, hW.2.1]
  simp only [List.getElem_toArray, List.getElem_cons_zero, List.getElem_cons_succ, Act.put, List.setIfInBounds_toArray, List.set_cons_succ, List.set_cons_zero]
  refine wpAnyH_take (i := 7) (v := .pointer (some ⟨vb, 0, none⟩)) rfl (by kernel_rfl) (by kernel_rfl) (by kernel_rfl) (fun _ _ _ h => h) (Or.inl ⟨by rfl, ?r⟩) hS ?_
  case r => intro W hW; simp [go_sem, execOp, Act.eval]
  simp only [List.getElem_toArray, List.getElem_cons_zero, List.getElem_cons_succ, Act.put, List.setIfInBounds_toArray, List.set_cons_succ, List.set_cons_zero]
  refine wpAnyH_take (i := 8) (v := .agg #[.int .i64 b0, .string b1, .int .i64 b2, .int .u64 b3, .string b4, .int .i64 b5, .int .i64 b6, .int .i64 b7, .int .i64 b8, .slice bp bpath.length bpc, .slice bip bit.length bic]) rfl (by kernel_rfl) (by kernel_rfl) (by kernel_rfl) (fun _ _ _ h => h) (Or.inl ⟨by rfl, ?r⟩) hS ?_
  case r => intro W hW; simp [go_sem, execOp, Act.eval, hW.2.2.2]
  simp only [List.getElem_toArray, List.getElem_cons_zero, List.getElem_cons_succ, Act.put, List.setIfInBounds_toArray, List.set_cons_succ, List.set_cons_zero]
  have q0 : Below w.heap.size w V0 := b0w.trans (hB4.mono b0w.size)
  have z0 : w.heap.size + 2 < V0.heap.size := by have := hB4.size; omega
  have i1 : V0.heap[w.heap.size + 1]? = some (.cells #[.int .i64 0, .string ⟨#[]⟩, .int .i64 0, .int .u64 0, .string ⟨#[]⟩, .int .i64 0, .int .i64 0, .int .i64 0, .int .i64 0, .slice none 0 0, .slice none 0 0] 39 (0, 0)) := (hB4.block _ (by omega)).trans h31
  have i2 : V0.heap[w.heap.size + 2]? = some (.cells #[.int .i64 0, .string ⟨#[]⟩, .int .i64 0, .int .u64 0, .string ⟨#[]⟩, .int .i64 0, .int .i64 0, .int .i64 0, .int .i64 0, .slice none 0 0, .slice none 0 0] 39 (0, 0)) := (hB4.block _ (by omega)).trans h32
  clear h30 h31 h32 b0w HV0 hB4 hck hcv
  refine wpAnyH_all (rs := [4]) (by kernel_rfl) (by simp) (fun i2 hi2 => ?_)
  obtain rfl : i2 = 4 := by simpa using hi2
  clear hi2
  refine wpOp_step rfl (fun K hK => ite_yes rfl ?_)
  simp only [List.getElem_toArray, List.getElem_cons_zero, List.getElem_cons_succ]
  go_simp
  refine (HK.out _ q0).mono ?_
  rintro r w4 ⟨k', rfl, g1, g2, g3, g4, _⟩
  have q4 : Below w.heap.size w w4 := q0.trans (g4.mono q0.size)
  have z4 : w.heap.size + 2 < w4.heap.size := Nat.lt_of_lt_of_le z0 g4.size
  have j1 : w4.heap[w.heap.size + 1]? = some (.cells #[.int .i64 0, .string ⟨#[]⟩, .int .i64 0, .int .u64 0, .string ⟨#[]⟩, .int .i64 0, .int .i64 0, .int .i64 0, .int .i64 0, .slice none 0 0, .slice none 0 0] 39 (0, 0)) := (g4.block _ (by omega)).trans i1
  have j2 : w4.heap[w.heap.size + 2]? = some (.cells #[.int .i64 0, .string ⟨#[]⟩, .int .i64 0, .int .u64 0, .string ⟨#[]⟩, .int .i64 0, .int .i64 0, .int .i64 0, .int .i64 0, .slice none 0 0, .slice none 0 0] 39 (0, 0)) := (g4.block _ (by omega)).trans i2
  have HK4 : Hid (MD.In w4.heap.size w4 n k' ∧ MD.Above (w.heap.size + 3) n k' ∧ MD.same n ⟨⟨a0, a1, a2, a3, a4, a5, a6, a7, a8, ap, apath, apc⟩, aip, aic, ait⟩ k' = true) := ⟨g1, MD.Above.mono (by omega) n _ g2, g3⟩
  go_simp
  have hSw4 : w4.cell? ⟨w.heap.size, 0, none⟩ = some (.pointer (some ⟨kb, 0, none⟩)) ∧ w4.cell? ⟨w.heap.size, 1, none⟩ = some (.pointer (some ⟨vb, 0, none⟩)) ∧ (∀ j, w4.cell? ⟨kb, j, none⟩ = (#[.int .i64 a0, .string a1, .int .i64 a2, .int .u64 a3, .string a4, .int .i64 a5, .int .i64 a6, .int .i64 a7, .int .i64 a8, .slice ap apath.length apc, .slice aip ait.length aic] : Array Value)[j]?) ∧ ∀ j, w4.cell? ⟨vb, j, none⟩ = (#[.int .i64 b0, .string b1, .int .i64 b2, .int .u64 b3, .string b4, .int .i64 b5, .int .i64 b6, .int .i64 b7, .int .i64 b8, .slice bp bpath.length bpc, .slice bip bit.length bic] : Array Value)[j]? := ⟨(g4.cell (p := ⟨w.heap.size, 0, none⟩) (by show w.heap.size < _; omega)).trans hS.1, (g4.cell (p := ⟨w.heap.size, 1, none⟩) (by show w.heap.size < _; omega)).trans hS.2.1, fun j => (g4.cell (p := ⟨kb, j, none⟩) (by show kb < _; omega)).trans (hS.2.2.1 j), fun j => (g4.cell (p := ⟨vb, j, none⟩) (by show vb < _; omega)).trans (hS.2.2.2 j)⟩
  refine hK _ _ ⟨hSw4, ?_⟩
  clear hK K hS
  have hS := hSw4
  clear hSw4
  try simp only [Act.put, List.setIfInBounds_toArray, List.set_cons_succ, List.set_cons_zero]
  clear g1 g2 g3 g4 i1 i2
  refine wpAnyH_all (rs := [9]) (by kernel_rfl) (by simp) (fun i2 hi2 => ?_)
  obtain rfl : i2 = 9 := by simpa using hi2
  clear hi2
  refine wpOp_step rfl (fun K hK => ite_yes rfl ?_)
  simp only [List.getElem_toArray, List.getElem_cons_zero, List.getElem_cons_succ]
  go_simp
  refine (HV.out _ q4).mono ?_
  rintro r w5 ⟨v', rfl, g1, g2, g3, g4, _⟩
  have q5 : Below w.heap.size w w5 := q4.trans (g4.mono q4.size)
  have z5 : w.heap.size + 2 < w5.heap.size := Nat.lt_of_lt_of_le z4 g4.size
  have k1 : w5.heap[w.heap.size + 1]? = some (.cells #[.int .i64 0, .string ⟨#[]⟩, .int .i64 0, .int .u64 0, .string ⟨#[]⟩, .int .i64 0, .int .i64 0, .int .i64 0, .int .i64 0, .slice none 0 0, .slice none 0 0] 39 (0, 0)) := (g4.block _ (by omega)).trans j1
  have k2 : w5.heap[w.heap.size + 2]? = some (.cells #[.int .i64 0, .string ⟨#[]⟩, .int .i64 0, .int .u64 0, .string ⟨#[]⟩, .int .i64 0, .int .i64 0, .int .i64 0, .int .i64 0, .slice none 0 0, .slice none 0 0] 39 (0, 0)) := (g4.block _ (by omega)).trans j2
  have HK5 : Hid (MD.In w5.heap.size w5 n k' ∧ MD.Above (w.heap.size + 3) n k' ∧ MD.same n ⟨⟨a0, a1, a2, a3, a4, a5, a6, a7, a8, ap, apath, apc⟩, aip, aic, ait⟩ k' = true) := ⟨HK4.out.1.later (Nat.le_refl _) g4, HK4.out.2⟩
  have HV5 : Hid (MD.In w5.heap.size w5 n v' ∧ MD.Above (w.heap.size + 3) n v' ∧ MD.same n ⟨⟨b0, b1, b2, b3, b4, b5, b6, b7, b8, bp, bpath, bpc⟩, bip, bic, bit⟩ v' = true) := ⟨g1, MD.Above.mono (by omega) n _ g2, g3⟩
  go_simp
  have hSw5 : w5.cell? ⟨w.heap.size, 0, none⟩ = some (.pointer (some ⟨kb, 0, none⟩)) ∧ w5.cell? ⟨w.heap.size, 1, none⟩ = some (.pointer (some ⟨vb, 0, none⟩)) ∧ (∀ j, w5.cell? ⟨kb, j, none⟩ = (#[.int .i64 a0, .string a1, .int .i64 a2, .int .u64 a3, .string a4, .int .i64 a5, .int .i64 a6, .int .i64 a7, .int .i64 a8, .slice ap apath.length apc, .slice aip ait.length aic] : Array Value)[j]?) ∧ ∀ j, w5.cell? ⟨vb, j, none⟩ = (#[.int .i64 b0, .string b1, .int .i64 b2, .int .u64 b3, .string b4, .int .i64 b5, .int .i64 b6, .int .i64 b7, .int .i64 b8, .slice bp bpath.length bpc, .slice bip bit.length bic] : Array Value)[j]? := ⟨(g4.cell (p := ⟨w.heap.size, 0, none⟩) (by show w.heap.size < _; omega)).trans hS.1, (g4.cell (p := ⟨w.heap.size, 1, none⟩) (by show w.heap.size < _; omega)).trans hS.2.1, fun j => (g4.cell (p := ⟨kb, j, none⟩) (by show kb < _; omega)).trans (hS.2.2.1 j), fun j => (g4.cell (p := ⟨vb, j, none⟩) (by show vb < _; omega)).trans (hS.2.2.2 j)⟩
  refine hK _ _ ⟨hSw5, ?_⟩
  clear hK K hS
  have hS := hSw5
  clear hSw5
  try simp only [Act.put, List.setIfInBounds_toArray, List.set_cons_succ, List.set_cons_zero]
  clear g1 g2 g3 g4 j1 j2 HK4 q4 z4 q0 z0
  obtain ⟨⟨l0, l1, l2, l3, l4, l5, l6, l7, l8, lp, lpath, lpc⟩, lip, lic, lit⟩ := k'
  obtain ⟨⟨u0, u1, u2, u3, u4, u5, u6, u7, u8, up, upath, upc⟩, uip, uic, uit⟩ := v'
  simp only [MD.val, D]
  have c1 := fun j => row_at k1 j
  have f1 := fun j => fz _ _ _ _ j k1
  have c2 := fun j => row_at k2 j
  have f2 := fun j => fz _ _ _ _ j k2
  have zz1 : w.heap.size + 1 < w5.heap.size := by omega
  refine wpAnyH_all (rs := [10]) (by kernel_rfl) (by simp) (fun i2 hi2 => ?_)
  obtain rfl : i2 = 10 := by simpa using hi2
  clear hi2
  refine wpOp_step rfl (fun K hK => ite_yes rfl ?_)
  simp only [List.getElem_toArray, List.getElem_cons_zero, List.getElem_cons_succ]
  go_simp
  obtain ⟨w6, hw6⟩ : ∃ w6, w6 = ((((((((((w5.setCell ⟨w.heap.size + 1, 0, none⟩ (.int .i64 l0)).setCell ⟨w.heap.size + 1, 1, none⟩ (.string l1)).setCell ⟨w.heap.size + 1, 2, none⟩ (.int .i64 l2)).setCell ⟨w.heap.size + 1, 3, none⟩ (.int .u64 l3)).setCell ⟨w.heap.size + 1, 4, none⟩ (.string l4)).setCell ⟨w.heap.size + 1, 5, none⟩ (.int .i64 l5)).setCell ⟨w.heap.size + 1, 6, none⟩ (.int .i64 l6)).setCell ⟨w.heap.size + 1, 7, none⟩ (.int .i64 l7)).setCell ⟨w.heap.size + 1, 8, none⟩ (.int .i64 l8)).setCell ⟨w.heap.size + 1, 9, none⟩ (.slice lp lpath.length lpc)).setCell ⟨w.heap.size + 1, 10, none⟩ (.slice lip lit.length lic) := ⟨_, rfl⟩
  have o6 : ∀ c, c ≠ w.heap.size + 1 → w6.heap[c]? = w5.heap[c]? := fun c hc => by rw [hw6]; exact eleven_only w5 (w.heap.size + 1) c hc _ _ _ _ _ _ _ _ _ _ _
  have r6 : w6.heap[w.heap.size + 1]? = some (.cells #[.int .i64 l0, .string l1, .int .i64 l2, .int .u64 l3, .string l4, .int .i64 l5, .int .i64 l6, .int .i64 l7, .int .i64 l8, .slice lp lpath.length lpc, .slice lip lit.length lic] 39 (0, 0)) := by rw [hw6]; exact eleven_row k1 _ _ _ _ _ _ _ _ _ _ _
  have s6 : w6.heap.size = w5.heap.size := by rw [hw6]; exact eleven_size _ _ _ _ _ _ _ _ _ _ _ _ _
  have q6 : Below w.heap.size w w6 := by rw [hw6]; exact bset q5 (Nat.le_succ _) _ _ _ _ _ _ _ _ _ _ _
  rw [← hw6]
  clear hw6
  have hSw6 : w6.cell? ⟨w.heap.size, 0, none⟩ = some (.pointer (some ⟨kb, 0, none⟩)) ∧ w6.cell? ⟨w.heap.size, 1, none⟩ = some (.pointer (some ⟨vb, 0, none⟩)) ∧ (∀ j, w6.cell? ⟨kb, j, none⟩ = (#[.int .i64 a0, .string a1, .int .i64 a2, .int .u64 a3, .string a4, .int .i64 a5, .int .i64 a6, .int .i64 a7, .int .i64 a8, .slice ap apath.length apc, .slice aip ait.length aic] : Array Value)[j]?) ∧ ∀ j, w6.cell? ⟨vb, j, none⟩ = (#[.int .i64 b0, .string b1, .int .i64 b2, .int .u64 b3, .string b4, .int .i64 b5, .int .i64 b6, .int .i64 b7, .int .i64 b8, .slice bp bpath.length bpc, .slice bip bit.length bic] : Array Value)[j]? := ⟨(World.cell?_of_block (a := ⟨w.heap.size, 0, none⟩) (o6 w.heap.size (by omega))).trans hS.1, (World.cell?_of_block (a := ⟨w.heap.size, 1, none⟩) (o6 w.heap.size (by omega))).trans hS.2.1, fun j => (World.cell?_of_block (a := ⟨kb, j, none⟩) (o6 kb (by omega))).trans (hS.2.2.1 j), fun j => (World.cell?_of_block (a := ⟨vb, j, none⟩) (o6 vb (by omega))).trans (hS.2.2.2 j)⟩
  refine hK _ _ ⟨hSw6, ?_⟩
  clear hK K hS
  have hS := hSw6
  clear hSw6
  try simp only [Act.put, List.setIfInBounds_toArray, List.set_cons_succ, List.set_cons_zero]
  have k26 : w6.heap[w.heap.size + 2]? = some (.cells #[.int .i64 0, .string ⟨#[]⟩, .int .i64 0, .int .u64 0, .string ⟨#[]⟩, .int .i64 0, .int .i64 0, .int .i64 0, .int .i64 0, .slice none 0 0, .slice none 0 0] 39 (0, 0)) := (o6 _ (by omega)).trans k2
  have c26 := fun j => row_at k26 j
  have f26 := fun j => fz _ _ _ _ j k26
  have zz2 : w.heap.size + 2 < w6.heap.size := by omega
  clear c1 f1 c2 f2
  refine wpAnyH_all (rs := [11]) (by kernel_rfl) (by simp) (fun i2 hi2 => ?_)
  obtain rfl : i2 = 11 := by simpa using hi2
  clear hi2
  refine wpOp_step rfl (fun K hK => ite_yes rfl ?_)
  simp only [List.getElem_toArray, List.getElem_cons_zero, List.getElem_cons_succ]
  go_simp
  obtain ⟨w7, hw7⟩ : ∃ w7, w7 = ((((((((((w6.setCell ⟨w.heap.size + 2, 0, none⟩ (.int .i64 u0)).setCell ⟨w.heap.size + 2, 1, none⟩ (.string u1)).setCell ⟨w.heap.size + 2, 2, none⟩ (.int .i64 u2)).setCell ⟨w.heap.size + 2, 3, none⟩ (.int .u64 u3)).setCell ⟨w.heap.size + 2, 4, none⟩ (.string u4)).setCell ⟨w.heap.size + 2, 5, none⟩ (.int .i64 u5)).setCell ⟨w.heap.size + 2, 6, none⟩ (.int .i64 u6)).setCell ⟨w.heap.size + 2, 7, none⟩ (.int .i64 u7)).setCell ⟨w.heap.size + 2, 8, none⟩ (.int .i64 u8)).setCell ⟨w.heap.size + 2, 9, none⟩ (.slice up upath.length upc)).setCell ⟨w.heap.size + 2, 10, none⟩ (.slice uip uit.length uic) := ⟨_, rfl⟩
  have o7 : ∀ c, c ≠ w.heap.size + 2 → w7.heap[c]? = w6.heap[c]? := fun c hc => by rw [hw7]; exact eleven_only w6 (w.heap.size + 2) c hc _ _ _ _ _ _ _ _ _ _ _
  have r7 : w7.heap[w.heap.size + 2]? = some (.cells #[.int .i64 u0, .string u1, .int .i64 u2, .int .u64 u3, .string u4, .int .i64 u5, .int .i64 u6, .int .i64 u7, .int .i64 u8, .slice up upath.length upc, .slice uip uit.length uic] 39 (0, 0)) := by rw [hw7]; exact eleven_row k26 _ _ _ _ _ _ _ _ _ _ _
  have s7 : w7.heap.size = w6.heap.size := by rw [hw7]; exact eleven_size _ _ _ _ _ _ _ _ _ _ _ _ _
  have q7 : Below w.heap.size w w7 := by rw [hw7]; exact bset q6 (by omega) _ _ _ _ _ _ _ _ _ _ _
  rw [← hw7]
  clear hw7
  have hSw7 : w7.cell? ⟨w.heap.size, 0, none⟩ = some (.pointer (some ⟨kb, 0, none⟩)) ∧ w7.cell? ⟨w.heap.size, 1, none⟩ = some (.pointer (some ⟨vb, 0, none⟩)) ∧ (∀ j, w7.cell? ⟨kb, j, none⟩ = (#[.int .i64 a0, .string a1, .int .i64 a2, .int .u64 a3, .string a4, .int .i64 a5, .int .i64 a6, .int .i64 a7, .int .i64 a8, .slice ap apath.length apc, .slice aip ait.length aic] : Array Value)[j]?) ∧ ∀ j, w7.cell? ⟨vb, j, none⟩ = (#[.int .i64 b0, .string b1, .int .i64 b2, .int .u64 b3, .string b4, .int .i64 b5, .int .i64 b6, .int .i64 b7, .int .i64 b8, .slice bp bpath.length bpc, .slice bip bit.length bic] : Array Value)[j]? := ⟨(World.cell?_of_block (a := ⟨w.heap.size, 0, none⟩) (o7 w.heap.size (by omega))).trans hS.1, (World.cell?_of_block (a := ⟨w.heap.size, 1, none⟩) (o7 w.heap.size (by omega))).trans hS.2.1, fun j => (World.cell?_of_block (a := ⟨kb, j, none⟩) (o7 kb (by omega))).trans (hS.2.2.1 j), fun j => (World.cell?_of_block (a := ⟨vb, j, none⟩) (o7 vb (by omega))).trans (hS.2.2.2 j)⟩
  refine hK _ _ ⟨hSw7, ?_⟩
  clear hK K hS
  have hS := hSw7
  clear hSw7
  try simp only [Act.put, List.setIfInBounds_toArray, List.set_cons_succ, List.set_cons_zero]
  refine wpAnyH_done (by kernel_rfl) ?_ _
  refine NoPanic.normal ?_
  try simp only [Act.put]
  have r61 : w7.heap[w.heap.size + 1]? = some (.cells #[.int .i64 l0, .string l1, .int .i64 l2, .int .u64 l3, .string l4, .int .i64 l5, .int .i64 l6, .int .i64 l7, .int .i64 l8, .slice lp lpath.length lpc, .slice lip lit.length lic] 39 (0, 0)) := (o7 _ (by omega)).trans r6
  have d1 := fun j => row_at r61 j
  have d2 := fun j => row_at r7 j
  have zz3 : w.heap.size + 1 < w7.heap.size := by omega
  have zz4 : w.heap.size + 2 < w7.heap.size := by omega
  clear hS k26 c26 f26 r61 r7 r6 k1 k2
  go_wp2_with fail
  refine bodyPost_ret (v := .tuple #[.agg #[.int .i64 l0, .string l1, .int .i64 l2, .int .u64 l3, .string l4, .int .i64 l5, .int .i64 l6, .int .i64 l7, .int .i64 l8, .slice lp lpath.length lpc, .slice lip lit.length lic], .agg #[.int .i64 u0, .string u1, .int .i64 u2, .int .u64 u3, .string u4, .int .i64 u5, .int .i64 u6, .int .i64 u7, .int .i64 u8, .slice up upath.length upc, .slice uip uit.length uic]]) (by simp [results, Tryd.results27, go_sem, d1, d2]) rfl ?_
  rw [← HQ.out]
  have hi : ∀ c, w.heap.size + 3 ≤ c → w7.heap[c]? = w5.heap[c]? := fun c hc => (o7 c (by omega)).trans (o6 c (by omega))
  exact ⟨⟨⟨l0, l1, l2, l3, l4, l5, l6, l7, l8, lp, lpath, lpc⟩, lip, lic, lit⟩, ⟨⟨u0, u1, u2, u3, u4, u5, u6, u7, u8, up, upath, upc⟩, uip, uic, uit⟩, rfl, HK5.out.2.2, HV5.out.2.2, MD.In.high (lo := w.heap.size + 3) (by omega) hi n _ HK5.out.2.1 HK5.out.1, MD.In.high (lo := w.heap.size + 3) (by omega) hi n _ HV5.out.2.1 HV5.out.1, q7⟩
end Go.Proofs.YtflonmlnedkmjaaDoor
