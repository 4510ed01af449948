/-
  .
  .
  .
  .
  .
-/
import Derived.Test.YtdbijkgnddcneaaGreatDoorSq
import Derived.Test.YtdbijkgnddcneaaGreatDoorLxK2J
namespace Go.Proofs.YtdbijkgnddcneaaGreatDoor.Lx
open Go.RowKit Go.ChangeMaps
set_option maxRecDepth 100000
set_option maxHeartbeats 4000000
theorem ite_yes {c : Bool} {A B : Prop} (hc : c = true) (h : A) : if c = true then A else B := by rw [if_pos hc]; exact h
theorem ShS.kp {S : Nat → Prop} {lo g cap pb : Nat} {w w' : World} (h : ShS lo w g cap pb) (hb : Kp S w w') (hg : ¬ S g) (hp : ¬ S pb) : ShS lo w' g cap pb :=
 ⟨h.glo, Nat.lt_of_lt_of_le h.ghi hb.size, h.plo, Nat.lt_of_lt_of_le h.phi hb.size, h.ne, (hb.cell h.ghi hg).trans h.n0, (hb.cell h.ghi hg).trans h.e0, (hb.frozen h.ghi hg).trans h.f0, (hb.cell h.ghi hg).trans h.n1, (hb.cell h.ghi hg).trans h.e1, (hb.frozen h.ghi hg).trans h.f1, (hb.block _ h.phi hp).trans h.parts⟩
theorem ShS.below {lo g cap pb : Nat} {w w' : World} (h : ShS lo w g cap pb) (hb : Below w.heap.size w w') : ShS lo w' g cap pb :=
 ⟨h.glo, Nat.lt_of_lt_of_le h.ghi hb.size, h.plo, Nat.lt_of_lt_of_le h.phi hb.size, h.ne, (hb.cell (p := ⟨g, 0, none⟩) h.ghi).trans h.n0, (hb.cell (p := ⟨g, 1, none⟩) h.ghi).trans h.e0, (hb.frozen (p := ⟨g, 1, none⟩) h.ghi).trans h.f0, (hb.cell (p := ⟨g, 2, none⟩) h.ghi).trans h.n1, (hb.cell (p := ⟨g, 3, none⟩) h.ghi).trans h.e1, (hb.frozen (p := ⟨g, 3, none⟩) h.ghi).trans h.f1, (hb.block _ h.phi).trans h.parts⟩
def NameSP (w : World) (M mb EB MB : Nat) (es : Array MapEntry) (clk : Nat) (e : Ending) (w' : World) : Prop :=
 e = .returned .nilIface ∧ ∃ g cap pb, w'.heap[M]? = some (.map (es.push ⟨.string ⟨#[83]⟩, shS g cap pb, clk⟩) (clk + 1)) ∧ w'.heap[mb]? = some (.cells #[.map (some M), .int .i64 1, .map (some EB), .map (some MB)] 151) ∧ 2 ≤ cap ∧ ShS w.heap.size w' g cap pb ∧ Kp (fun i => i = M ∨ i = mb) w w'
theorem ShT.kp {S : Nat → Prop} {lo g cap pb : Nat} {w w' : World} (h : ShT lo w g cap pb) (hb : Kp S w w') (hg : ¬ S g) (hp : ¬ S pb) : ShT lo w' g cap pb :=
 ⟨h.glo, Nat.lt_of_lt_of_le h.ghi hb.size, h.plo, Nat.lt_of_lt_of_le h.phi hb.size, h.ne, (hb.cell h.ghi hg).trans h.n0, (hb.cell h.ghi hg).trans h.e0, (hb.frozen h.ghi hg).trans h.f0, (hb.block _ h.phi hp).trans h.parts⟩
theorem ShT.below {lo g cap pb : Nat} {w w' : World} (h : ShT lo w g cap pb) (hb : Below w.heap.size w w') : ShT lo w' g cap pb :=
 ⟨h.glo, Nat.lt_of_lt_of_le h.ghi hb.size, h.plo, Nat.lt_of_lt_of_le h.phi hb.size, h.ne, (hb.cell (p := ⟨g, 0, none⟩) h.ghi).trans h.n0, (hb.cell (p := ⟨g, 1, none⟩) h.ghi).trans h.e0, (hb.frozen (p := ⟨g, 1, none⟩) h.ghi).trans h.f0, (hb.block _ h.phi).trans h.parts⟩
def NameTP (w : World) (M mb EB MB : Nat) (es : Array MapEntry) (clk : Nat) (e : Ending) (w' : World) : Prop :=
 e = .returned .nilIface ∧ ∃ g cap pb, w'.heap[M]? = some (.map (es.push ⟨.string ⟨#[84]⟩, shT g cap pb, clk⟩) (clk + 1)) ∧ w'.heap[mb]? = some (.cells #[.map (some M), .int .i64 2, .map (some EB), .map (some MB)] 151) ∧ 1 ≤ cap ∧ ShT w.heap.size w' g cap pb ∧ Kp (fun i => i = M ∨ i = mb) w w'
theorem name_S (M mb EB MB KS : Nat) (es : Array MapEntry) (clk : Nat) (w : World) (hM : w.heap[M]? = some (.map es clk)) (hA : Instr.findNow .string (.string ⟨#[83]⟩) es.toList 0 = some none) (hm : w.heap[mb]? = some (.cells #[.map (some M), .int .i64 0, .map (some EB), .map (some MB)] 151)) (hne : M ≠ mb) (hk : w.heap[KS]? = some (.cells #[.int .i64 8, .string ⟨#[102]⟩, .int .i64 0, .int .i64 0, .slice none 0 0, .int .i64 8, .string ⟨#[103]⟩, .int .i64 0, .int .i64 0, .slice none 0 0] 98)) :
  Calls Tryz.prog 73 #[.pointer (some ⟨mb, 0, none⟩), .agg #[.int .i64 3, .string ⟨#[83]⟩, .int .i64 0, .int .i64 0, .slice (some ⟨KS, 0, none⟩) 2 2]] w (NameSP w M mb EB MB es clk) := by
 have hMl := heap_lt hM
 have hml := heap_lt hm
 have hKX := heap_lt hk
 go_enter Tryz.func73, Tryz.ntmps73
 go_wp2_with fail
 obtain ⟨U0, hU0⟩ : ∃ W, W = (w.alloc (.cells #[.int .i64 3, .string ⟨#[83]⟩, .int .i64 0, .int .i64 0, .slice (some ⟨KS, 0, none⟩) 2 2] 98)) := ⟨_, rfl⟩
 rw [← hU0]
 have u0 : Below w.heap.size w U0 := by rw [hU0]; exact below1 w _
 have y0 : w.heap.size < U0.heap.size := by rw [hU0]; simp
 have hM0 : U0.heap[M]? = some (.map es clk) := (u0.block _ hMl).trans hM
 have hm0 : U0.heap[mb]? = some (.cells #[.map (some M), .int .i64 0, .map (some EB), .map (some MB)] 151) := (u0.block _ hml).trans hm
 have hb0 : U0.heap[w.heap.size]? = some (.cells #[.int .i64 3, .string ⟨#[83]⟩, .int .i64 0, .int .i64 0, .slice (some ⟨KS, 0, none⟩) 2 2] 98) := by rw [hU0]; exact heap_new _ _ _ rfl
 clear hU0
 refine rg (S := fun W => (∀ j, W.cell? ⟨w.heap.size, j, none⟩ = (#[.int .i64 3, .string ⟨#[83]⟩, .int .i64 0, .int .i64 0, .slice (some ⟨KS, 0, none⟩) 2 2] : Array Value)[j]?) ∧ (∀ j, W.cell? ⟨mb, j, none⟩ = (#[.map (some M), .int .i64 0, .map (some EB), .map (some MB)] : Array Value)[j]?) ∧ W.heap[M]? = some (.map es clk)) (fun U1 hB4 HU1 => ?_)
 have hS : (∀ j, U1.cell? ⟨w.heap.size, j, none⟩ = (#[.int .i64 3, .string ⟨#[83]⟩, .int .i64 0, .int .i64 0, .slice (some ⟨KS, 0, none⟩) 2 2] : Array Value)[j]?) ∧ (∀ j, U1.cell? ⟨mb, j, none⟩ = (#[.map (some M), .int .i64 0, .map (some EB), .map (some MB)] : Array Value)[j]?) ∧ U1.heap[M]? = some (.map es clk) := ⟨(cells_of ((hB4.block _ (by omega)).trans hb0)).1, (cells_of ((hB4.block _ (by omega)).trans hm0)).1, (hB4.block _ (by omega)).trans hM0⟩
 refine tq 0 (.pointer (some ⟨mb, 0, none⟩)) rfl hS ?_
 simp only [sa, sb, Act.put, sd, se, sf]
 refine tq 1 (.pointer (some ⟨mb, 0, none⟩)) rfl hS ?_
 simp only [sa, sb, sc, Act.put, sd, se, sf]
 refine tq 2 (.pointer (some ⟨mb, 0, none⟩)) rfl hS ?_
 simp only [sa, sb, sc, Act.put, sd, se, sf]
 refine tk 3 (.map (some M)) rfl (.inl ⟨by rfl, ?r⟩) hS ?_
 case r => intro W hW; simp [go_sem, execOp, Act.eval, hW.2.1]
 simp only [sa, sb, sc, Act.put, sd, se, sf]
 refine tq 4 (.pointer (some ⟨w.heap.size, 1, none⟩)) rfl hS ?_
 simp only [sa, sb, sc, Act.put, sd, se, sf]
 refine tk 5 (.string ⟨#[83]⟩) rfl (.inl ⟨by rfl, ?r⟩) hS ?_
 case r => intro W hW; simp [go_sem, execOp, Act.eval, hW.1]
 simp only [sa, sb, sc, Act.put, sd, se, sf]
 refine tk 6 (.tuple #[.agg #[.int .i64 0, .bool false, .slice none 0 0, .map none], .bool false]) rfl (.inl ⟨by rfl, ?r⟩) hS ?_
 case r => intro W hW; simp [go_sem, execOp, Act.eval, look_no (P := Tryz.prog) Tryz.underlying146 Tryz.underlying9 hW.2.2 hA (Tryz.zeroValue199 _) true]
 simp only [sa, sb, sc, Act.put, sd, se, sf]
 refine tq 7 (.tuple #[.agg #[.int .i64 0, .bool false, .slice none 0 0, .map none], .bool false]) rfl hS ?_
 simp only [sa, sb, sc, Act.put, sd, se, sf]
 refine tq 8 (.agg #[.int .i64 0, .bool false, .slice none 0 0, .map none]) rfl hS ?_
 simp only [sa, sb, sc, Act.put, sd, se, sf]
 refine tq 9 (.bool false) rfl hS ?_
 simp only [sa, sb, sc, Act.put, sd, se, sf]
 have u1 : Below w.heap.size w U1 := u0.trans (hB4.mono (by omega))
 have y1 : w.heap.size < U1.heap.size := Nat.lt_of_lt_of_le y0 hB4.size
 have hM1 : U1.heap[M]? = some (.map es clk) := (hB4.block _ (by omega)).trans hM0
 have hm1 : U1.heap[mb]? = _ := (hB4.block _ (by omega)).trans hm0
 have hb1 : U1.heap[w.heap.size]? = _ := (hB4.block _ (by omega)).trans hb0
 clear HU1 hB4
 refine one 10 rfl (fun K hK => ?_)
 simp only [sa, sb, sc]
 go_simp
 obtain ⟨U2, hU2⟩ : ∃ W, W = U1.alloc (.cells #[.int .i64 0, .bool false, .slice none 0 0, .map none] 199) := ⟨_, rfl⟩
 rw [← hU2]
 have v2 : Below U1.heap.size U1 U2 := by rw [hU2]; exact below1 _ _
 have y2 : U1.heap.size < U2.heap.size := by rw [hU2]; simp
 have n2 : U2.heap[U1.heap.size]? = some (.cells #[.int .i64 0, .bool false, .slice none 0 0, .map none] 199) := by rw [hU2]; exact heap_new _ _ _ rfl
 clear hU2
 have hM2 : U2.heap[M]? = some (.map es clk) := (v2.block _ (by omega)).trans hM1
 have hm2 : U2.heap[mb]? = _ := (v2.block _ (by omega)).trans hm1
 have hb2 : U2.heap[w.heap.size]? = _ := (v2.block _ (by omega)).trans hb1
 have hSU2 : (∀ j, U2.cell? ⟨w.heap.size, j, none⟩ = (#[.int .i64 3, .string ⟨#[83]⟩, .int .i64 0, .int .i64 0, .slice (some ⟨KS, 0, none⟩) 2 2] : Array Value)[j]?) ∧ (∀ j, U2.cell? ⟨mb, j, none⟩ = (#[.map (some M), .int .i64 0, .map (some EB), .map (some MB)] : Array Value)[j]?) ∧ U2.heap[M]? = some (.map es clk) := ⟨(cells_of hb2).1, (cells_of hm2).1, hM2⟩
 refine hK _ _ ⟨hSU2, ?_⟩
 clear hK K hS
 have hS := hSU2
 clear hSU2
 try simp only [Act.put, sd, se, sf]
 obtain ⟨nc2, nf2⟩ := cells_of n2
 refine one 11 rfl (fun K hK => ?_)
 simp only [sa, sb, sc]
 go_simp
 obtain ⟨W2, hW2⟩ : ∃ W, W = (((U2.setCell ⟨U1.heap.size, 0, none⟩ (.int .i64 0)).setCell ⟨U1.heap.size, 1, none⟩ (.bool false)).setCell ⟨U1.heap.size, 2, none⟩ (.slice none 0 0)).setCell ⟨U1.heap.size, 3, none⟩ (.map none) := ⟨_, rfl⟩
 rw [← hW2]
 have v3 : Kp (· = U1.heap.size) U2 W2 := by rw [hW2]; exact kp_set4 _ _ _ _ _ _
 clear hW2
 have y3 := v3.size
 have hM3 : W2.heap[M]? = some (.map es clk) := (v3.block _ (by omega) (by omega)).trans hM2
 have hm3 : W2.heap[mb]? = _ := (v3.block _ (by omega) (by omega)).trans hm2
 have hb3 : W2.heap[w.heap.size]? = _ := (v3.block _ (by omega) (by omega)).trans hb2
 have hSW2 : (∀ j, W2.cell? ⟨w.heap.size, j, none⟩ = (#[.int .i64 3, .string ⟨#[83]⟩, .int .i64 0, .int .i64 0, .slice (some ⟨KS, 0, none⟩) 2 2] : Array Value)[j]?) ∧ (∀ j, W2.cell? ⟨mb, j, none⟩ = (#[.map (some M), .int .i64 0, .map (some EB), .map (some MB)] : Array Value)[j]?) ∧ W2.heap[M]? = some (.map es clk) := ⟨(cells_of hb3).1, (cells_of hm3).1, hM3⟩
 refine hK _ _ ⟨hSW2, ?_⟩
 clear hK K hS
 have hS := hSW2
 clear hSW2
 try simp only [Act.put, sd, se, sf]
 refine tq 12 (.bool false) rfl hS ?_
 simp only [sa, sb, sc, Act.put, sd, se, sf]
 refine dn ?_
 try simp only [Act.put]
 have b2 : Below w.heap.size w W2 := u1.trans ((v2.mono (by omega)).trans (v3.below (by omega) fun i hi h => by omega))
 have z2 : w.heap.size + 1 < W2.heap.size := by omega
 clear hM2 hm2 hb2 hM1 hm1 hb1 hM0 hm0 hb0 v3 v2 u1 u0 n2 nc2 nf2 hS y0 y1 y2 y3
 have hM2 := hM3
 have hm2 := hm3
 have hb2 := hb3
 clear hM3 hm3 hb3
 have mcW := (cells_of hm2).1
 have bcW := (cells_of hb2).1
 go_wp2_with fail
 clear mcW bcW
 refine rg (S := fun W => (∀ j, W.cell? ⟨w.heap.size, j, none⟩ = (#[.int .i64 3, .string ⟨#[83]⟩, .int .i64 0, .int .i64 0, .slice (some ⟨KS, 0, none⟩) 2 2] : Array Value)[j]?) ∧ ∀ j, W.cell? ⟨mb, j, none⟩ = (#[.map (some M), .int .i64 0, .map (some EB), .map (some MB)] : Array Value)[j]?) (fun W3 hB4 HW3 => ?_)
 have hS : (∀ j, W3.cell? ⟨w.heap.size, j, none⟩ = (#[.int .i64 3, .string ⟨#[83]⟩, .int .i64 0, .int .i64 0, .slice (some ⟨KS, 0, none⟩) 2 2] : Array Value)[j]?) ∧ ∀ j, W3.cell? ⟨mb, j, none⟩ = (#[.map (some M), .int .i64 0, .map (some EB), .map (some MB)] : Array Value)[j]? := ⟨(cells_of ((hB4.block _ (by omega)).trans hb2)).1, (cells_of ((hB4.block _ (by omega)).trans hm2)).1⟩
 refine tq 0 (.pointer (some ⟨w.heap.size, 0, none⟩)) rfl hS ?_
 simp only [sa, sb, Act.put, sd, se, sf]
 refine tk 1 (.int .i64 3) rfl (.inl ⟨by rfl, ?r⟩) hS ?_
 case r => intro W hW; simp [go_sem, execOp, Act.eval, hW.1]
 simp only [sa, sb, sc, Act.put, sd, se, sf]
 refine tq 2 (.bool false) rfl hS ?_
 simp only [sa, sb, sc, Act.put, sd, se, sf]
 refine tq 3 (.bool false) rfl hS ?_
 simp only [sa, sb, sc, Act.put, sd, se, sf]
 refine tk 4 undef rfl (.inr ⟨rfl, rfl⟩) hS ?_
 simp only [sa, sb, sc, Act.put, sd, se, sf]
 refine tk 5 undef rfl (.inr ⟨rfl, rfl⟩) hS ?_
 simp only [sa, sb, sc, Act.put, sd, se, sf]
 refine tk 6 undef rfl (.inr ⟨rfl, rfl⟩) hS ?_
 simp only [sa, sb, sc, Act.put, sd, se, sf]
 refine tk 7 undef rfl (.inr ⟨rfl, rfl⟩) hS ?_
 simp only [sa, sb, sc, Act.put, sd, se, sf]
 refine tk 8 undef rfl (.inr ⟨rfl, rfl⟩) hS ?_
 simp only [sa, sb, sc, Act.put, sd, se, sf]
 refine tk 9 undef rfl (.inr ⟨rfl, rfl⟩) hS ?_
 simp only [sa, sb, sc, Act.put, sd, se, sf]
 refine tk 10 undef rfl (.inr ⟨rfl, rfl⟩) hS ?_
 simp only [sa, sb, sc, Act.put, sd, se, sf]
 refine tk 11 undef rfl (.inr ⟨rfl, rfl⟩) hS ?_
 simp only [sa, sb, sc, Act.put, sd, se, sf]
 refine tk 12 undef rfl (.inr ⟨rfl, rfl⟩) hS ?_
 simp only [sa, sb, sc, Act.put, sd, se, sf]
 refine tk 13 undef rfl (.inr ⟨rfl, rfl⟩) hS ?_
 simp only [sa, sb, sc, Act.put, sd, se, sf]
 refine tk 14 undef rfl (.inr ⟨rfl, rfl⟩) hS ?_
 simp only [sa, sb, sc, Act.put, sd, se, sf]
 refine tk 15 undef rfl (.inr ⟨rfl, rfl⟩) hS ?_
 simp only [sa, sb, sc, Act.put, sd, se, sf]
 refine tq 16 (.bool false) rfl hS ?_
 simp only [sa, sb, sc, Act.put, sd, se, sf]
 refine dn ?_
 try simp only [Act.put]
 have b3 : Below w.heap.size w W3 := b2.trans (hB4.mono (by omega))
 have z3 : w.heap.size + 1 < W3.heap.size := Nat.lt_of_lt_of_le z2 hB4.size
 have hM3' : W3.heap[M]? = some (.map es clk) := (hB4.block _ (by omega)).trans hM2
 have hm3' : W3.heap[mb]? = _ := (hB4.block _ (by omega)).trans hm2
 have hb3' : W3.heap[w.heap.size]? = _ := (hB4.block _ (by omega)).trans hb2
 clear HW3 hB4 hS
 go_wp2_with fail
 refine rg (S := fun W => (∀ j, W.cell? ⟨w.heap.size, j, none⟩ = (#[.int .i64 3, .string ⟨#[83]⟩, .int .i64 0, .int .i64 0, .slice (some ⟨KS, 0, none⟩) 2 2] : Array Value)[j]?) ∧ ∀ j, W.cell? ⟨mb, j, none⟩ = (#[.map (some M), .int .i64 0, .map (some EB), .map (some MB)] : Array Value)[j]?) (fun V0 hB4 HV0 => ?_)
 have hS : (∀ j, V0.cell? ⟨w.heap.size, j, none⟩ = (#[.int .i64 3, .string ⟨#[83]⟩, .int .i64 0, .int .i64 0, .slice (some ⟨KS, 0, none⟩) 2 2] : Array Value)[j]?) ∧ ∀ j, V0.cell? ⟨mb, j, none⟩ = (#[.map (some M), .int .i64 0, .map (some EB), .map (some MB)] : Array Value)[j]? := ⟨(cells_of ((hB4.block _ (by omega)).trans hb3')).1, (cells_of ((hB4.block _ (by omega)).trans hm3')).1⟩
 refine tq 0 (.pointer (some ⟨mb, 0, none⟩)) rfl hS ?_
 simp only [sa, sb, Act.put, sd, se, sf]
 refine tq 1 (.pointer (some ⟨mb, 0, none⟩)) rfl hS ?_
 simp only [sa, sb, sc, Act.put, sd, se, sf]
 refine tq 2 (.pointer (some ⟨mb, 0, none⟩)) rfl hS ?_
 simp only [sa, sb, sc, Act.put, sd, se, sf]
 refine tk 3 (.map (some M)) rfl (.inl ⟨by rfl, ?r⟩) hS ?_
 case r => intro W hW; simp [go_sem, execOp, Act.eval, hW.2]
 simp only [sa, sb, sc, Act.put, sd, se, sf]
 refine tq 4 (.pointer (some ⟨w.heap.size, 1, none⟩)) rfl hS ?_
 simp only [sa, sb, sc, Act.put, sd, se, sf]
 refine tk 5 (.string ⟨#[83]⟩) rfl (.inl ⟨by rfl, ?r⟩) hS ?_
 case r => intro W hW; simp [go_sem, execOp, Act.eval, hW.1]
 simp only [sa, sb, sc, Act.put, sd, se, sf]
 refine tq 7 (.pointer (some ⟨mb, 0, none⟩)) rfl hS ?_
 simp only [sa, sb, sc, Act.put, sd, se, sf]
 refine tk 8 (.agg #[.int .i64 3, .string ⟨#[83]⟩, .int .i64 0, .int .i64 0, .slice (some ⟨KS, 0, none⟩) 2 2]) rfl (.inl ⟨by rfl, ?r⟩) hS ?_
 case r => intro W hW; simp [go_sem, execOp, Act.eval, hW.1]
 simp only [sa, sb, sc, Act.put, sd, se, sf]
 have q0 : Below w.heap.size w V0 := b3.trans (hB4.mono (by omega))
 have z0 : w.heap.size + 1 < V0.heap.size := Nat.lt_of_lt_of_le z3 hB4.size
 have hM3 : V0.heap[M]? = some (.map es clk) := (hB4.block _ (by omega)).trans hM3'
 have hm3 : V0.heap[mb]? = _ := (hB4.block _ (by omega)).trans hm3'
 have hb3 : V0.heap[w.heap.size]? = _ := (hB4.block _ (by omega)).trans hb3'
 clear HV0
 refine one 6 rfl (fun K hK => ?_)
 simp only [sa, sb, sc]
 go_simp
 refine (clone_any _ _ (by decide)).mono ?_
 rintro r w4 ⟨rfl, b4⟩
 have q4 : Below w.heap.size w w4 := q0.trans (b4.mono q0.size)
 have z4 : w.heap.size + 1 < w4.heap.size := Nat.lt_of_lt_of_le z0 b4.size
 have hM4 : w4.heap[M]? = some (.map es clk) := (b4.block _ (by omega)).trans hM3
 have hm4 : w4.heap[mb]? = _ := (b4.block _ (by omega)).trans hm3
 have hb4 : w4.heap[w.heap.size]? = _ := (b4.block _ (by omega)).trans hb3
 go_simp
 have hSw4 : (∀ j, w4.cell? ⟨w.heap.size, j, none⟩ = (#[.int .i64 3, .string ⟨#[83]⟩, .int .i64 0, .int .i64 0, .slice (some ⟨KS, 0, none⟩) 2 2] : Array Value)[j]?) ∧ ∀ j, w4.cell? ⟨mb, j, none⟩ = (#[.map (some M), .int .i64 0, .map (some EB), .map (some MB)] : Array Value)[j]? := ⟨(cells_of hb4).1, (cells_of hm4).1⟩
 refine hK _ _ ⟨hSw4, ?_⟩
 clear hK K hS
 have hS := hSw4
 clear hSw4
 try simp only [Act.put, sd, se, sf]
 refine one 9 rfl (fun K hK => ?_)
 simp only [sa, sb, sc]
 go_simp
 refine (begun_S mb KS _ ((q4.block _ hKX).trans hk)).mono ?_
 rintro r w5 ⟨g, cap, pb, rfl, hcap, hsh, b5⟩
 have q5 : Below w.heap.size w w5 := q4.trans (b5.mono q4.size)
 have z5 : w.heap.size + 1 < w5.heap.size := Nat.lt_of_lt_of_le z4 b5.size
 have hM5 : w5.heap[M]? = some (.map es clk) := (b5.block _ (by omega)).trans hM4
 have hm5 : w5.heap[mb]? = _ := (b5.block _ (by omega)).trans hm4
 have hb5 : w5.heap[w.heap.size]? = _ := (b5.block _ (by omega)).trans hb4
 go_simp
 have hSw5 : (∀ j, w5.cell? ⟨w.heap.size, j, none⟩ = (#[.int .i64 3, .string ⟨#[83]⟩, .int .i64 0, .int .i64 0, .slice (some ⟨KS, 0, none⟩) 2 2] : Array Value)[j]?) ∧ ∀ j, w5.cell? ⟨mb, j, none⟩ = (#[.map (some M), .int .i64 0, .map (some EB), .map (some MB)] : Array Value)[j]? := ⟨(cells_of hb5).1, (cells_of hm5).1⟩
 refine hK _ _ ⟨hSw5, ?_⟩
 clear hK K hS
 have hS := hSw5
 clear hSw5
 try simp only [Act.put, sd, se, sf]
 have hup := upd_new (P := Tryz.prog) Tryz.underlying146 Tryz.underlying9 hM5 hA (shS g cap pb)
 obtain ⟨w6, hw6⟩ : ∃ W, W = setBlock w5 M (.map (es.push ⟨.string ⟨#[83]⟩, shS g cap pb, clk⟩) (clk + 1)) := ⟨_, rfl⟩
 rw [← hw6] at hup
 have k6 : Kp (· = M) w5 w6 := by rw [hw6]; exact Kp.setB _ _ _ rfl
 have hM6 : w6.heap[M]? = some (.map (es.push ⟨.string ⟨#[83]⟩, shS g cap pb, clk⟩) (clk + 1)) := by rw [hw6]; exact setBlock_same _ _ _ (heap_lt hM5)
 clear hw6
 have z6 := k6.size
 have hm6 : w6.heap[mb]? = _ := (k6.block _ (heap_lt hm5) (fun e => hne e.symm)).trans hm5
 have hb6 : w6.heap[w.heap.size]? = _ := (k6.block _ (heap_lt hb5) (by omega)).trans hb5
 refine one 10 rfl (fun K hK => ?_)
 simp only [sa, sb, sc]
 go_simp
 have hSw6 : (∀ j, w6.cell? ⟨w.heap.size, j, none⟩ = (#[.int .i64 3, .string ⟨#[83]⟩, .int .i64 0, .int .i64 0, .slice (some ⟨KS, 0, none⟩) 2 2] : Array Value)[j]?) ∧ ∀ j, w6.cell? ⟨mb, j, none⟩ = (#[.map (some M), .int .i64 0, .map (some EB), .map (some MB)] : Array Value)[j]? := ⟨(cells_of hb6).1, (cells_of hm6).1⟩
 refine hK _ _ ⟨hSw6, ?_⟩
 clear hK K hS
 have hS := hSw6
 clear hSw6
 try simp only [Act.put, sd, se, sf]
 refine dn ?_
 try simp only [Act.put]
 obtain ⟨mc6, mf6⟩ := cells_of hm6
 go_wp2_with fail
 go_ret
 refine ⟨rfl, g, cap, pb, ?_, heap_set hm6 1 (.int .i64 1), hcap, ?_, ?_⟩
 ·exact (heap_set_other w6 mb M 1 (.int .i64 1) hne).trans hM6
 ·have hg := hsh.glo
  have hp := hsh.plo
  have hz := q4.size
  have k7 : Kp (· = mb) w6 (w6.setCell ⟨mb, 1, none⟩ (.int .i64 1)) := Kp.set _ _ _ _ rfl
  have z7 := k7.size
  have hg2 := hsh.ghi
  have hp2 := hsh.phi
  have K7 : Kp (fun i => i = mb ∨ i = M) w5 (w6.setCell ⟨mb, 1, none⟩ (.int .i64 1)) := (Kp.trans (S := fun i => i = mb ∨ i = M) ⟨k6.os, k6.tape, k6.output, k6.size, fun k hk hn => k6.block k hk fun e => hn (Or.inr e)⟩ k7 fun i _ h => Or.inl h)
  have h8 := hsh.kp K7 (by omega) (by omega)
  exact { h8 with glo := by omega, plo := by omega }
 ·exact ((Kp.of q5).trans k6 fun i _ h => Or.inl h).trans (Kp.set (S := (· = mb)) w6 mb 1 (.int .i64 1) rfl) fun i _ h => Or.inr h
end Go.Proofs.YtdbijkgnddcneaaGreatDoor.Lx
namespace Go.Proofs.YtdbijkgnddcneaaGreatDoor.Lx
open Go.RowKit Go.ChangeMaps
set_option maxRecDepth 100000
set_option maxHeartbeats 4000000
theorem name_T (M mb EB MB KT : Nat) (es : Array MapEntry) (clk : Nat) (w : World) (hM : w.heap[M]? = some (.map es clk)) (hA : Instr.findNow .string (.string ⟨#[84]⟩) es.toList 0 = some none) (hm : w.heap[mb]? = some (.cells #[.map (some M), .int .i64 1, .map (some EB), .map (some MB)] 151)) (hne : M ≠ mb) (hk : w.heap[KT]? = some (.cells #[.int .i64 8, .string ⟨#[97]⟩, .int .i64 0, .int .i64 0, .slice none 0 0] 98)) :
  Calls Tryz.prog 73 #[.pointer (some ⟨mb, 0, none⟩), .agg #[.int .i64 3, .string ⟨#[84]⟩, .int .i64 0, .int .i64 0, .slice (some ⟨KT, 0, none⟩) 1 1]] w (NameTP w M mb EB MB es clk) := by
 have hMl := heap_lt hM
 have hml := heap_lt hm
 have hKX := heap_lt hk
 go_enter Tryz.func73, Tryz.ntmps73
 go_wp2_with fail
 obtain ⟨U0, hU0⟩ : ∃ W, W = (w.alloc (.cells #[.int .i64 3, .string ⟨#[84]⟩, .int .i64 0, .int .i64 0, .slice (some ⟨KT, 0, none⟩) 1 1] 98)) := ⟨_, rfl⟩
 rw [← hU0]
 have u0 : Below w.heap.size w U0 := by rw [hU0]; exact below1 w _
 have y0 : w.heap.size < U0.heap.size := by rw [hU0]; simp
 have hM0 : U0.heap[M]? = some (.map es clk) := (u0.block _ hMl).trans hM
 have hm0 : U0.heap[mb]? = some (.cells #[.map (some M), .int .i64 1, .map (some EB), .map (some MB)] 151) := (u0.block _ hml).trans hm
 have hb0 : U0.heap[w.heap.size]? = some (.cells #[.int .i64 3, .string ⟨#[84]⟩, .int .i64 0, .int .i64 0, .slice (some ⟨KT, 0, none⟩) 1 1] 98) := by rw [hU0]; exact heap_new _ _ _ rfl
 clear hU0
 refine rg (S := fun W => (∀ j, W.cell? ⟨w.heap.size, j, none⟩ = (#[.int .i64 3, .string ⟨#[84]⟩, .int .i64 0, .int .i64 0, .slice (some ⟨KT, 0, none⟩) 1 1] : Array Value)[j]?) ∧ (∀ j, W.cell? ⟨mb, j, none⟩ = (#[.map (some M), .int .i64 1, .map (some EB), .map (some MB)] : Array Value)[j]?) ∧ W.heap[M]? = some (.map es clk)) (fun U1 hB4 HU1 => ?_)
 have hS : (∀ j, U1.cell? ⟨w.heap.size, j, none⟩ = (#[.int .i64 3, .string ⟨#[84]⟩, .int .i64 0, .int .i64 0, .slice (some ⟨KT, 0, none⟩) 1 1] : Array Value)[j]?) ∧ (∀ j, U1.cell? ⟨mb, j, none⟩ = (#[.map (some M), .int .i64 1, .map (some EB), .map (some MB)] : Array Value)[j]?) ∧ U1.heap[M]? = some (.map es clk) := ⟨(cells_of ((hB4.block _ (by omega)).trans hb0)).1, (cells_of ((hB4.block _ (by omega)).trans hm0)).1, (hB4.block _ (by omega)).trans hM0⟩
 refine tq 0 (.pointer (some ⟨mb, 0, none⟩)) rfl hS ?_
 simp only [sa, sb, Act.put, sd, se, sf]
 refine tq 1 (.pointer (some ⟨mb, 0, none⟩)) rfl hS ?_
 simp only [sa, sb, sc, Act.put, sd, se, sf]
 refine tq 2 (.pointer (some ⟨mb, 0, none⟩)) rfl hS ?_
 simp only [sa, sb, sc, Act.put, sd, se, sf]
 refine tk 3 (.map (some M)) rfl (.inl ⟨by rfl, ?r⟩) hS ?_
 case r => intro W hW; simp [go_sem, execOp, Act.eval, hW.2.1]
 simp only [sa, sb, sc, Act.put, sd, se, sf]
 refine tq 4 (.pointer (some ⟨w.heap.size, 1, none⟩)) rfl hS ?_
 simp only [sa, sb, sc, Act.put, sd, se, sf]
 refine tk 5 (.string ⟨#[84]⟩) rfl (.inl ⟨by rfl, ?r⟩) hS ?_
 case r => intro W hW; simp [go_sem, execOp, Act.eval, hW.1]
 simp only [sa, sb, sc, Act.put, sd, se, sf]
 refine tk 6 (.tuple #[.agg #[.int .i64 0, .bool false, .slice none 0 0, .map none], .bool false]) rfl (.inl ⟨by rfl, ?r⟩) hS ?_
 case r => intro W hW; simp [go_sem, execOp, Act.eval, look_no (P := Tryz.prog) Tryz.underlying146 Tryz.underlying9 hW.2.2 hA (Tryz.zeroValue199 _) true]
 simp only [sa, sb, sc, Act.put, sd, se, sf]
 refine tq 7 (.tuple #[.agg #[.int .i64 0, .bool false, .slice none 0 0, .map none], .bool false]) rfl hS ?_
 simp only [sa, sb, sc, Act.put, sd, se, sf]
 refine tq 8 (.agg #[.int .i64 0, .bool false, .slice none 0 0, .map none]) rfl hS ?_
 simp only [sa, sb, sc, Act.put, sd, se, sf]
 refine tq 9 (.bool false) rfl hS ?_
 simp only [sa, sb, sc, Act.put, sd, se, sf]
 have u1 : Below w.heap.size w U1 := u0.trans (hB4.mono (by omega))
 have y1 : w.heap.size < U1.heap.size := Nat.lt_of_lt_of_le y0 hB4.size
 have hM1 : U1.heap[M]? = some (.map es clk) := (hB4.block _ (by omega)).trans hM0
 have hm1 : U1.heap[mb]? = _ := (hB4.block _ (by omega)).trans hm0
 have hb1 : U1.heap[w.heap.size]? = _ := (hB4.block _ (by omega)).trans hb0
 clear HU1 hB4
 refine one 10 rfl (fun K hK => ?_)
 simp only [sa, sb, sc]
 go_simp
 obtain ⟨U2, hU2⟩ : ∃ W, W = U1.alloc (.cells #[.int .i64 0, .bool false, .slice none 0 0, .map none] 199) := ⟨_, rfl⟩
 rw [← hU2]
 have v2 : Below U1.heap.size U1 U2 := by rw [hU2]; exact below1 _ _
 have y2 : U1.heap.size < U2.heap.size := by rw [hU2]; simp
 have n2 : U2.heap[U1.heap.size]? = some (.cells #[.int .i64 0, .bool false, .slice none 0 0, .map none] 199) := by rw [hU2]; exact heap_new _ _ _ rfl
 clear hU2
 have hM2 : U2.heap[M]? = some (.map es clk) := (v2.block _ (by omega)).trans hM1
 have hm2 : U2.heap[mb]? = _ := (v2.block _ (by omega)).trans hm1
 have hb2 : U2.heap[w.heap.size]? = _ := (v2.block _ (by omega)).trans hb1
 have hSU2 : (∀ j, U2.cell? ⟨w.heap.size, j, none⟩ = (#[.int .i64 3, .string ⟨#[84]⟩, .int .i64 0, .int .i64 0, .slice (some ⟨KT, 0, none⟩) 1 1] : Array Value)[j]?) ∧ (∀ j, U2.cell? ⟨mb, j, none⟩ = (#[.map (some M), .int .i64 1, .map (some EB), .map (some MB)] : Array Value)[j]?) ∧ U2.heap[M]? = some (.map es clk) := ⟨(cells_of hb2).1, (cells_of hm2).1, hM2⟩
 refine hK _ _ ⟨hSU2, ?_⟩
 clear hK K hS
 have hS := hSU2
 clear hSU2
 try simp only [Act.put, sd, se, sf]
 obtain ⟨nc2, nf2⟩ := cells_of n2
 refine one 11 rfl (fun K hK => ?_)
 simp only [sa, sb, sc]
 go_simp
 obtain ⟨W2, hW2⟩ : ∃ W, W = (((U2.setCell ⟨U1.heap.size, 0, none⟩ (.int .i64 0)).setCell ⟨U1.heap.size, 1, none⟩ (.bool false)).setCell ⟨U1.heap.size, 2, none⟩ (.slice none 0 0)).setCell ⟨U1.heap.size, 3, none⟩ (.map none) := ⟨_, rfl⟩
 rw [← hW2]
 have v3 : Kp (· = U1.heap.size) U2 W2 := by rw [hW2]; exact kp_set4 _ _ _ _ _ _
 clear hW2
 have y3 := v3.size
 have hM3 : W2.heap[M]? = some (.map es clk) := (v3.block _ (by omega) (by omega)).trans hM2
 have hm3 : W2.heap[mb]? = _ := (v3.block _ (by omega) (by omega)).trans hm2
 have hb3 : W2.heap[w.heap.size]? = _ := (v3.block _ (by omega) (by omega)).trans hb2
 have hSW2 : (∀ j, W2.cell? ⟨w.heap.size, j, none⟩ = (#[.int .i64 3, .string ⟨#[84]⟩, .int .i64 0, .int .i64 0, .slice (some ⟨KT, 0, none⟩) 1 1] : Array Value)[j]?) ∧ (∀ j, W2.cell? ⟨mb, j, none⟩ = (#[.map (some M), .int .i64 1, .map (some EB), .map (some MB)] : Array Value)[j]?) ∧ W2.heap[M]? = some (.map es clk) := ⟨(cells_of hb3).1, (cells_of hm3).1, hM3⟩
 refine hK _ _ ⟨hSW2, ?_⟩
 clear hK K hS
 have hS := hSW2
 clear hSW2
 try simp only [Act.put, sd, se, sf]
 refine tq 12 (.bool false) rfl hS ?_
 simp only [sa, sb, sc, Act.put, sd, se, sf]
 refine dn ?_
 try simp only [Act.put]
 have b2 : Below w.heap.size w W2 := u1.trans ((v2.mono (by omega)).trans (v3.below (by omega) fun i hi h => by omega))
 have z2 : w.heap.size + 1 < W2.heap.size := by omega
 clear hM2 hm2 hb2 hM1 hm1 hb1 hM0 hm0 hb0 v3 v2 u1 u0 n2 nc2 nf2 hS y0 y1 y2 y3
 have hM2 := hM3
 have hm2 := hm3
 have hb2 := hb3
 clear hM3 hm3 hb3
 have mcW := (cells_of hm2).1
 have bcW := (cells_of hb2).1
 go_wp2_with fail
 clear mcW bcW
 refine rg (S := fun W => (∀ j, W.cell? ⟨w.heap.size, j, none⟩ = (#[.int .i64 3, .string ⟨#[84]⟩, .int .i64 0, .int .i64 0, .slice (some ⟨KT, 0, none⟩) 1 1] : Array Value)[j]?) ∧ ∀ j, W.cell? ⟨mb, j, none⟩ = (#[.map (some M), .int .i64 1, .map (some EB), .map (some MB)] : Array Value)[j]?) (fun W3 hB4 HW3 => ?_)
 have hS : (∀ j, W3.cell? ⟨w.heap.size, j, none⟩ = (#[.int .i64 3, .string ⟨#[84]⟩, .int .i64 0, .int .i64 0, .slice (some ⟨KT, 0, none⟩) 1 1] : Array Value)[j]?) ∧ ∀ j, W3.cell? ⟨mb, j, none⟩ = (#[.map (some M), .int .i64 1, .map (some EB), .map (some MB)] : Array Value)[j]? := ⟨(cells_of ((hB4.block _ (by omega)).trans hb2)).1, (cells_of ((hB4.block _ (by omega)).trans hm2)).1⟩
 refine tq 0 (.pointer (some ⟨w.heap.size, 0, none⟩)) rfl hS ?_
 simp only [sa, sb, Act.put, sd, se, sf]
 refine tk 1 (.int .i64 3) rfl (.inl ⟨by rfl, ?r⟩) hS ?_
 case r => intro W hW; simp [go_sem, execOp, Act.eval, hW.1]
 simp only [sa, sb, sc, Act.put, sd, se, sf]
 refine tq 2 (.bool false) rfl hS ?_
 simp only [sa, sb, sc, Act.put, sd, se, sf]
 refine tq 3 (.bool false) rfl hS ?_
 simp only [sa, sb, sc, Act.put, sd, se, sf]
 refine tk 4 undef rfl (.inr ⟨rfl, rfl⟩) hS ?_
 simp only [sa, sb, sc, Act.put, sd, se, sf]
 refine tk 5 undef rfl (.inr ⟨rfl, rfl⟩) hS ?_
 simp only [sa, sb, sc, Act.put, sd, se, sf]
 refine tk 6 undef rfl (.inr ⟨rfl, rfl⟩) hS ?_
 simp only [sa, sb, sc, Act.put, sd, se, sf]
 refine tk 7 undef rfl (.inr ⟨rfl, rfl⟩) hS ?_
 simp only [sa, sb, sc, Act.put, sd, se, sf]
 refine tk 8 undef rfl (.inr ⟨rfl, rfl⟩) hS ?_
 simp only [sa, sb, sc, Act.put, sd, se, sf]
 refine tk 9 undef rfl (.inr ⟨rfl, rfl⟩) hS ?_
 simp only [sa, sb, sc, Act.put, sd, se, sf]
 refine tk 10 undef rfl (.inr ⟨rfl, rfl⟩) hS ?_
 simp only [sa, sb, sc, Act.put, sd, se, sf]
 refine tk 11 undef rfl (.inr ⟨rfl, rfl⟩) hS ?_
 simp only [sa, sb, sc, Act.put, sd, se, sf]
 refine tk 12 undef rfl (.inr ⟨rfl, rfl⟩) hS ?_
 simp only [sa, sb, sc, Act.put, sd, se, sf]
 refine tk 13 undef rfl (.inr ⟨rfl, rfl⟩) hS ?_
 simp only [sa, sb, sc, Act.put, sd, se, sf]
 refine tk 14 undef rfl (.inr ⟨rfl, rfl⟩) hS ?_
 simp only [sa, sb, sc, Act.put, sd, se, sf]
 refine tk 15 undef rfl (.inr ⟨rfl, rfl⟩) hS ?_
 simp only [sa, sb, sc, Act.put, sd, se, sf]
 refine tq 16 (.bool false) rfl hS ?_
 simp only [sa, sb, sc, Act.put, sd, se, sf]
 refine dn ?_
 try simp only [Act.put]
 have b3 : Below w.heap.size w W3 := b2.trans (hB4.mono (by omega))
 have z3 : w.heap.size + 1 < W3.heap.size := Nat.lt_of_lt_of_le z2 hB4.size
 have hM3' : W3.heap[M]? = some (.map es clk) := (hB4.block _ (by omega)).trans hM2
 have hm3' : W3.heap[mb]? = _ := (hB4.block _ (by omega)).trans hm2
 have hb3' : W3.heap[w.heap.size]? = _ := (hB4.block _ (by omega)).trans hb2
 clear HW3 hB4 hS
 go_wp2_with fail
 refine rg (S := fun W => (∀ j, W.cell? ⟨w.heap.size, j, none⟩ = (#[.int .i64 3, .string ⟨#[84]⟩, .int .i64 0, .int .i64 0, .slice (some ⟨KT, 0, none⟩) 1 1] : Array Value)[j]?) ∧ ∀ j, W.cell? ⟨mb, j, none⟩ = (#[.map (some M), .int .i64 1, .map (some EB), .map (some MB)] : Array Value)[j]?) (fun V0 hB4 HV0 => ?_)
 have hS : (∀ j, V0.cell? ⟨w.heap.size, j, none⟩ = (#[.int .i64 3, .string ⟨#[84]⟩, .int .i64 0, .int .i64 0, .slice (some ⟨KT, 0, none⟩) 1 1] : Array Value)[j]?) ∧ ∀ j, V0.cell? ⟨mb, j, none⟩ = (#[.map (some M), .int .i64 1, .map (some EB), .map (some MB)] : Array Value)[j]? := ⟨(cells_of ((hB4.block _ (by omega)).trans hb3')).1, (cells_of ((hB4.block _ (by omega)).trans hm3')).1⟩
 refine tq 0 (.pointer (some ⟨mb, 0, none⟩)) rfl hS ?_
 simp only [sa, sb, Act.put, sd, se, sf]
 refine tq 1 (.pointer (some ⟨mb, 0, none⟩)) rfl hS ?_
 simp only [sa, sb, sc, Act.put, sd, se, sf]
 refine tq 2 (.pointer (some ⟨mb, 0, none⟩)) rfl hS ?_
 simp only [sa, sb, sc, Act.put, sd, se, sf]
 refine tk 3 (.map (some M)) rfl (.inl ⟨by rfl, ?r⟩) hS ?_
 case r => intro W hW; simp [go_sem, execOp, Act.eval, hW.2]
 simp only [sa, sb, sc, Act.put, sd, se, sf]
 refine tq 4 (.pointer (some ⟨w.heap.size, 1, none⟩)) rfl hS ?_
 simp only [sa, sb, sc, Act.put, sd, se, sf]
 refine tk 5 (.string ⟨#[84]⟩) rfl (.inl ⟨by rfl, ?r⟩) hS ?_
 case r => intro W hW; simp [go_sem, execOp, Act.eval, hW.1]
 simp only [sa, sb, sc, Act.put, sd, se, sf]
 refine tq 7 (.pointer (some ⟨mb, 0, none⟩)) rfl hS ?_
 simp only [sa, sb, sc, Act.put, sd, se, sf]
 refine tk 8 (.agg #[.int .i64 3, .string ⟨#[84]⟩, .int .i64 0, .int .i64 0, .slice (some ⟨KT, 0, none⟩) 1 1]) rfl (.inl ⟨by rfl, ?r⟩) hS ?_
 case r => intro W hW; simp [go_sem, execOp, Act.eval, hW.1]
 simp only [sa, sb, sc, Act.put, sd, se, sf]
 have q0 : Below w.heap.size w V0 := b3.trans (hB4.mono (by omega))
 have z0 : w.heap.size + 1 < V0.heap.size := Nat.lt_of_lt_of_le z3 hB4.size
 have hM3 : V0.heap[M]? = some (.map es clk) := (hB4.block _ (by omega)).trans hM3'
 have hm3 : V0.heap[mb]? = _ := (hB4.block _ (by omega)).trans hm3'
 have hb3 : V0.heap[w.heap.size]? = _ := (hB4.block _ (by omega)).trans hb3'
 clear HV0
 refine one 6 rfl (fun K hK => ?_)
 simp only [sa, sb, sc]
 go_simp
 refine (clone_any _ _ (by decide)).mono ?_
 rintro r w4 ⟨rfl, b4⟩
 have q4 : Below w.heap.size w w4 := q0.trans (b4.mono q0.size)
 have z4 : w.heap.size + 1 < w4.heap.size := Nat.lt_of_lt_of_le z0 b4.size
 have hM4 : w4.heap[M]? = some (.map es clk) := (b4.block _ (by omega)).trans hM3
 have hm4 : w4.heap[mb]? = _ := (b4.block _ (by omega)).trans hm3
 have hb4 : w4.heap[w.heap.size]? = _ := (b4.block _ (by omega)).trans hb3
 go_simp
 have hSw4 : (∀ j, w4.cell? ⟨w.heap.size, j, none⟩ = (#[.int .i64 3, .string ⟨#[84]⟩, .int .i64 0, .int .i64 0, .slice (some ⟨KT, 0, none⟩) 1 1] : Array Value)[j]?) ∧ ∀ j, w4.cell? ⟨mb, j, none⟩ = (#[.map (some M), .int .i64 1, .map (some EB), .map (some MB)] : Array Value)[j]? := ⟨(cells_of hb4).1, (cells_of hm4).1⟩
 refine hK _ _ ⟨hSw4, ?_⟩
 clear hK K hS
 have hS := hSw4
 clear hSw4
 try simp only [Act.put, sd, se, sf]
 refine one 9 rfl (fun K hK => ?_)
 simp only [sa, sb, sc]
 go_simp
 refine (begun_T mb KT _ ((q4.block _ hKX).trans hk)).mono ?_
 rintro r w5 ⟨g, cap, pb, rfl, hcap, hsh, b5⟩
 have q5 : Below w.heap.size w w5 := q4.trans (b5.mono q4.size)
 have z5 : w.heap.size + 1 < w5.heap.size := Nat.lt_of_lt_of_le z4 b5.size
 have hM5 : w5.heap[M]? = some (.map es clk) := (b5.block _ (by omega)).trans hM4
 have hm5 : w5.heap[mb]? = _ := (b5.block _ (by omega)).trans hm4
 have hb5 : w5.heap[w.heap.size]? = _ := (b5.block _ (by omega)).trans hb4
 go_simp
 have hSw5 : (∀ j, w5.cell? ⟨w.heap.size, j, none⟩ = (#[.int .i64 3, .string ⟨#[84]⟩, .int .i64 0, .int .i64 0, .slice (some ⟨KT, 0, none⟩) 1 1] : Array Value)[j]?) ∧ ∀ j, w5.cell? ⟨mb, j, none⟩ = (#[.map (some M), .int .i64 1, .map (some EB), .map (some MB)] : Array Value)[j]? := ⟨(cells_of hb5).1, (cells_of hm5).1⟩
 refine hK _ _ ⟨hSw5, ?_⟩
 clear hK K hS
 have hS := hSw5
 clear hSw5
 try simp only [Act.put, sd, se, sf]
 have hup := upd_new (P := Tryz.prog) Tryz.underlying146 Tryz.underlying9 hM5 hA (shT g cap pb)
 obtain ⟨w6, hw6⟩ : ∃ W, W = setBlock w5 M (.map (es.push ⟨.string ⟨#[84]⟩, shT g cap pb, clk⟩) (clk + 1)) := ⟨_, rfl⟩
 rw [← hw6] at hup
 have k6 : Kp (· = M) w5 w6 := by rw [hw6]; exact Kp.setB _ _ _ rfl
 have hM6 : w6.heap[M]? = some (.map (es.push ⟨.string ⟨#[84]⟩, shT g cap pb, clk⟩) (clk + 1)) := by rw [hw6]; exact setBlock_same _ _ _ (heap_lt hM5)
 clear hw6
 have z6 := k6.size
 have hm6 : w6.heap[mb]? = _ := (k6.block _ (heap_lt hm5) (fun e => hne e.symm)).trans hm5
 have hb6 : w6.heap[w.heap.size]? = _ := (k6.block _ (heap_lt hb5) (by omega)).trans hb5
 refine one 10 rfl (fun K hK => ?_)
 simp only [sa, sb, sc]
 go_simp
 have hSw6 : (∀ j, w6.cell? ⟨w.heap.size, j, none⟩ = (#[.int .i64 3, .string ⟨#[84]⟩, .int .i64 0, .int .i64 0, .slice (some ⟨KT, 0, none⟩) 1 1] : Array Value)[j]?) ∧ ∀ j, w6.cell? ⟨mb, j, none⟩ = (#[.map (some M), .int .i64 1, .map (some EB), .map (some MB)] : Array Value)[j]? := ⟨(cells_of hb6).1, (cells_of hm6).1⟩
 refine hK _ _ ⟨hSw6, ?_⟩
 clear hK K hS
 have hS := hSw6
 clear hSw6
 try simp only [Act.put, sd, se, sf]
 refine dn ?_
 try simp only [Act.put]
 obtain ⟨mc6, mf6⟩ := cells_of hm6
 go_wp2_with fail
 go_ret
 refine ⟨rfl, g, cap, pb, ?_, heap_set hm6 1 (.int .i64 2), hcap, ?_, ?_⟩
 ·exact (heap_set_other w6 mb M 1 (.int .i64 2) hne).trans hM6
 ·have hg := hsh.glo
  have hp := hsh.plo
  have hz := q4.size
  have k7 : Kp (· = mb) w6 (w6.setCell ⟨mb, 1, none⟩ (.int .i64 2)) := Kp.set _ _ _ _ rfl
  have z7 := k7.size
  have hg2 := hsh.ghi
  have hp2 := hsh.phi
  have K7 : Kp (fun i => i = mb ∨ i = M) w5 (w6.setCell ⟨mb, 1, none⟩ (.int .i64 2)) := (Kp.trans (S := fun i => i = mb ∨ i = M) ⟨k6.os, k6.tape, k6.output, k6.size, fun k hk hn => k6.block k hk fun e => hn (Or.inr e)⟩ k7 fun i _ h => Or.inl h)
  have h8 := hsh.kp K7 (by omega) (by omega)
  exact { h8 with glo := by omega, plo := by omega }
 ·exact ((Kp.of q5).trans k6 fun i _ h => Or.inl h).trans (Kp.set (S := (· = mb)) w6 mb 1 (.int .i64 2) rfl) fun i _ h => Or.inr h
end Go.Proofs.YtdbijkgnddcneaaGreatDoor.Lx
namespace Go.Proofs.YtdbijkgnddcneaaGreatDoor.Lx
open Go.RowKit Go.ChangeMaps
set_option maxRecDepth 100000
set_option maxHeartbeats 4000000
theorem embed_f (M mb EB MB : Nat) (es : Array MapEntry) (clk : Nat) (w : World) (hM : w.heap[M]? = some (.map es clk)) (hm : w.heap[mb]? = some (.cells #[.map (some M), .int .i64 2, .map (some EB), .map (some MB)] 151)) (hX : Instr.findNow .string (.string ⟨#[102]⟩) es.toList 0 = some none) :
  Calls Tryz.prog 154 #[.pointer (some ⟨mb, 0, none⟩), .agg #[.int .i64 8, .string ⟨#[102]⟩, .int .i64 0, .int .i64 0, .slice none 0 0]] w fun e w' => e = .returned (.tuple #[.int .i64 0, .nilIface]) ∧ Below w.heap.size w w' := by
 have hMl := heap_lt hM
 have hml := heap_lt hm
 go_enter Tryz.func154, Tryz.ntmps154
 go_wp2_with fail
 obtain ⟨U0, hU0⟩ : ∃ W, W = w.alloc (.cells #[.int .i64 8, .string ⟨#[102]⟩, .int .i64 0, .int .i64 0, .slice none 0 0] 98) := ⟨_, rfl⟩
 rw [← hU0]
 have u0 : Below w.heap.size w U0 := by rw [hU0]; exact below1 w _
 have y0 : w.heap.size < U0.heap.size := by rw [hU0]; simp
 have hM0 : U0.heap[M]? = some (.map es clk) := (u0.block _ hMl).trans hM
 have hm0 : U0.heap[mb]? = _ := (u0.block _ hml).trans hm
 have hb0 : U0.heap[w.heap.size]? = some (.cells #[.int .i64 8, .string ⟨#[102]⟩, .int .i64 0, .int .i64 0, .slice none 0 0] 98) := by rw [hU0]; exact heap_new _ _ _ rfl
 clear hU0
 refine rg (S := fun W => (∀ j, W.cell? ⟨w.heap.size, j, none⟩ = (#[.int .i64 8, .string ⟨#[102]⟩, .int .i64 0, .int .i64 0, .slice none 0 0] : Array Value)[j]?) ∧ (∀ j, W.cell? ⟨mb, j, none⟩ = (#[.map (some M), .int .i64 2, .map (some EB), .map (some MB)] : Array Value)[j]?) ∧ W.heap[M]? = some (.map es clk)) (fun U1 hB4 HU1 => ?_)
 have hS : (∀ j, U1.cell? ⟨w.heap.size, j, none⟩ = (#[.int .i64 8, .string ⟨#[102]⟩, .int .i64 0, .int .i64 0, .slice none 0 0] : Array Value)[j]?) ∧ (∀ j, U1.cell? ⟨mb, j, none⟩ = (#[.map (some M), .int .i64 2, .map (some EB), .map (some MB)] : Array Value)[j]?) ∧ U1.heap[M]? = some (.map es clk) := ⟨(cells_of ((hB4.block _ (by omega)).trans hb0)).1, (cells_of ((hB4.block _ (by omega)).trans hm0)).1, (hB4.block _ (by omega)).trans hM0⟩
 refine tq 0 (.pointer (some ⟨mb, 0, none⟩)) rfl hS ?_
 simp only [sa, sb, Act.put, sd, se, sf]
 refine tq 1 (.pointer (some ⟨mb, 0, none⟩)) rfl hS ?_
 simp only [sa, sb, sc, Act.put, sd, se, sf]
 refine tq 2 (.pointer (some ⟨mb, 0, none⟩)) rfl hS ?_
 simp only [sa, sb, sc, Act.put, sd, se, sf]
 refine tk 3 (.map (some M)) rfl (.inl ⟨by rfl, ?r⟩) hS ?_
 case r => intro W hW; simp [go_sem, execOp, Act.eval, hW.2.1]
 simp only [sa, sb, sc, Act.put, sd, se, sf]
 refine tq 4 (.pointer (some ⟨w.heap.size, 1, none⟩)) rfl hS ?_
 simp only [sa, sb, sc, Act.put, sd, se, sf]
 refine tk 5 (.string ⟨#[102]⟩) rfl (.inl ⟨by rfl, ?r⟩) hS ?_
 case r => intro W hW; simp [go_sem, execOp, Act.eval, hW.1]
 simp only [sa, sb, sc, Act.put, sd, se, sf]
 refine tk 6 (.tuple #[.agg #[.int .i64 0, .bool false, .slice none 0 0, .map none], .bool false]) rfl (.inl ⟨by rfl, ?r⟩) hS ?_
 case r => intro W hW; simp [go_sem, execOp, Act.eval, look_no (P := Tryz.prog) Tryz.underlying146 Tryz.underlying9 hW.2.2 hX (Tryz.zeroValue199 _) true]
 simp only [sa, sb, sc, Act.put, sd, se, sf]
 refine tq 7 (.tuple #[.agg #[.int .i64 0, .bool false, .slice none 0 0, .map none], .bool false]) rfl hS ?_
 simp only [sa, sb, sc, Act.put, sd, se, sf]
 refine tq 8 (.agg #[.int .i64 0, .bool false, .slice none 0 0, .map none]) rfl hS ?_
 simp only [sa, sb, sc, Act.put, sd, se, sf]
 refine tq 9 (.bool false) rfl hS ?_
 simp only [sa, sb, sc, Act.put, sd, se, sf]
 have u1 : Below w.heap.size w U1 := u0.trans (hB4.mono (by omega))
 have y1 : w.heap.size < U1.heap.size := Nat.lt_of_lt_of_le y0 hB4.size
 have hM1 : U1.heap[M]? = some (.map es clk) := (hB4.block _ (by omega)).trans hM0
 have hm1 : U1.heap[mb]? = _ := (hB4.block _ (by omega)).trans hm0
 have hb1 : U1.heap[w.heap.size]? = _ := (hB4.block _ (by omega)).trans hb0
 clear HU1 hB4
 refine one 10 rfl (fun K hK => ?_)
 simp only [sa, sb, sc]
 go_simp
 obtain ⟨U2, hU2⟩ : ∃ W, W = U1.alloc (.cells #[.int .i64 0, .bool false, .slice none 0 0, .map none] 199) := ⟨_, rfl⟩
 rw [← hU2]
 have v2 : Below U1.heap.size U1 U2 := by rw [hU2]; exact below1 _ _
 have y2 : U1.heap.size < U2.heap.size := by rw [hU2]; simp
 have n2 : U2.heap[U1.heap.size]? = some (.cells #[.int .i64 0, .bool false, .slice none 0 0, .map none] 199) := by rw [hU2]; exact heap_new _ _ _ rfl
 clear hU2
 have hM2 : U2.heap[M]? = some (.map es clk) := (v2.block _ (by omega)).trans hM1
 have hm2 : U2.heap[mb]? = _ := (v2.block _ (by omega)).trans hm1
 have hb2 : U2.heap[w.heap.size]? = _ := (v2.block _ (by omega)).trans hb1
 have hSU2 : (∀ j, U2.cell? ⟨w.heap.size, j, none⟩ = (#[.int .i64 8, .string ⟨#[102]⟩, .int .i64 0, .int .i64 0, .slice none 0 0] : Array Value)[j]?) ∧ (∀ j, U2.cell? ⟨mb, j, none⟩ = (#[.map (some M), .int .i64 2, .map (some EB), .map (some MB)] : Array Value)[j]?) ∧ U2.heap[M]? = some (.map es clk) := ⟨(cells_of hb2).1, (cells_of hm2).1, hM2⟩
 refine hK _ _ ⟨hSU2, ?_⟩
 clear hK K hS
 have hS := hSU2
 clear hSU2
 try simp only [Act.put, sd, se, sf]
 obtain ⟨nc2, nf2⟩ := cells_of n2
 refine one 11 rfl (fun K hK => ?_)
 simp only [sa, sb, sc]
 go_simp
 obtain ⟨W2, hW2⟩ : ∃ W, W = (((U2.setCell ⟨U1.heap.size, 0, none⟩ (.int .i64 0)).setCell ⟨U1.heap.size, 1, none⟩ (.bool false)).setCell ⟨U1.heap.size, 2, none⟩ (.slice none 0 0)).setCell ⟨U1.heap.size, 3, none⟩ (.map none) := ⟨_, rfl⟩
 rw [← hW2]
 have v3 : Kp (· = U1.heap.size) U2 W2 := by rw [hW2]; exact kp_set4 _ _ _ _ _ _
 have n3 : W2.heap[U1.heap.size]? = some (.cells #[.int .i64 0, .bool false, .slice none 0 0, .map none] 199) := by rw [hW2]; exact heap_set (heap_set (heap_set (heap_set n2 0 _) 1 _) 2 _) 3 _
 clear hW2
 have y3 := v3.size
 have hM3 : W2.heap[M]? = some (.map es clk) := (v3.block _ (by omega) (by omega)).trans hM2
 have hm3 : W2.heap[mb]? = _ := (v3.block _ (by omega) (by omega)).trans hm2
 have hb3 : W2.heap[w.heap.size]? = _ := (v3.block _ (by omega) (by omega)).trans hb2
 have hSW2 : (∀ j, W2.cell? ⟨w.heap.size, j, none⟩ = (#[.int .i64 8, .string ⟨#[102]⟩, .int .i64 0, .int .i64 0, .slice none 0 0] : Array Value)[j]?) ∧ (∀ j, W2.cell? ⟨mb, j, none⟩ = (#[.map (some M), .int .i64 2, .map (some EB), .map (some MB)] : Array Value)[j]?) ∧ W2.heap[M]? = some (.map es clk) := ⟨(cells_of hb3).1, (cells_of hm3).1, hM3⟩
 refine hK _ _ ⟨hSW2, ?_⟩
 clear hK K hS
 have hS := hSW2
 clear hSW2
 try simp only [Act.put, sd, se, sf]
 refine tq 12 (.bool false) rfl hS ?_
 simp only [sa, sb, sc, Act.put, sd, se, sf]
 refine dn ?_
 try simp only [Act.put]
 have b2 : Below w.heap.size w W2 := u1.trans ((v2.mono (by omega)).trans (v3.below (by omega) fun i hi h => by omega))
 have z2 : w.heap.size + 1 < W2.heap.size := by omega
 have sbl : w.heap.size + 1 ≤ U1.heap.size ∧ U1.heap.size < W2.heap.size := by omega
 clear hM2 hm2 hb2 hM1 hm1 hb1 hM0 hm0 hb0 v3 v2 u1 u0 n2 nc2 nf2 hS y0 y1 y2 y3
 have hM2 := hM3
 have hm2 := hm3
 have hb2 := hb3
 clear hM3 hm3 hb3
 obtain ⟨sb, hsb⟩ : ∃ n, n = U1.heap.size := ⟨_, rfl⟩
 rw [← hsb] at n3 sbl ⊢
 clear hsb U1
 have bc := (cells_of hb2).1
 go_wp2_with fail
 go_ret2
 exact ⟨rfl, b2⟩
theorem embed_g (M mb EB MB : Nat) (es : Array MapEntry) (clk : Nat) (w : World) (hM : w.heap[M]? = some (.map es clk)) (hm : w.heap[mb]? = some (.cells #[.map (some M), .int .i64 2, .map (some EB), .map (some MB)] 151)) (hX : Instr.findNow .string (.string ⟨#[103]⟩) es.toList 0 = some none) :
  Calls Tryz.prog 154 #[.pointer (some ⟨mb, 0, none⟩), .agg #[.int .i64 8, .string ⟨#[103]⟩, .int .i64 0, .int .i64 0, .slice none 0 0]] w fun e w' => e = .returned (.tuple #[.int .i64 0, .nilIface]) ∧ Below w.heap.size w w' := by
 have hMl := heap_lt hM
 have hml := heap_lt hm
 go_enter Tryz.func154, Tryz.ntmps154
 go_wp2_with fail
 obtain ⟨U0, hU0⟩ : ∃ W, W = w.alloc (.cells #[.int .i64 8, .string ⟨#[103]⟩, .int .i64 0, .int .i64 0, .slice none 0 0] 98) := ⟨_, rfl⟩
 rw [← hU0]
 have u0 : Below w.heap.size w U0 := by rw [hU0]; exact below1 w _
 have y0 : w.heap.size < U0.heap.size := by rw [hU0]; simp
 have hM0 : U0.heap[M]? = some (.map es clk) := (u0.block _ hMl).trans hM
 have hm0 : U0.heap[mb]? = _ := (u0.block _ hml).trans hm
 have hb0 : U0.heap[w.heap.size]? = some (.cells #[.int .i64 8, .string ⟨#[103]⟩, .int .i64 0, .int .i64 0, .slice none 0 0] 98) := by rw [hU0]; exact heap_new _ _ _ rfl
 clear hU0
 refine rg (S := fun W => (∀ j, W.cell? ⟨w.heap.size, j, none⟩ = (#[.int .i64 8, .string ⟨#[103]⟩, .int .i64 0, .int .i64 0, .slice none 0 0] : Array Value)[j]?) ∧ (∀ j, W.cell? ⟨mb, j, none⟩ = (#[.map (some M), .int .i64 2, .map (some EB), .map (some MB)] : Array Value)[j]?) ∧ W.heap[M]? = some (.map es clk)) (fun U1 hB4 HU1 => ?_)
 have hS : (∀ j, U1.cell? ⟨w.heap.size, j, none⟩ = (#[.int .i64 8, .string ⟨#[103]⟩, .int .i64 0, .int .i64 0, .slice none 0 0] : Array Value)[j]?) ∧ (∀ j, U1.cell? ⟨mb, j, none⟩ = (#[.map (some M), .int .i64 2, .map (some EB), .map (some MB)] : Array Value)[j]?) ∧ U1.heap[M]? = some (.map es clk) := ⟨(cells_of ((hB4.block _ (by omega)).trans hb0)).1, (cells_of ((hB4.block _ (by omega)).trans hm0)).1, (hB4.block _ (by omega)).trans hM0⟩
 refine tq 0 (.pointer (some ⟨mb, 0, none⟩)) rfl hS ?_
 simp only [sa, sb, Act.put, sd, se, sf]
 refine tq 1 (.pointer (some ⟨mb, 0, none⟩)) rfl hS ?_
 simp only [sa, sb, sc, Act.put, sd, se, sf]
 refine tq 2 (.pointer (some ⟨mb, 0, none⟩)) rfl hS ?_
 simp only [sa, sb, sc, Act.put, sd, se, sf]
 refine tk 3 (.map (some M)) rfl (.inl ⟨by rfl, ?r⟩) hS ?_
 case r => intro W hW; simp [go_sem, execOp, Act.eval, hW.2.1]
 simp only [sa, sb, sc, Act.put, sd, se, sf]
 refine tq 4 (.pointer (some ⟨w.heap.size, 1, none⟩)) rfl hS ?_
 simp only [sa, sb, sc, Act.put, sd, se, sf]
 refine tk 5 (.string ⟨#[103]⟩) rfl (.inl ⟨by rfl, ?r⟩) hS ?_
 case r => intro W hW; simp [go_sem, execOp, Act.eval, hW.1]
 simp only [sa, sb, sc, Act.put, sd, se, sf]
 refine tk 6 (.tuple #[.agg #[.int .i64 0, .bool false, .slice none 0 0, .map none], .bool false]) rfl (.inl ⟨by rfl, ?r⟩) hS ?_
 case r => intro W hW; simp [go_sem, execOp, Act.eval, look_no (P := Tryz.prog) Tryz.underlying146 Tryz.underlying9 hW.2.2 hX (Tryz.zeroValue199 _) true]
 simp only [sa, sb, sc, Act.put, sd, se, sf]
 refine tq 7 (.tuple #[.agg #[.int .i64 0, .bool false, .slice none 0 0, .map none], .bool false]) rfl hS ?_
 simp only [sa, sb, sc, Act.put, sd, se, sf]
 refine tq 8 (.agg #[.int .i64 0, .bool false, .slice none 0 0, .map none]) rfl hS ?_
 simp only [sa, sb, sc, Act.put, sd, se, sf]
 refine tq 9 (.bool false) rfl hS ?_
 simp only [sa, sb, sc, Act.put, sd, se, sf]
 have u1 : Below w.heap.size w U1 := u0.trans (hB4.mono (by omega))
 have y1 : w.heap.size < U1.heap.size := Nat.lt_of_lt_of_le y0 hB4.size
 have hM1 : U1.heap[M]? = some (.map es clk) := (hB4.block _ (by omega)).trans hM0
 have hm1 : U1.heap[mb]? = _ := (hB4.block _ (by omega)).trans hm0
 have hb1 : U1.heap[w.heap.size]? = _ := (hB4.block _ (by omega)).trans hb0
 clear HU1 hB4
 refine one 10 rfl (fun K hK => ?_)
 simp only [sa, sb, sc]
 go_simp
 obtain ⟨U2, hU2⟩ : ∃ W, W = U1.alloc (.cells #[.int .i64 0, .bool false, .slice none 0 0, .map none] 199) := ⟨_, rfl⟩
 rw [← hU2]
 have v2 : Below U1.heap.size U1 U2 := by rw [hU2]; exact below1 _ _
 have y2 : U1.heap.size < U2.heap.size := by rw [hU2]; simp
 have n2 : U2.heap[U1.heap.size]? = some (.cells #[.int .i64 0, .bool false, .slice none 0 0, .map none] 199) := by rw [hU2]; exact heap_new _ _ _ rfl
 clear hU2
 have hM2 : U2.heap[M]? = some (.map es clk) := (v2.block _ (by omega)).trans hM1
 have hm2 : U2.heap[mb]? = _ := (v2.block _ (by omega)).trans hm1
 have hb2 : U2.heap[w.heap.size]? = _ := (v2.block _ (by omega)).trans hb1
 have hSU2 : (∀ j, U2.cell? ⟨w.heap.size, j, none⟩ = (#[.int .i64 8, .string ⟨#[103]⟩, .int .i64 0, .int .i64 0, .slice none 0 0] : Array Value)[j]?) ∧ (∀ j, U2.cell? ⟨mb, j, none⟩ = (#[.map (some M), .int .i64 2, .map (some EB), .map (some MB)] : Array Value)[j]?) ∧ U2.heap[M]? = some (.map es clk) := ⟨(cells_of hb2).1, (cells_of hm2).1, hM2⟩
 refine hK _ _ ⟨hSU2, ?_⟩
 clear hK K hS
 have hS := hSU2
 clear hSU2
 try simp only [Act.put, sd, se, sf]
 obtain ⟨nc2, nf2⟩ := cells_of n2
 refine one 11 rfl (fun K hK => ?_)
 simp only [sa, sb, sc]
 go_simp
 obtain ⟨W2, hW2⟩ : ∃ W, W = (((U2.setCell ⟨U1.heap.size, 0, none⟩ (.int .i64 0)).setCell ⟨U1.heap.size, 1, none⟩ (.bool false)).setCell ⟨U1.heap.size, 2, none⟩ (.slice none 0 0)).setCell ⟨U1.heap.size, 3, none⟩ (.map none) := ⟨_, rfl⟩
 rw [← hW2]
 have v3 : Kp (· = U1.heap.size) U2 W2 := by rw [hW2]; exact kp_set4 _ _ _ _ _ _
 have n3 : W2.heap[U1.heap.size]? = some (.cells #[.int .i64 0, .bool false, .slice none 0 0, .map none] 199) := by rw [hW2]; exact heap_set (heap_set (heap_set (heap_set n2 0 _) 1 _) 2 _) 3 _
 clear hW2
 have y3 := v3.size
 have hM3 : W2.heap[M]? = some (.map es clk) := (v3.block _ (by omega) (by omega)).trans hM2
 have hm3 : W2.heap[mb]? = _ := (v3.block _ (by omega) (by omega)).trans hm2
 have hb3 : W2.heap[w.heap.size]? = _ := (v3.block _ (by omega) (by omega)).trans hb2
 have hSW2 : (∀ j, W2.cell? ⟨w.heap.size, j, none⟩ = (#[.int .i64 8, .string ⟨#[103]⟩, .int .i64 0, .int .i64 0, .slice none 0 0] : Array Value)[j]?) ∧ (∀ j, W2.cell? ⟨mb, j, none⟩ = (#[.map (some M), .int .i64 2, .map (some EB), .map (some MB)] : Array Value)[j]?) ∧ W2.heap[M]? = some (.map es clk) := ⟨(cells_of hb3).1, (cells_of hm3).1, hM3⟩
 refine hK _ _ ⟨hSW2, ?_⟩
 clear hK K hS
 have hS := hSW2
 clear hSW2
 try simp only [Act.put, sd, se, sf]
 refine tq 12 (.bool false) rfl hS ?_
 simp only [sa, sb, sc, Act.put, sd, se, sf]
 refine dn ?_
 try simp only [Act.put]
 have b2 : Below w.heap.size w W2 := u1.trans ((v2.mono (by omega)).trans (v3.below (by omega) fun i hi h => by omega))
 have z2 : w.heap.size + 1 < W2.heap.size := by omega
 have sbl : w.heap.size + 1 ≤ U1.heap.size ∧ U1.heap.size < W2.heap.size := by omega
 clear hM2 hm2 hb2 hM1 hm1 hb1 hM0 hm0 hb0 v3 v2 u1 u0 n2 nc2 nf2 hS y0 y1 y2 y3
 have hM2 := hM3
 have hm2 := hm3
 have hb2 := hb3
 clear hM3 hm3 hb3
 obtain ⟨sb, hsb⟩ : ∃ n, n = U1.heap.size := ⟨_, rfl⟩
 rw [← hsb] at n3 sbl ⊢
 clear hsb U1
 have bc := (cells_of hb2).1
 go_wp2_with fail
 go_ret2
 exact ⟨rfl, b2⟩
theorem embed_a (M mb EB MB : Nat) (es : Array MapEntry) (clk : Nat) (w : World) (hM : w.heap[M]? = some (.map es clk)) (hm : w.heap[mb]? = some (.cells #[.map (some M), .int .i64 2, .map (some EB), .map (some MB)] 151)) (hX : Instr.findNow .string (.string ⟨#[97]⟩) es.toList 0 = some none) :
  Calls Tryz.prog 154 #[.pointer (some ⟨mb, 0, none⟩), .agg #[.int .i64 8, .string ⟨#[97]⟩, .int .i64 0, .int .i64 0, .slice none 0 0]] w fun e w' => e = .returned (.tuple #[.int .i64 0, .nilIface]) ∧ Below w.heap.size w w' := by
 have hMl := heap_lt hM
 have hml := heap_lt hm
 go_enter Tryz.func154, Tryz.ntmps154
 go_wp2_with fail
 obtain ⟨U0, hU0⟩ : ∃ W, W = w.alloc (.cells #[.int .i64 8, .string ⟨#[97]⟩, .int .i64 0, .int .i64 0, .slice none 0 0] 98) := ⟨_, rfl⟩
 rw [← hU0]
 have u0 : Below w.heap.size w U0 := by rw [hU0]; exact below1 w _
 have y0 : w.heap.size < U0.heap.size := by rw [hU0]; simp
 have hM0 : U0.heap[M]? = some (.map es clk) := (u0.block _ hMl).trans hM
 have hm0 : U0.heap[mb]? = _ := (u0.block _ hml).trans hm
 have hb0 : U0.heap[w.heap.size]? = some (.cells #[.int .i64 8, .string ⟨#[97]⟩, .int .i64 0, .int .i64 0, .slice none 0 0] 98) := by rw [hU0]; exact heap_new _ _ _ rfl
 clear hU0
 refine rg (S := fun W => (∀ j, W.cell? ⟨w.heap.size, j, none⟩ = (#[.int .i64 8, .string ⟨#[97]⟩, .int .i64 0, .int .i64 0, .slice none 0 0] : Array Value)[j]?) ∧ (∀ j, W.cell? ⟨mb, j, none⟩ = (#[.map (some M), .int .i64 2, .map (some EB), .map (some MB)] : Array Value)[j]?) ∧ W.heap[M]? = some (.map es clk)) (fun U1 hB4 HU1 => ?_)
 have hS : (∀ j, U1.cell? ⟨w.heap.size, j, none⟩ = (#[.int .i64 8, .string ⟨#[97]⟩, .int .i64 0, .int .i64 0, .slice none 0 0] : Array Value)[j]?) ∧ (∀ j, U1.cell? ⟨mb, j, none⟩ = (#[.map (some M), .int .i64 2, .map (some EB), .map (some MB)] : Array Value)[j]?) ∧ U1.heap[M]? = some (.map es clk) := ⟨(cells_of ((hB4.block _ (by omega)).trans hb0)).1, (cells_of ((hB4.block _ (by omega)).trans hm0)).1, (hB4.block _ (by omega)).trans hM0⟩
 refine tq 0 (.pointer (some ⟨mb, 0, none⟩)) rfl hS ?_
 simp only [sa, sb, Act.put, sd, se, sf]
 refine tq 1 (.pointer (some ⟨mb, 0, none⟩)) rfl hS ?_
 simp only [sa, sb, sc, Act.put, sd, se, sf]
 refine tq 2 (.pointer (some ⟨mb, 0, none⟩)) rfl hS ?_
 simp only [sa, sb, sc, Act.put, sd, se, sf]
 refine tk 3 (.map (some M)) rfl (.inl ⟨by rfl, ?r⟩) hS ?_
 case r => intro W hW; simp [go_sem, execOp, Act.eval, hW.2.1]
 simp only [sa, sb, sc, Act.put, sd, se, sf]
 refine tq 4 (.pointer (some ⟨w.heap.size, 1, none⟩)) rfl hS ?_
 simp only [sa, sb, sc, Act.put, sd, se, sf]
 refine tk 5 (.string ⟨#[97]⟩) rfl (.inl ⟨by rfl, ?r⟩) hS ?_
 case r => intro W hW; simp [go_sem, execOp, Act.eval, hW.1]
 simp only [sa, sb, sc, Act.put, sd, se, sf]
 refine tk 6 (.tuple #[.agg #[.int .i64 0, .bool false, .slice none 0 0, .map none], .bool false]) rfl (.inl ⟨by rfl, ?r⟩) hS ?_
 case r => intro W hW; simp [go_sem, execOp, Act.eval, look_no (P := Tryz.prog) Tryz.underlying146 Tryz.underlying9 hW.2.2 hX (Tryz.zeroValue199 _) true]
 simp only [sa, sb, sc, Act.put, sd, se, sf]
 refine tq 7 (.tuple #[.agg #[.int .i64 0, .bool false, .slice none 0 0, .map none], .bool false]) rfl hS ?_
 simp only [sa, sb, sc, Act.put, sd, se, sf]
 refine tq 8 (.agg #[.int .i64 0, .bool false, .slice none 0 0, .map none]) rfl hS ?_
 simp only [sa, sb, sc, Act.put, sd, se, sf]
 refine tq 9 (.bool false) rfl hS ?_
 simp only [sa, sb, sc, Act.put, sd, se, sf]
 have u1 : Below w.heap.size w U1 := u0.trans (hB4.mono (by omega))
 have y1 : w.heap.size < U1.heap.size := Nat.lt_of_lt_of_le y0 hB4.size
 have hM1 : U1.heap[M]? = some (.map es clk) := (hB4.block _ (by omega)).trans hM0
 have hm1 : U1.heap[mb]? = _ := (hB4.block _ (by omega)).trans hm0
 have hb1 : U1.heap[w.heap.size]? = _ := (hB4.block _ (by omega)).trans hb0
 clear HU1 hB4
 refine one 10 rfl (fun K hK => ?_)
 simp only [sa, sb, sc]
 go_simp
 obtain ⟨U2, hU2⟩ : ∃ W, W = U1.alloc (.cells #[.int .i64 0, .bool false, .slice none 0 0, .map none] 199) := ⟨_, rfl⟩
 rw [← hU2]
 have v2 : Below U1.heap.size U1 U2 := by rw [hU2]; exact below1 _ _
 have y2 : U1.heap.size < U2.heap.size := by rw [hU2]; simp
 have n2 : U2.heap[U1.heap.size]? = some (.cells #[.int .i64 0, .bool false, .slice none 0 0, .map none] 199) := by rw [hU2]; exact heap_new _ _ _ rfl
 clear hU2
 have hM2 : U2.heap[M]? = some (.map es clk) := (v2.block _ (by omega)).trans hM1
 have hm2 : U2.heap[mb]? = _ := (v2.block _ (by omega)).trans hm1
 have hb2 : U2.heap[w.heap.size]? = _ := (v2.block _ (by omega)).trans hb1
 have hSU2 : (∀ j, U2.cell? ⟨w.heap.size, j, none⟩ = (#[.int .i64 8, .string ⟨#[97]⟩, .int .i64 0, .int .i64 0, .slice none 0 0] : Array Value)[j]?) ∧ (∀ j, U2.cell? ⟨mb, j, none⟩ = (#[.map (some M), .int .i64 2, .map (some EB), .map (some MB)] : Array Value)[j]?) ∧ U2.heap[M]? = some (.map es clk) := ⟨(cells_of hb2).1, (cells_of hm2).1, hM2⟩
 refine hK _ _ ⟨hSU2, ?_⟩
 clear hK K hS
 have hS := hSU2
 clear hSU2
 try simp only [Act.put, sd, se, sf]
 obtain ⟨nc2, nf2⟩ := cells_of n2
 refine one 11 rfl (fun K hK => ?_)
 simp only [sa, sb, sc]
 go_simp
 obtain ⟨W2, hW2⟩ : ∃ W, W = (((U2.setCell ⟨U1.heap.size, 0, none⟩ (.int .i64 0)).setCell ⟨U1.heap.size, 1, none⟩ (.bool false)).setCell ⟨U1.heap.size, 2, none⟩ (.slice none 0 0)).setCell ⟨U1.heap.size, 3, none⟩ (.map none) := ⟨_, rfl⟩
 rw [← hW2]
 have v3 : Kp (· = U1.heap.size) U2 W2 := by rw [hW2]; exact kp_set4 _ _ _ _ _ _
 have n3 : W2.heap[U1.heap.size]? = some (.cells #[.int .i64 0, .bool false, .slice none 0 0, .map none] 199) := by rw [hW2]; exact heap_set (heap_set (heap_set (heap_set n2 0 _) 1 _) 2 _) 3 _
 clear hW2
 have y3 := v3.size
 have hM3 : W2.heap[M]? = some (.map es clk) := (v3.block _ (by omega) (by omega)).trans hM2
 have hm3 : W2.heap[mb]? = _ := (v3.block _ (by omega) (by omega)).trans hm2
 have hb3 : W2.heap[w.heap.size]? = _ := (v3.block _ (by omega) (by omega)).trans hb2
 have hSW2 : (∀ j, W2.cell? ⟨w.heap.size, j, none⟩ = (#[.int .i64 8, .string ⟨#[97]⟩, .int .i64 0, .int .i64 0, .slice none 0 0] : Array Value)[j]?) ∧ (∀ j, W2.cell? ⟨mb, j, none⟩ = (#[.map (some M), .int .i64 2, .map (some EB), .map (some MB)] : Array Value)[j]?) ∧ W2.heap[M]? = some (.map es clk) := ⟨(cells_of hb3).1, (cells_of hm3).1, hM3⟩
 refine hK _ _ ⟨hSW2, ?_⟩
 clear hK K hS
 have hS := hSW2
 clear hSW2
 try simp only [Act.put, sd, se, sf]
 refine tq 12 (.bool false) rfl hS ?_
 simp only [sa, sb, sc, Act.put, sd, se, sf]
 refine dn ?_
 try simp only [Act.put]
 have b2 : Below w.heap.size w W2 := u1.trans ((v2.mono (by omega)).trans (v3.below (by omega) fun i hi h => by omega))
 have z2 : w.heap.size + 1 < W2.heap.size := by omega
 have sbl : w.heap.size + 1 ≤ U1.heap.size ∧ U1.heap.size < W2.heap.size := by omega
 clear hM2 hm2 hb2 hM1 hm1 hb1 hM0 hm0 hb0 v3 v2 u1 u0 n2 nc2 nf2 hS y0 y1 y2 y3
 have hM2 := hM3
 have hm2 := hm3
 have hb2 := hb3
 clear hM3 hm3 hb3
 obtain ⟨sb, hsb⟩ : ∃ n, n = U1.heap.size := ⟨_, rfl⟩
 rw [← hsb] at n3 sbl ⊢
 clear hsb U1
 have bc := (cells_of hb2).1
 go_wp2_with fail
 go_ret2
 exact ⟨rfl, b2⟩
theorem indexFunc_none (KX c : Nat) (f : Value) (w : World) :
  Calls Tryz.prog 194 #[.slice (some ⟨KX, 0, none⟩) 0 c, f] w fun e w' => e = .returned (.int .i64 (-1)) ∧ w' = w := by
 go_enter Tryz.func194, Tryz.ntmps194
 go_wp2_with fail
 refine wp_loop_rounds 1 ?_
 rw [rounds_succ]
 go_wp2_with fail
 go_ret
 exact ⟨rfl, rfl⟩
theorem containsFunc_none (KX c : Nat) (f : Value) (w : World) :
  Calls Tryz.prog 152 #[.slice (some ⟨KX, 0, none⟩) 0 c, f] w fun e w' => e = .returned (.bool false) ∧ w' = w := by
 go_enter Tryz.func152, Tryz.ntmps152
 go_wp2_with fail
 refine Calls.mono (indexFunc_none _ _ _ _) ?_
 rintro _ _ ⟨rfl, rfl⟩
 go_wp2_with fail
 go_ret
 exact ⟨rfl, rfl⟩
theorem ShS.set_e0 {lo g cap pb : Nat} {w : World} (h : ShS lo w g cap pb) : ShS lo (w.setCell ⟨g, 1, none⟩ (.int .i64 0)) g cap pb :=
 ⟨h.glo, by simpa using h.ghi, h.plo, by simpa using h.phi, h.ne, (World.cell?_setCell_other _ _ _ _ (by simp)).trans h.n0, World.cell?_setCell_same _ _ _ h.e0, by simpa using h.f0, (World.cell?_setCell_other _ _ _ _ (by simp)).trans h.n1, (World.cell?_setCell_other _ _ _ _ (by simp)).trans h.e1, by simpa using h.f1, (heap_set_other _ _ _ _ _ (Ne.symm h.ne)).trans h.parts⟩
theorem ShS.set_e1 {lo g cap pb : Nat} {w : World} (h : ShS lo w g cap pb) : ShS lo (w.setCell ⟨g, 3, none⟩ (.int .i64 0)) g cap pb :=
 ⟨h.glo, by simpa using h.ghi, h.plo, by simpa using h.phi, h.ne, (World.cell?_setCell_other _ _ _ _ (by simp)).trans h.n0, (World.cell?_setCell_other _ _ _ _ (by simp)).trans h.e0, by simpa using h.f0, (World.cell?_setCell_other _ _ _ _ (by simp)).trans h.n1, World.cell?_setCell_same _ _ _ h.e1, by simpa using h.f1, (heap_set_other _ _ _ _ _ (Ne.symm h.ne)).trans h.parts⟩
def PartsSP (w : World) (lo g cap pb : Nat) (e : Ending) (w' : World) : Prop :=
 e = .returned .nilIface ∧ Kp (· = g) w w' ∧ ShS lo w' g cap pb
theorem ShT.set_e0 {lo g cap pb : Nat} {w : World} (h : ShT lo w g cap pb) : ShT lo (w.setCell ⟨g, 1, none⟩ (.int .i64 0)) g cap pb :=
 ⟨h.glo, by simpa using h.ghi, h.plo, by simpa using h.phi, h.ne, (World.cell?_setCell_other _ _ _ _ (by simp)).trans h.n0, World.cell?_setCell_same _ _ _ h.e0, by simpa using h.f0, (heap_set_other _ _ _ _ _ (Ne.symm h.ne)).trans h.parts⟩
def PartsTP (w : World) (lo g cap pb : Nat) (e : Ending) (w' : World) : Prop :=
 e = .returned .nilIface ∧ Kp (· = g) w w' ∧ ShT lo w' g cap pb
end Go.Proofs.YtdbijkgnddcneaaGreatDoor.Lx
namespace Go.Proofs.YtdbijkgnddcneaaGreatDoor.Lx
open Go.RowKit Go.ChangeMaps
set_option maxRecDepth 100000
set_option maxHeartbeats 4000000
theorem structParts_T (M mb EB MB : Nat) (es : Array MapEntry) (clk : Nat) (w : World) (hM : w.heap[M]? = some (.map es clk)) (hm : w.heap[mb]? = some (.cells #[.map (some M), .int .i64 2, .map (some EB), .map (some MB)] 151)) (ha : Instr.findNow .string (.string ⟨#[97]⟩) es.toList 0 = some none) (g cap pb ix lo KT : Nat) (hA : Instr.findNow .string (.string ⟨#[84]⟩) es.toList 0 = some (some (ix, shT g cap pb))) (hsh : ShT lo w g cap pb) (_hcap : 1 ≤ cap) (hk : w.heap[KT]? = some (.cells #[.int .i64 8, .string ⟨#[97]⟩, .int .i64 0, .int .i64 0, .slice none 0 0] 98)) (hMg : M ≠ g) (hmg : mb ≠ g) (hKg : KT ≠ g) :
  Calls Tryz.prog 107 #[.pointer (some ⟨mb, 0, none⟩), .agg #[.int .i64 3, .string ⟨#[84]⟩, .int .i64 0, .int .i64 0, .slice (some ⟨KT, 0, none⟩) 1 1]] w (PartsTP w lo g cap pb) := by
 have hMl := heap_lt hM
 have hml := heap_lt hm
 have hKX := heap_lt hk
 go_enter Tryz.func107, Tryz.ntmps107
 go_wp2_with fail
 obtain ⟨U0, hU0⟩ : ∃ W, W = w.alloc (.cells #[.int .i64 3, .string ⟨#[84]⟩, .int .i64 0, .int .i64 0, .slice (some ⟨KT, 0, none⟩) 1 1] 98) := ⟨_, rfl⟩
 rw [← hU0]
 have u0 : Below w.heap.size w U0 := by rw [hU0]; exact below1 w _
 have y0 : w.heap.size < U0.heap.size := by rw [hU0]; simp
 have hM0 : U0.heap[M]? = some (.map es clk) := (u0.block _ hMl).trans hM
 have hm0 : U0.heap[mb]? = _ := (u0.block _ hml).trans hm
 have hb0 : U0.heap[w.heap.size]? = some (.cells #[.int .i64 3, .string ⟨#[84]⟩, .int .i64 0, .int .i64 0, .slice (some ⟨KT, 0, none⟩) 1 1] 98) := by rw [hU0]; exact heap_new _ _ _ rfl
 clear hU0
 refine rg (S := fun W => (∀ j, W.cell? ⟨w.heap.size, j, none⟩ = (#[.int .i64 3, .string ⟨#[84]⟩, .int .i64 0, .int .i64 0, .slice (some ⟨KT, 0, none⟩) 1 1] : Array Value)[j]?) ∧ (∀ j, W.cell? ⟨mb, j, none⟩ = (#[.map (some M), .int .i64 2, .map (some EB), .map (some MB)] : Array Value)[j]?) ∧ W.heap[M]? = some (.map es clk)) (fun U1 hB4 HU1 => ?_)
 have hS : (∀ j, U1.cell? ⟨w.heap.size, j, none⟩ = (#[.int .i64 3, .string ⟨#[84]⟩, .int .i64 0, .int .i64 0, .slice (some ⟨KT, 0, none⟩) 1 1] : Array Value)[j]?) ∧ (∀ j, U1.cell? ⟨mb, j, none⟩ = (#[.map (some M), .int .i64 2, .map (some EB), .map (some MB)] : Array Value)[j]?) ∧ U1.heap[M]? = some (.map es clk) := ⟨(cells_of ((hB4.block _ (by omega)).trans hb0)).1, (cells_of ((hB4.block _ (by omega)).trans hm0)).1, (hB4.block _ (by omega)).trans hM0⟩
 refine tq 0 (.pointer (some ⟨mb, 0, none⟩)) rfl hS ?_
 simp only [sa, sb, Act.put, sd, se, sf]
 refine tq 1 (.pointer (some ⟨mb, 0, none⟩)) rfl hS ?_
 simp only [sa, sb, sc, Act.put, sd, se, sf]
 refine tq 2 (.pointer (some ⟨mb, 0, none⟩)) rfl hS ?_
 simp only [sa, sb, sc, Act.put, sd, se, sf]
 refine tk 3 (.map (some M)) rfl (.inl ⟨by rfl, ?r⟩) hS ?_
 case r => intro W hW; simp [go_sem, execOp, Act.eval, hW.2.1]
 simp only [sa, sb, sc, Act.put, sd, se, sf]
 refine tq 4 (.pointer (some ⟨w.heap.size, 1, none⟩)) rfl hS ?_
 simp only [sa, sb, sc, Act.put, sd, se, sf]
 refine tk 5 (.string ⟨#[84]⟩) rfl (.inl ⟨by rfl, ?r⟩) hS ?_
 case r => intro W hW; simp [go_sem, execOp, Act.eval, hW.1]
 simp only [sa, sb, sc, Act.put, sd, se, sf]
 refine tk 6 (.agg #[.int .i64 8, .bool false, .slice (some ⟨g, 0, none⟩) 1 cap, .map (some pb)]) rfl (.inl ⟨by rfl, ?r⟩) hS ?_
 case r => intro W hW; simp [go_sem, execOp, Act.eval, look_yes (P := Tryz.prog) Tryz.underlying146 Tryz.underlying9 hW.2.2 hA false]
 simp only [sa, sb, sc, Act.put, sd, se, sf]
 have u1 : Below w.heap.size w U1 := u0.trans (hB4.mono (by omega))
 have y1 : w.heap.size < U1.heap.size := Nat.lt_of_lt_of_le y0 hB4.size
 have hM1 : U1.heap[M]? = some (.map es clk) := (hB4.block _ (by omega)).trans hM0
 have hm1 : U1.heap[mb]? = _ := (hB4.block _ (by omega)).trans hm0
 have hb1 : U1.heap[w.heap.size]? = _ := (hB4.block _ (by omega)).trans hb0
 clear HU1 hB4
 refine one 7 rfl (fun K hK => ?_)
 simp only [sa, sb, sc]
 go_simp
 obtain ⟨U2, hU2⟩ : ∃ W, W = U1.alloc (.cells #[.int .i64 0, .bool false, .slice none 0 0, .map none] 199) := ⟨_, rfl⟩
 rw [← hU2]
 have v2 : Below U1.heap.size U1 U2 := by rw [hU2]; exact below1 _ _
 have y2 : U1.heap.size < U2.heap.size := by rw [hU2]; simp
 have n2 : U2.heap[U1.heap.size]? = some (.cells #[.int .i64 0, .bool false, .slice none 0 0, .map none] 199) := by rw [hU2]; exact heap_new _ _ _ rfl
 clear hU2
 have hM2 : U2.heap[M]? = some (.map es clk) := (v2.block _ (by omega)).trans hM1
 have hm2 : U2.heap[mb]? = _ := (v2.block _ (by omega)).trans hm1
 have hb2 : U2.heap[w.heap.size]? = _ := (v2.block _ (by omega)).trans hb1
 have hSU2 : (∀ j, U2.cell? ⟨w.heap.size, j, none⟩ = (#[.int .i64 3, .string ⟨#[84]⟩, .int .i64 0, .int .i64 0, .slice (some ⟨KT, 0, none⟩) 1 1] : Array Value)[j]?) ∧ (∀ j, U2.cell? ⟨mb, j, none⟩ = (#[.map (some M), .int .i64 2, .map (some EB), .map (some MB)] : Array Value)[j]?) ∧ U2.heap[M]? = some (.map es clk) := ⟨(cells_of hb2).1, (cells_of hm2).1, hM2⟩
 refine hK _ _ ⟨hSU2, ?_⟩
 clear hK K hS
 have hS := hSU2
 clear hSU2
 try simp only [Act.put, sd, se, sf]
 obtain ⟨nc2, nf2⟩ := cells_of n2
 refine one 8 rfl (fun K hK => ?_)
 simp only [sa, sb, sc]
 go_simp
 obtain ⟨W2, hW2⟩ : ∃ W, W = (((U2.setCell ⟨U1.heap.size, 0, none⟩ (.int .i64 8)).setCell ⟨U1.heap.size, 1, none⟩ (.bool false)).setCell ⟨U1.heap.size, 2, none⟩ (.slice (some ⟨g, 0, none⟩) 1 cap)).setCell ⟨U1.heap.size, 3, none⟩ (.map (some pb)) := ⟨_, rfl⟩
 rw [← hW2]
 have v3 : Kp (· = U1.heap.size) U2 W2 := by rw [hW2]; exact kp_set4 _ _ _ _ _ _
 have n3 : W2.heap[U1.heap.size]? = some (.cells #[.int .i64 8, .bool false, .slice (some ⟨g, 0, none⟩) 1 cap, .map (some pb)] 199) := by rw [hW2]; exact heap_set (heap_set (heap_set (heap_set n2 0 _) 1 _) 2 _) 3 _
 clear hW2
 have y3 := v3.size
 have hM3 : W2.heap[M]? = some (.map es clk) := (v3.block _ (by omega) (by omega)).trans hM2
 have hm3 : W2.heap[mb]? = _ := (v3.block _ (by omega) (by omega)).trans hm2
 have hb3 : W2.heap[w.heap.size]? = _ := (v3.block _ (by omega) (by omega)).trans hb2
 have hSW2 : (∀ j, W2.cell? ⟨w.heap.size, j, none⟩ = (#[.int .i64 3, .string ⟨#[84]⟩, .int .i64 0, .int .i64 0, .slice (some ⟨KT, 0, none⟩) 1 1] : Array Value)[j]?) ∧ (∀ j, W2.cell? ⟨mb, j, none⟩ = (#[.map (some M), .int .i64 2, .map (some EB), .map (some MB)] : Array Value)[j]?) ∧ W2.heap[M]? = some (.map es clk) := ⟨(cells_of hb3).1, (cells_of hm3).1, hM3⟩
 refine hK _ _ ⟨hSW2, ?_⟩
 clear hK K hS
 have hS := hSW2
 clear hSW2
 try simp only [Act.put, sd, se, sf]
 refine dn ?_
 try simp only [Act.put]
 have b2 : Below w.heap.size w W2 := u1.trans ((v2.mono (by omega)).trans (v3.below (by omega) fun i hi h => by omega))
 have z2 : w.heap.size + 1 < W2.heap.size := by omega
 have sbl : w.heap.size + 1 ≤ U1.heap.size ∧ U1.heap.size < W2.heap.size := by omega
 clear hM2 hm2 hb2 hM1 hm1 hb1 hM0 hm0 hb0 v3 v2 u1 u0 n2 nc2 nf2 hS y0 y1 y2 y3
 have hM2 := hM3
 have hm2 := hm3
 have hb2 := hb3
 clear hM3 hm3 hb3
 obtain ⟨sb, hsb⟩ : ∃ n, n = U1.heap.size := ⟨_, rfl⟩
 rw [← hsb] at n3 sbl ⊢
 clear hsb U1
 have hg1 := hsh.ghi
 have k2 : W2.heap[KT]? = some (.cells #[.int .i64 8, .string ⟨#[97]⟩, .int .i64 0, .int .i64 0, .slice none 0 0] 98) := (b2.block _ hKX).trans hk
 have Q0 : Kp (· = g) w W2 := Kp.of b2
 have sh0 := hsh.below b2
 have hKX2 : KT < W2.heap.size := by omega
 have hbl := heap_lt hb2
 have zW2 : w.heap.size ≤ W2.heap.size := by omega
 have bc := (cells_of hb2).1
 have sc2 := (cells_of n3).1
 have kc := (cells_of k2).1
 go_wp2_with fail
 refine wp_loop_rounds 2 ?_
 rw [rounds_succ]
 go_wp2_with fail
 clear bc sc2 kc
 obtain ⟨A0, hA0⟩ : ∃ W, W = W2.alloc (.cells #[.int .i64 8, .string ⟨#[97]⟩, .int .i64 0, .int .i64 0, .slice none 0 0] 98) := ⟨_, rfl⟩
 rw [← hA0]
 have bA0 : Below W2.heap.size W2 A0 := by rw [hA0]; exact below1 _ _
 have yA0 : W2.heap.size < A0.heap.size := by rw [hA0]; simp
 have fA0 : A0.heap[W2.heap.size]? = some (.cells #[.int .i64 8, .string ⟨#[97]⟩, .int .i64 0, .int .i64 0, .slice none 0 0] 98) := by rw [hA0]; exact heap_new _ _ _ rfl
 clear hA0
 have hMA0 : A0.heap[M]? = some (.map es clk) := (bA0.block _ (by omega)).trans hM2
 have hmA0 : A0.heap[mb]? = some (.cells #[.map (some M), .int .i64 2, .map (some EB), .map (some MB)] 151) := (bA0.block _ (by omega)).trans hm2
 have hbA0 : A0.heap[w.heap.size]? = some (.cells #[.int .i64 3, .string ⟨#[84]⟩, .int .i64 0, .int .i64 0, .slice (some ⟨KT, 0, none⟩) 1 1] 98) := (bA0.block _ (by omega)).trans hb2
 have nA0 : A0.heap[sb]? = some (.cells #[.int .i64 8, .bool false, .slice (some ⟨g, 0, none⟩) 1 cap, .map (some pb)] 199) := (bA0.block _ (by omega)).trans n3
 have kA0 : A0.heap[KT]? = some (.cells #[.int .i64 8, .string ⟨#[97]⟩, .int .i64 0, .int .i64 0, .slice none 0 0] 98) := (bA0.block _ (by omega)).trans k2
 have shA0 := sh0.below bA0
 refine Calls.mono (containsFunc_none _ _ _ _) ?_
 rintro _ _ ⟨rfl, rfl⟩
 have fc := (cells_of fA0).1
 have bc := (cells_of hbA0).1
 go_wp2_with fail
 clear fc bc
 refine Calls.mono (embed_a M mb EB MB es clk _ hMA0 hmA0 ha) ?_
 rintro _ B0 ⟨rfl, bB0⟩
 have yB0 := bB0.size
 have hMB0 : B0.heap[M]? = some (.map es clk) := (bB0.block _ (by omega)).trans hMA0
 have hmB0 : B0.heap[mb]? = some (.cells #[.map (some M), .int .i64 2, .map (some EB), .map (some MB)] 151) := (bB0.block _ (by omega)).trans hmA0
 have hbB0 : B0.heap[w.heap.size]? = some (.cells #[.int .i64 3, .string ⟨#[84]⟩, .int .i64 0, .int .i64 0, .slice (some ⟨KT, 0, none⟩) 1 1] 98) := (bB0.block _ (by omega)).trans hbA0
 have nB0 : B0.heap[sb]? = some (.cells #[.int .i64 8, .bool false, .slice (some ⟨g, 0, none⟩) 1 cap, .map (some pb)] 199) := (bB0.block _ (by omega)).trans nA0
 have kB0 : B0.heap[KT]? = some (.cells #[.int .i64 8, .string ⟨#[97]⟩, .int .i64 0, .int .i64 0, .slice none 0 0] 98) := (bB0.block _ (by omega)).trans kA0
 have shB0 := shA0.below bB0
 have fB0 : B0.heap[W2.heap.size]? = some (.cells #[.int .i64 8, .string ⟨#[97]⟩, .int .i64 0, .int .i64 0, .slice none 0 0] 98) := (bB0.block _ (by omega)).trans fA0
 have sc2 := (cells_of nB0).1
 have bc := (cells_of hbB0).1
 have fc := (cells_of fB0).1
 have ge := shB0.e0
 have gf := shB0.f0
 go_wp2_with fail
 clear sc2 bc fc
 obtain ⟨C0, hC0⟩ : ∃ W, W = B0.setCell ⟨g, 1, none⟩ (.int .i64 0) := ⟨_, rfl⟩
 rw [← hC0]
 have k_C0 : Kp (· = g) B0 C0 := by rw [hC0]; exact Kp.set _ _ _ _ rfl
 have shC0 : ShT lo C0 g cap pb := by rw [hC0]; exact shB0.set_e0
 clear hC0 ge gf
 have yC0 := k_C0.size
 have hMC0 : C0.heap[M]? = some (.map es clk) := (k_C0.block _ (by omega) hMg).trans hMB0
 have hmC0 : C0.heap[mb]? = some (.cells #[.map (some M), .int .i64 2, .map (some EB), .map (some MB)] 151) := (k_C0.block _ (by omega) hmg).trans hmB0
 have hbC0 : C0.heap[w.heap.size]? = some (.cells #[.int .i64 3, .string ⟨#[84]⟩, .int .i64 0, .int .i64 0, .slice (some ⟨KT, 0, none⟩) 1 1] 98) := (k_C0.block _ (by omega) (by omega)).trans hbB0
 have nC0 : C0.heap[sb]? = some (.cells #[.int .i64 8, .bool false, .slice (some ⟨g, 0, none⟩) 1 cap, .map (some pb)] 199) := (k_C0.block _ (by omega) (by omega)).trans nB0
 have kC0 : C0.heap[KT]? = some (.cells #[.int .i64 8, .string ⟨#[97]⟩, .int .i64 0, .int .i64 0, .slice none 0 0] 98) := (k_C0.block _ (by omega) hKg).trans kB0
 have Q1 : Kp (· = g) w C0 := (Kp.trans (Q0.trans (Kp.of (S := fun _ => False) bA0) fun _ _ h => h.elim) (Kp.of (S := fun _ => False) ((bB0))) fun _ _ h => h.elim).trans k_C0 fun _ _ h => h
 have hKXC0 : KT < C0.heap.size := by omega
 have hblC0 : w.heap.size < C0.heap.size := by omega
 have bc := (cells_of hbC0).1
 have sc2 := (cells_of nC0).1
 have kc := (cells_of kC0).1
 rw [rounds_succ]
 go_wp2_with fail
 clear bc sc2 kc
 go_ret
 exact ⟨rfl, Q1, shC0⟩
theorem parts_T (M mb EB MB : Nat) (es : Array MapEntry) (clk : Nat) (w : World) (hM : w.heap[M]? = some (.map es clk)) (hm : w.heap[mb]? = some (.cells #[.map (some M), .int .i64 2, .map (some EB), .map (some MB)] 151)) (ha : Instr.findNow .string (.string ⟨#[97]⟩) es.toList 0 = some none) (g cap pb ix lo KT : Nat) (hA : Instr.findNow .string (.string ⟨#[84]⟩) es.toList 0 = some (some (ix, shT g cap pb))) (hsh : ShT lo w g cap pb) (hcap : 1 ≤ cap) (hk : w.heap[KT]? = some (.cells #[.int .i64 8, .string ⟨#[97]⟩, .int .i64 0, .int .i64 0, .slice none 0 0] 98)) (hMg : M ≠ g) (hmg : mb ≠ g) (hKg : KT ≠ g) :
  Calls Tryz.prog 74 #[.pointer (some ⟨mb, 0, none⟩), .agg #[.int .i64 3, .string ⟨#[84]⟩, .int .i64 0, .int .i64 0, .slice (some ⟨KT, 0, none⟩) 1 1]] w (PartsTP w lo g cap pb) := by
 have hMl := heap_lt hM
 have hml := heap_lt hm
 go_enter Tryz.func74, Tryz.ntmps74
 go_wp2_with fail
 refine Calls.mono (structParts_T M mb EB MB es clk _ ((heap_old _ _ _ hMl).trans hM) ((heap_old _ _ _ hml).trans hm) ha g cap pb ix lo KT hA (hsh.below (below1 w _)) hcap ((heap_old _ _ _ (heap_lt hk)).trans hk) hMg hmg hKg) ?_
 rintro _ w1 ⟨rfl, k, s⟩
 go_wp2_with fail
 go_ret
 exact ⟨rfl, (Kp.alloc _ w _).trans k fun _ _ h => h, s⟩
end Go.Proofs.YtdbijkgnddcneaaGreatDoor.Lx
namespace Go.Proofs.YtdbijkgnddcneaaGreatDoor.Lx
open Go.RowKit Go.ChangeMaps
set_option maxRecDepth 100000
set_option maxHeartbeats 4000000
theorem clos_fg (b : Nat) (w : World) (hf : w.heap[b]? = some (.cells #[.int .i64 8, .string ⟨#[103]⟩, .int .i64 0, .int .i64 0, .slice none 0 0] 98)) :
  Calls Tryz.prog 153 #[.agg #[.int .i64 8, .string ⟨#[102]⟩, .int .i64 0, .int .i64 0, .slice none 0 0], .pointer (some ⟨b, 0, none⟩)] w fun e w' => e = .returned (.bool false) ∧ Below w.heap.size w w' := by
 have hl := heap_lt hf
 have fc := (cells_of hf).1
 go_enter Tryz.func153, Tryz.ntmps153
 go_wp2_with fail
 go_ret
 exact ⟨rfl, below1 w _⟩
theorem indexFunc_fg (KS b : Nat) (w : World) (hk : w.heap[KS]? = some (.cells #[.int .i64 8, .string ⟨#[102]⟩, .int .i64 0, .int .i64 0, .slice none 0 0, .int .i64 8, .string ⟨#[103]⟩, .int .i64 0, .int .i64 0, .slice none 0 0] 98)) (hf : w.heap[b]? = some (.cells #[.int .i64 8, .string ⟨#[103]⟩, .int .i64 0, .int .i64 0, .slice none 0 0] 98)) :
  Calls Tryz.prog 194 #[.slice (some ⟨KS, 0, none⟩) 1 2, .func (.func 153) #[] #[.pointer (some ⟨b, 0, none⟩)]] w fun e w' => e = .returned (.int .i64 (-1)) ∧ Below w.heap.size w w' := by
 go_enter Tryz.func194, Tryz.ntmps194
 have kc := (cells_of hk).1
 go_wp2_with fail
 refine wp_loop_rounds 2 ?_
 rw [rounds_succ]
 go_wp2_with fail
 refine Calls.mono (clos_fg b _ hf) ?_
 rintro _ w1 ⟨rfl, hb1⟩
 go_wp2_with fail
 rw [rounds_succ]
 go_wp2_with fail
 go_ret
 exact ⟨rfl, hb1⟩
theorem containsFunc_fg (KS b : Nat) (w : World) (hk : w.heap[KS]? = some (.cells #[.int .i64 8, .string ⟨#[102]⟩, .int .i64 0, .int .i64 0, .slice none 0 0, .int .i64 8, .string ⟨#[103]⟩, .int .i64 0, .int .i64 0, .slice none 0 0] 98)) (hf : w.heap[b]? = some (.cells #[.int .i64 8, .string ⟨#[103]⟩, .int .i64 0, .int .i64 0, .slice none 0 0] 98)) :
  Calls Tryz.prog 152 #[.slice (some ⟨KS, 0, none⟩) 1 2, .func (.func 153) #[] #[.pointer (some ⟨b, 0, none⟩)]] w fun e w' => e = .returned (.bool false) ∧ Below w.heap.size w w' := by
 go_enter Tryz.func152, Tryz.ntmps152
 go_wp2_with fail
 refine Calls.mono (indexFunc_fg _ _ _ hk hf) ?_
 rintro _ w1 ⟨rfl, hb1⟩
 go_wp2_with fail
 go_ret
 exact ⟨rfl, hb1⟩
theorem structParts_S (M mb EB MB : Nat) (es : Array MapEntry) (clk : Nat) (w : World) (hM : w.heap[M]? = some (.map es clk)) (hm : w.heap[mb]? = some (.cells #[.map (some M), .int .i64 2, .map (some EB), .map (some MB)] 151)) (hf : Instr.findNow .string (.string ⟨#[102]⟩) es.toList 0 = some none) (hg : Instr.findNow .string (.string ⟨#[103]⟩) es.toList 0 = some none) (g cap pb ix lo KS : Nat) (hA : Instr.findNow .string (.string ⟨#[83]⟩) es.toList 0 = some (some (ix, shS g cap pb))) (hsh : ShS lo w g cap pb) (_hcap : 2 ≤ cap) (hk : w.heap[KS]? = some (.cells #[.int .i64 8, .string ⟨#[102]⟩, .int .i64 0, .int .i64 0, .slice none 0 0, .int .i64 8, .string ⟨#[103]⟩, .int .i64 0, .int .i64 0, .slice none 0 0] 98)) (hMg : M ≠ g) (hmg : mb ≠ g) (hKg : KS ≠ g) :
  Calls Tryz.prog 107 #[.pointer (some ⟨mb, 0, none⟩), .agg #[.int .i64 3, .string ⟨#[83]⟩, .int .i64 0, .int .i64 0, .slice (some ⟨KS, 0, none⟩) 2 2]] w (PartsSP w lo g cap pb) := by
 have hMl := heap_lt hM
 have hml := heap_lt hm
 have hKX := heap_lt hk
 go_enter Tryz.func107, Tryz.ntmps107
 go_wp2_with fail
 obtain ⟨U0, hU0⟩ : ∃ W, W = w.alloc (.cells #[.int .i64 3, .string ⟨#[83]⟩, .int .i64 0, .int .i64 0, .slice (some ⟨KS, 0, none⟩) 2 2] 98) := ⟨_, rfl⟩
 rw [← hU0]
 have u0 : Below w.heap.size w U0 := by rw [hU0]; exact below1 w _
 have y0 : w.heap.size < U0.heap.size := by rw [hU0]; simp
 have hM0 : U0.heap[M]? = some (.map es clk) := (u0.block _ hMl).trans hM
 have hm0 : U0.heap[mb]? = _ := (u0.block _ hml).trans hm
 have hb0 : U0.heap[w.heap.size]? = some (.cells #[.int .i64 3, .string ⟨#[83]⟩, .int .i64 0, .int .i64 0, .slice (some ⟨KS, 0, none⟩) 2 2] 98) := by rw [hU0]; exact heap_new _ _ _ rfl
 clear hU0
 refine rg (S := fun W => (∀ j, W.cell? ⟨w.heap.size, j, none⟩ = (#[.int .i64 3, .string ⟨#[83]⟩, .int .i64 0, .int .i64 0, .slice (some ⟨KS, 0, none⟩) 2 2] : Array Value)[j]?) ∧ (∀ j, W.cell? ⟨mb, j, none⟩ = (#[.map (some M), .int .i64 2, .map (some EB), .map (some MB)] : Array Value)[j]?) ∧ W.heap[M]? = some (.map es clk)) (fun U1 hB4 HU1 => ?_)
 have hS : (∀ j, U1.cell? ⟨w.heap.size, j, none⟩ = (#[.int .i64 3, .string ⟨#[83]⟩, .int .i64 0, .int .i64 0, .slice (some ⟨KS, 0, none⟩) 2 2] : Array Value)[j]?) ∧ (∀ j, U1.cell? ⟨mb, j, none⟩ = (#[.map (some M), .int .i64 2, .map (some EB), .map (some MB)] : Array Value)[j]?) ∧ U1.heap[M]? = some (.map es clk) := ⟨(cells_of ((hB4.block _ (by omega)).trans hb0)).1, (cells_of ((hB4.block _ (by omega)).trans hm0)).1, (hB4.block _ (by omega)).trans hM0⟩
 refine tq 0 (.pointer (some ⟨mb, 0, none⟩)) rfl hS ?_
 simp only [sa, sb, Act.put, sd, se, sf]
 refine tq 1 (.pointer (some ⟨mb, 0, none⟩)) rfl hS ?_
 simp only [sa, sb, sc, Act.put, sd, se, sf]
 refine tq 2 (.pointer (some ⟨mb, 0, none⟩)) rfl hS ?_
 simp only [sa, sb, sc, Act.put, sd, se, sf]
 refine tk 3 (.map (some M)) rfl (.inl ⟨by rfl, ?r⟩) hS ?_
 case r => intro W hW; simp [go_sem, execOp, Act.eval, hW.2.1]
 simp only [sa, sb, sc, Act.put, sd, se, sf]
 refine tq 4 (.pointer (some ⟨w.heap.size, 1, none⟩)) rfl hS ?_
 simp only [sa, sb, sc, Act.put, sd, se, sf]
 refine tk 5 (.string ⟨#[83]⟩) rfl (.inl ⟨by rfl, ?r⟩) hS ?_
 case r => intro W hW; simp [go_sem, execOp, Act.eval, hW.1]
 simp only [sa, sb, sc, Act.put, sd, se, sf]
 refine tk 6 (.agg #[.int .i64 8, .bool false, .slice (some ⟨g, 0, none⟩) 2 cap, .map (some pb)]) rfl (.inl ⟨by rfl, ?r⟩) hS ?_
 case r => intro W hW; simp [go_sem, execOp, Act.eval, look_yes (P := Tryz.prog) Tryz.underlying146 Tryz.underlying9 hW.2.2 hA false]
 simp only [sa, sb, sc, Act.put, sd, se, sf]
 have u1 : Below w.heap.size w U1 := u0.trans (hB4.mono (by omega))
 have y1 : w.heap.size < U1.heap.size := Nat.lt_of_lt_of_le y0 hB4.size
 have hM1 : U1.heap[M]? = some (.map es clk) := (hB4.block _ (by omega)).trans hM0
 have hm1 : U1.heap[mb]? = _ := (hB4.block _ (by omega)).trans hm0
 have hb1 : U1.heap[w.heap.size]? = _ := (hB4.block _ (by omega)).trans hb0
 clear HU1 hB4
 refine one 7 rfl (fun K hK => ?_)
 simp only [sa, sb, sc]
 go_simp
 obtain ⟨U2, hU2⟩ : ∃ W, W = U1.alloc (.cells #[.int .i64 0, .bool false, .slice none 0 0, .map none] 199) := ⟨_, rfl⟩
 rw [← hU2]
 have v2 : Below U1.heap.size U1 U2 := by rw [hU2]; exact below1 _ _
 have y2 : U1.heap.size < U2.heap.size := by rw [hU2]; simp
 have n2 : U2.heap[U1.heap.size]? = some (.cells #[.int .i64 0, .bool false, .slice none 0 0, .map none] 199) := by rw [hU2]; exact heap_new _ _ _ rfl
 clear hU2
 have hM2 : U2.heap[M]? = some (.map es clk) := (v2.block _ (by omega)).trans hM1
 have hm2 : U2.heap[mb]? = _ := (v2.block _ (by omega)).trans hm1
 have hb2 : U2.heap[w.heap.size]? = _ := (v2.block _ (by omega)).trans hb1
 have hSU2 : (∀ j, U2.cell? ⟨w.heap.size, j, none⟩ = (#[.int .i64 3, .string ⟨#[83]⟩, .int .i64 0, .int .i64 0, .slice (some ⟨KS, 0, none⟩) 2 2] : Array Value)[j]?) ∧ (∀ j, U2.cell? ⟨mb, j, none⟩ = (#[.map (some M), .int .i64 2, .map (some EB), .map (some MB)] : Array Value)[j]?) ∧ U2.heap[M]? = some (.map es clk) := ⟨(cells_of hb2).1, (cells_of hm2).1, hM2⟩
 refine hK _ _ ⟨hSU2, ?_⟩
 clear hK K hS
 have hS := hSU2
 clear hSU2
 try simp only [Act.put, sd, se, sf]
 obtain ⟨nc2, nf2⟩ := cells_of n2
 refine one 8 rfl (fun K hK => ?_)
 simp only [sa, sb, sc]
 go_simp
 obtain ⟨W2, hW2⟩ : ∃ W, W = (((U2.setCell ⟨U1.heap.size, 0, none⟩ (.int .i64 8)).setCell ⟨U1.heap.size, 1, none⟩ (.bool false)).setCell ⟨U1.heap.size, 2, none⟩ (.slice (some ⟨g, 0, none⟩) 2 cap)).setCell ⟨U1.heap.size, 3, none⟩ (.map (some pb)) := ⟨_, rfl⟩
 rw [← hW2]
 have v3 : Kp (· = U1.heap.size) U2 W2 := by rw [hW2]; exact kp_set4 _ _ _ _ _ _
 have n3 : W2.heap[U1.heap.size]? = some (.cells #[.int .i64 8, .bool false, .slice (some ⟨g, 0, none⟩) 2 cap, .map (some pb)] 199) := by rw [hW2]; exact heap_set (heap_set (heap_set (heap_set n2 0 _) 1 _) 2 _) 3 _
 clear hW2
 have y3 := v3.size
 have hM3 : W2.heap[M]? = some (.map es clk) := (v3.block _ (by omega) (by omega)).trans hM2
 have hm3 : W2.heap[mb]? = _ := (v3.block _ (by omega) (by omega)).trans hm2
 have hb3 : W2.heap[w.heap.size]? = _ := (v3.block _ (by omega) (by omega)).trans hb2
 have hSW2 : (∀ j, W2.cell? ⟨w.heap.size, j, none⟩ = (#[.int .i64 3, .string ⟨#[83]⟩, .int .i64 0, .int .i64 0, .slice (some ⟨KS, 0, none⟩) 2 2] : Array Value)[j]?) ∧ (∀ j, W2.cell? ⟨mb, j, none⟩ = (#[.map (some M), .int .i64 2, .map (some EB), .map (some MB)] : Array Value)[j]?) ∧ W2.heap[M]? = some (.map es clk) := ⟨(cells_of hb3).1, (cells_of hm3).1, hM3⟩
 refine hK _ _ ⟨hSW2, ?_⟩
 clear hK K hS
 have hS := hSW2
 clear hSW2
 try simp only [Act.put, sd, se, sf]
 refine dn ?_
 try simp only [Act.put]
 have b2 : Below w.heap.size w W2 := u1.trans ((v2.mono (by omega)).trans (v3.below (by omega) fun i hi h => by omega))
 have z2 : w.heap.size + 1 < W2.heap.size := by omega
 have sbl : w.heap.size + 1 ≤ U1.heap.size ∧ U1.heap.size < W2.heap.size := by omega
 clear hM2 hm2 hb2 hM1 hm1 hb1 hM0 hm0 hb0 v3 v2 u1 u0 n2 nc2 nf2 hS y0 y1 y2 y3
 have hM2 := hM3
 have hm2 := hm3
 have hb2 := hb3
 clear hM3 hm3 hb3
 obtain ⟨sb, hsb⟩ : ∃ n, n = U1.heap.size := ⟨_, rfl⟩
 rw [← hsb] at n3 sbl ⊢
 clear hsb U1
 have hg1 := hsh.ghi
 have k2 : W2.heap[KS]? = some (.cells #[.int .i64 8, .string ⟨#[102]⟩, .int .i64 0, .int .i64 0, .slice none 0 0, .int .i64 8, .string ⟨#[103]⟩, .int .i64 0, .int .i64 0, .slice none 0 0] 98) := (b2.block _ hKX).trans hk
 have Q0 : Kp (· = g) w W2 := Kp.of b2
 have sh0 := hsh.below b2
 have hKX2 : KS < W2.heap.size := by omega
 have hbl := heap_lt hb2
 have zW2 : w.heap.size ≤ W2.heap.size := by omega
 have bc := (cells_of hb2).1
 have sc2 := (cells_of n3).1
 have kc := (cells_of k2).1
 go_wp2_with fail
 refine wp_loop_rounds 3 ?_
 rw [rounds_succ]
 go_wp2_with fail
 clear bc sc2 kc
 obtain ⟨A0, hA0⟩ : ∃ W, W = W2.alloc (.cells #[.int .i64 8, .string ⟨#[102]⟩, .int .i64 0, .int .i64 0, .slice none 0 0] 98) := ⟨_, rfl⟩
 rw [← hA0]
 have bA0 : Below W2.heap.size W2 A0 := by rw [hA0]; exact below1 _ _
 have yA0 : W2.heap.size < A0.heap.size := by rw [hA0]; simp
 have fA0 : A0.heap[W2.heap.size]? = some (.cells #[.int .i64 8, .string ⟨#[102]⟩, .int .i64 0, .int .i64 0, .slice none 0 0] 98) := by rw [hA0]; exact heap_new _ _ _ rfl
 clear hA0
 have hMA0 : A0.heap[M]? = some (.map es clk) := (bA0.block _ (by omega)).trans hM2
 have hmA0 : A0.heap[mb]? = some (.cells #[.map (some M), .int .i64 2, .map (some EB), .map (some MB)] 151) := (bA0.block _ (by omega)).trans hm2
 have hbA0 : A0.heap[w.heap.size]? = some (.cells #[.int .i64 3, .string ⟨#[83]⟩, .int .i64 0, .int .i64 0, .slice (some ⟨KS, 0, none⟩) 2 2] 98) := (bA0.block _ (by omega)).trans hb2
 have nA0 : A0.heap[sb]? = some (.cells #[.int .i64 8, .bool false, .slice (some ⟨g, 0, none⟩) 2 cap, .map (some pb)] 199) := (bA0.block _ (by omega)).trans n3
 have kA0 : A0.heap[KS]? = some (.cells #[.int .i64 8, .string ⟨#[102]⟩, .int .i64 0, .int .i64 0, .slice none 0 0, .int .i64 8, .string ⟨#[103]⟩, .int .i64 0, .int .i64 0, .slice none 0 0] 98) := (bA0.block _ (by omega)).trans k2
 have shA0 := sh0.below bA0
 refine Calls.mono (containsFunc_none _ _ _ _) ?_
 rintro _ _ ⟨rfl, rfl⟩
 have fc := (cells_of fA0).1
 have bc := (cells_of hbA0).1
 go_wp2_with fail
 clear fc bc
 refine Calls.mono (embed_f M mb EB MB es clk _ hMA0 hmA0 hf) ?_
 rintro _ B0 ⟨rfl, bB0⟩
 have yB0 := bB0.size
 have hMB0 : B0.heap[M]? = some (.map es clk) := (bB0.block _ (by omega)).trans hMA0
 have hmB0 : B0.heap[mb]? = some (.cells #[.map (some M), .int .i64 2, .map (some EB), .map (some MB)] 151) := (bB0.block _ (by omega)).trans hmA0
 have hbB0 : B0.heap[w.heap.size]? = some (.cells #[.int .i64 3, .string ⟨#[83]⟩, .int .i64 0, .int .i64 0, .slice (some ⟨KS, 0, none⟩) 2 2] 98) := (bB0.block _ (by omega)).trans hbA0
 have nB0 : B0.heap[sb]? = some (.cells #[.int .i64 8, .bool false, .slice (some ⟨g, 0, none⟩) 2 cap, .map (some pb)] 199) := (bB0.block _ (by omega)).trans nA0
 have kB0 : B0.heap[KS]? = some (.cells #[.int .i64 8, .string ⟨#[102]⟩, .int .i64 0, .int .i64 0, .slice none 0 0, .int .i64 8, .string ⟨#[103]⟩, .int .i64 0, .int .i64 0, .slice none 0 0] 98) := (bB0.block _ (by omega)).trans kA0
 have shB0 := shA0.below bB0
 have fB0 : B0.heap[W2.heap.size]? = some (.cells #[.int .i64 8, .string ⟨#[102]⟩, .int .i64 0, .int .i64 0, .slice none 0 0] 98) := (bB0.block _ (by omega)).trans fA0
 have sc2 := (cells_of nB0).1
 have bc := (cells_of hbB0).1
 have fc := (cells_of fB0).1
 have ge := shB0.e0
 have gf := shB0.f0
 go_wp2_with fail
 clear sc2 bc fc
 obtain ⟨C0, hC0⟩ : ∃ W, W = B0.setCell ⟨g, 1, none⟩ (.int .i64 0) := ⟨_, rfl⟩
 rw [← hC0]
 have k_C0 : Kp (· = g) B0 C0 := by rw [hC0]; exact Kp.set _ _ _ _ rfl
 have shC0 : ShS lo C0 g cap pb := by rw [hC0]; exact shB0.set_e0
 clear hC0 ge gf
 have yC0 := k_C0.size
 have hMC0 : C0.heap[M]? = some (.map es clk) := (k_C0.block _ (by omega) hMg).trans hMB0
 have hmC0 : C0.heap[mb]? = some (.cells #[.map (some M), .int .i64 2, .map (some EB), .map (some MB)] 151) := (k_C0.block _ (by omega) hmg).trans hmB0
 have hbC0 : C0.heap[w.heap.size]? = some (.cells #[.int .i64 3, .string ⟨#[83]⟩, .int .i64 0, .int .i64 0, .slice (some ⟨KS, 0, none⟩) 2 2] 98) := (k_C0.block _ (by omega) (by omega)).trans hbB0
 have nC0 : C0.heap[sb]? = some (.cells #[.int .i64 8, .bool false, .slice (some ⟨g, 0, none⟩) 2 cap, .map (some pb)] 199) := (k_C0.block _ (by omega) (by omega)).trans nB0
 have kC0 : C0.heap[KS]? = some (.cells #[.int .i64 8, .string ⟨#[102]⟩, .int .i64 0, .int .i64 0, .slice none 0 0, .int .i64 8, .string ⟨#[103]⟩, .int .i64 0, .int .i64 0, .slice none 0 0] 98) := (k_C0.block _ (by omega) hKg).trans kB0
 have Q1 : Kp (· = g) w C0 := (Kp.trans (Q0.trans (Kp.of (S := fun _ => False) bA0) fun _ _ h => h.elim) (Kp.of (S := fun _ => False) ((bB0))) fun _ _ h => h.elim).trans k_C0 fun _ _ h => h
 have hKXC0 : KS < C0.heap.size := by omega
 have hblC0 : w.heap.size < C0.heap.size := by omega
 have bc := (cells_of hbC0).1
 have sc2 := (cells_of nC0).1
 have kc := (cells_of kC0).1
 rw [rounds_succ]
 go_wp2_with fail
 clear bc sc2 kc
 obtain ⟨A1, hA1⟩ : ∃ W, W = C0.alloc (.cells #[.int .i64 8, .string ⟨#[103]⟩, .int .i64 0, .int .i64 0, .slice none 0 0] 98) := ⟨_, rfl⟩
 rw [← hA1]
 have bA1 : Below C0.heap.size C0 A1 := by rw [hA1]; exact below1 _ _
 have yA1 : C0.heap.size < A1.heap.size := by rw [hA1]; simp
 have fA1 : A1.heap[C0.heap.size]? = some (.cells #[.int .i64 8, .string ⟨#[103]⟩, .int .i64 0, .int .i64 0, .slice none 0 0] 98) := by rw [hA1]; exact heap_new _ _ _ rfl
 clear hA1
 have hMA1 : A1.heap[M]? = some (.map es clk) := (bA1.block _ (by omega)).trans hMC0
 have hmA1 : A1.heap[mb]? = some (.cells #[.map (some M), .int .i64 2, .map (some EB), .map (some MB)] 151) := (bA1.block _ (by omega)).trans hmC0
 have hbA1 : A1.heap[w.heap.size]? = some (.cells #[.int .i64 3, .string ⟨#[83]⟩, .int .i64 0, .int .i64 0, .slice (some ⟨KS, 0, none⟩) 2 2] 98) := (bA1.block _ (by omega)).trans hbC0
 have nA1 : A1.heap[sb]? = some (.cells #[.int .i64 8, .bool false, .slice (some ⟨g, 0, none⟩) 2 cap, .map (some pb)] 199) := (bA1.block _ (by omega)).trans nC0
 have kA1 : A1.heap[KS]? = some (.cells #[.int .i64 8, .string ⟨#[102]⟩, .int .i64 0, .int .i64 0, .slice none 0 0, .int .i64 8, .string ⟨#[103]⟩, .int .i64 0, .int .i64 0, .slice none 0 0] 98) := (bA1.block _ (by omega)).trans kC0
 have shA1 := shC0.below bA1
 refine Calls.mono (containsFunc_fg KS _ _ kA1 fA1) ?_
 rintro _ X1 ⟨rfl, bX1⟩
 have yX1 := bX1.size
 have fX1 : X1.heap[C0.heap.size]? = some (.cells #[.int .i64 8, .string ⟨#[103]⟩, .int .i64 0, .int .i64 0, .slice none 0 0] 98) := (bX1.block _ (by omega)).trans fA1
 have hMX1 : X1.heap[M]? = some (.map es clk) := (bX1.block _ (by omega)).trans hMA1
 have hmX1 : X1.heap[mb]? = some (.cells #[.map (some M), .int .i64 2, .map (some EB), .map (some MB)] 151) := (bX1.block _ (by omega)).trans hmA1
 have hbX1 : X1.heap[w.heap.size]? = some (.cells #[.int .i64 3, .string ⟨#[83]⟩, .int .i64 0, .int .i64 0, .slice (some ⟨KS, 0, none⟩) 2 2] 98) := (bX1.block _ (by omega)).trans hbA1
 have nX1 : X1.heap[sb]? = some (.cells #[.int .i64 8, .bool false, .slice (some ⟨g, 0, none⟩) 2 cap, .map (some pb)] 199) := (bX1.block _ (by omega)).trans nA1
 have kX1 : X1.heap[KS]? = some (.cells #[.int .i64 8, .string ⟨#[102]⟩, .int .i64 0, .int .i64 0, .slice none 0 0, .int .i64 8, .string ⟨#[103]⟩, .int .i64 0, .int .i64 0, .slice none 0 0] 98) := (bX1.block _ (by omega)).trans kA1
 have shX1 := shA1.below bX1
 have fc := (cells_of fX1).1
 have bc := (cells_of hbX1).1
 go_wp2_with fail
 clear fc bc
 refine Calls.mono (embed_g M mb EB MB es clk _ hMX1 hmX1 hg) ?_
 rintro _ B1 ⟨rfl, bB1⟩
 have yB1 := bB1.size
 have hMB1 : B1.heap[M]? = some (.map es clk) := (bB1.block _ (by omega)).trans hMX1
 have hmB1 : B1.heap[mb]? = some (.cells #[.map (some M), .int .i64 2, .map (some EB), .map (some MB)] 151) := (bB1.block _ (by omega)).trans hmX1
 have hbB1 : B1.heap[w.heap.size]? = some (.cells #[.int .i64 3, .string ⟨#[83]⟩, .int .i64 0, .int .i64 0, .slice (some ⟨KS, 0, none⟩) 2 2] 98) := (bB1.block _ (by omega)).trans hbX1
 have nB1 : B1.heap[sb]? = some (.cells #[.int .i64 8, .bool false, .slice (some ⟨g, 0, none⟩) 2 cap, .map (some pb)] 199) := (bB1.block _ (by omega)).trans nX1
 have kB1 : B1.heap[KS]? = some (.cells #[.int .i64 8, .string ⟨#[102]⟩, .int .i64 0, .int .i64 0, .slice none 0 0, .int .i64 8, .string ⟨#[103]⟩, .int .i64 0, .int .i64 0, .slice none 0 0] 98) := (bB1.block _ (by omega)).trans kX1
 have shB1 := shX1.below bB1
 have fB1 : B1.heap[C0.heap.size]? = some (.cells #[.int .i64 8, .string ⟨#[103]⟩, .int .i64 0, .int .i64 0, .slice none 0 0] 98) := (bB1.block _ (by omega)).trans fX1
 have sc2 := (cells_of nB1).1
 have bc := (cells_of hbB1).1
 have fc := (cells_of fB1).1
 have ge := shB1.e1
 have gf := shB1.f1
 go_wp2_with fail
 clear sc2 bc fc
 obtain ⟨C1, hC1⟩ : ∃ W, W = B1.setCell ⟨g, 3, none⟩ (.int .i64 0) := ⟨_, rfl⟩
 rw [← hC1]
 have k_C1 : Kp (· = g) B1 C1 := by rw [hC1]; exact Kp.set _ _ _ _ rfl
 have shC1 : ShS lo C1 g cap pb := by rw [hC1]; exact shB1.set_e1
 clear hC1 ge gf
 have yC1 := k_C1.size
 have hMC1 : C1.heap[M]? = some (.map es clk) := (k_C1.block _ (by omega) hMg).trans hMB1
 have hmC1 : C1.heap[mb]? = some (.cells #[.map (some M), .int .i64 2, .map (some EB), .map (some MB)] 151) := (k_C1.block _ (by omega) hmg).trans hmB1
 have hbC1 : C1.heap[w.heap.size]? = some (.cells #[.int .i64 3, .string ⟨#[83]⟩, .int .i64 0, .int .i64 0, .slice (some ⟨KS, 0, none⟩) 2 2] 98) := (k_C1.block _ (by omega) (by omega)).trans hbB1
 have nC1 : C1.heap[sb]? = some (.cells #[.int .i64 8, .bool false, .slice (some ⟨g, 0, none⟩) 2 cap, .map (some pb)] 199) := (k_C1.block _ (by omega) (by omega)).trans nB1
 have kC1 : C1.heap[KS]? = some (.cells #[.int .i64 8, .string ⟨#[102]⟩, .int .i64 0, .int .i64 0, .slice none 0 0, .int .i64 8, .string ⟨#[103]⟩, .int .i64 0, .int .i64 0, .slice none 0 0] 98) := (k_C1.block _ (by omega) hKg).trans kB1
 have Q2 : Kp (· = g) w C1 := (Kp.trans (Q1.trans (Kp.of (S := fun _ => False) bA1) fun _ _ h => h.elim) (Kp.of (S := fun _ => False) ((bX1.trans (bB1.mono yX1)))) fun _ _ h => h.elim).trans k_C1 fun _ _ h => h
 have hKXC1 : KS < C1.heap.size := by omega
 have hblC1 : w.heap.size < C1.heap.size := by omega
 have bc := (cells_of hbC1).1
 have sc2 := (cells_of nC1).1
 have kc := (cells_of kC1).1
 rw [rounds_succ]
 go_wp2_with fail
 clear bc sc2 kc
 go_ret
 exact ⟨rfl, Q2, shC1⟩
theorem parts_S (M mb EB MB : Nat) (es : Array MapEntry) (clk : Nat) (w : World) (hM : w.heap[M]? = some (.map es clk)) (hm : w.heap[mb]? = some (.cells #[.map (some M), .int .i64 2, .map (some EB), .map (some MB)] 151)) (hf : Instr.findNow .string (.string ⟨#[102]⟩) es.toList 0 = some none) (hg : Instr.findNow .string (.string ⟨#[103]⟩) es.toList 0 = some none) (g cap pb ix lo KS : Nat) (hA : Instr.findNow .string (.string ⟨#[83]⟩) es.toList 0 = some (some (ix, shS g cap pb))) (hsh : ShS lo w g cap pb) (hcap : 2 ≤ cap) (hk : w.heap[KS]? = some (.cells #[.int .i64 8, .string ⟨#[102]⟩, .int .i64 0, .int .i64 0, .slice none 0 0, .int .i64 8, .string ⟨#[103]⟩, .int .i64 0, .int .i64 0, .slice none 0 0] 98)) (hMg : M ≠ g) (hmg : mb ≠ g) (hKg : KS ≠ g) :
  Calls Tryz.prog 74 #[.pointer (some ⟨mb, 0, none⟩), .agg #[.int .i64 3, .string ⟨#[83]⟩, .int .i64 0, .int .i64 0, .slice (some ⟨KS, 0, none⟩) 2 2]] w (PartsSP w lo g cap pb) := by
 have hMl := heap_lt hM
 have hml := heap_lt hm
 go_enter Tryz.func74, Tryz.ntmps74
 go_wp2_with fail
 refine Calls.mono (structParts_S M mb EB MB es clk _ ((heap_old _ _ _ hMl).trans hM) ((heap_old _ _ _ hml).trans hm) hf hg g cap pb ix lo KS hA (hsh.below (below1 w _)) hcap ((heap_old _ _ _ (heap_lt hk)).trans hk) hMg hmg hKg) ?_
 rintro _ w1 ⟨rfl, k, s⟩
 go_wp2_with fail
 go_ret
 exact ⟨rfl, (Kp.alloc _ w _).trans k fun _ _ h => h, s⟩
end Go.Proofs.YtdbijkgnddcneaaGreatDoor.Lx
