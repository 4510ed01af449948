/-
  trace.Calls.
-/
import Derived.Test.YtapakbibofnhkaaDoorU
import Derived.Test.YtapakbibofnhkaaDoorR
namespace Go.Proofs.YtapakbibofnhkaaDoor
open Go.RowKit Go.ChangeMaps

/-- What Calls writes. -/
def callsB (l : List Ev) : List UInt8 := outB (runS (l.take 200000)).1
theorem inv_runl (l : List Ev) : Inv (runS l).1 (runS l).2 ∧ (runS l).1.length ≤ l.length := by
  have := inv_run l l.length (Nat.le_refl _)
  rwa [List.take_length] at this
set_option maxRecDepth 100000 in
set_option maxHeartbeats 4000000 in
theorem calls_any (l : List Ev) (pp : Option Addr) (c : Nat) (w : World) (he : EvsAt w pp l) (hl : l.length * 32 ≤ 140737488355328) (hlc : l.length ≤ c) (htab : Tab w) :
    Calls Tryd.prog 14 #[.slice pp l.length c] w fun r w' => r = .returned (.string ⟨(callsB l).toArray⟩) ∧ Below w.heap.size w w' := by
  have HE : Hid (EvsAt w pp l) := he
  have HTAB : Hid (Tab w) := htab
  have hmm := @run_makeMap Tryd.prog
  clear he htab
  go_enter Tryd.func14, Tryd.ntmps14
  go_wp2_with fail
  have e : (min (l.length : Int) 200000).toNat = (l.take 200000).length := by simp; omega
  rw [e]
  clear e
  obtain ⟨X, hX⟩ : ∃ W, W = ((w.alloc (.map #[] 0)).alloc (.cells #[.slice none 0 0, .slice none 0 0, .map (some w.heap.size)] 52)).alloc (.cells #[.func (.func 22) #[] #[], .func (.func 23) #[.pointer (some ⟨w.heap.size + 1, 0, none⟩)] #[], .func (.func 24) #[.pointer (some ⟨w.heap.size + 1, 0, none⟩)] #[], .func (.func 25) #[.pointer (some ⟨w.heap.size + 1, 0, none⟩)] #[]] 44) := ⟨_, rfl⟩
  rw [← hX]
  have x0 : Below w.heap.size w X := by rw [hX]; exact below3 w _ _ _
  have xs : X.heap.size = w.heap.size + 3 := by rw [hX]; simp
  have xm : X.heap[w.heap.size]? = some (.map #[] 0) := by rw [hX, heap_old _ _ _ (by simp; omega), heap_old _ _ _ (by simp)]; exact heap_new _ _ _ rfl
  have xb : X.heap[w.heap.size + 1]? = some (.cells #[.slice none 0 0, .slice none 0 0, .map (some w.heap.size)] 52) := by rw [hX, heap_old _ _ _ (by simp)]; exact heap_new _ _ _ (by simp)
  have xq : X.heap[w.heap.size + 1 + 1]? = some (.cells #[.func (.func 22) #[] #[], .func (.func 23) #[.pointer (some ⟨w.heap.size + 1, 0, none⟩)] #[], .func (.func 24) #[.pointer (some ⟨w.heap.size + 1, 0, none⟩)] #[], .func (.func 25) #[.pointer (some ⟨w.heap.size + 1, 0, none⟩)] #[]] 44) := by rw [hX]; exact heap_new _ _ _ (by simp)
  have C0 : CAt (w.heap.size + 2) (w.heap.size + 1) w.heap.size (.slice none 0 0) (.slice none 0 0) [] [] (fun _ => none) X := ⟨xb, World.ownsRow_nil _ _ _ _, World.ownsRow_nil _ _ _ _, ⟨[], 0, xm, List.Pairwise.nil, fun _ => rfl⟩, by omega, by omega⟩
  have hL : (l.take 200000).length ≤ 200000 := by simp; omega
  refine (ask_calls (w.heap.size + 2) (w.heap.size + 1) w.heap.size (w.heap.size + 1 + 1) (l.take 200000) pp c X ((HE.out.take _).below x0 (Nat.le_refl _)) (fun b f hb hn => ?_) hL C0 (by omega) xq ⟨by omega, by omega⟩).mono ?_
  · obtain ⟨b', f', hb', hlt, _⟩ := (HE.out.take 200000).nonempty (List.length_pos_iff.2 hn)
    rw [hb] at hb'
    simp only [Option.some.injEq, Addr.mk.injEq, and_true] at hb'
    omega
  rintro _ Y ⟨rfl, av, ov, f, CY, ky⟩
  have y0 : Below w.heap.size w Y := x0.trans (ky.below (fun b hb => by omega) (by omega))
  have hi := inv_runl (l.take 200000)
  have HCY : Hid _ := CY
  have HY0 : Hid (Below w.heap.size w Y) := y0
  have HI : Hid _ := hi
  clear hX xm xb xq C0 ky CY y0 hi x0 xs hmm
  go_wp2_with fail
  refine (written_any _ _ _ _ _ _ _ _ Y HCY.out (fun c hc => by have h1 := HI.out.1.small c hc; have h2 := HI.out.2; omega) (by have h2 := HI.out.2; omega) (HTAB.out.below HY0.out (Nat.le_refl _))).mono ?_
  rintro _ Z ⟨rfl, hz⟩
  have HZ : Hid (Below w.heap.size w Z) := HY0.out.trans (hz.mono HY0.out.size)
  clear hz
  go_wp2_with fail
  go_ret
  exact ⟨rfl, HZ.out⟩
end Go.Proofs.YtapakbibofnhkaaDoor
