/-
  .
  .
-/
import Derived.Test.YtdbijkgnddcneaaGreatDoorMuJ
import Derived.Test.YtdbijkgnddcneaaGreatDoorXa
import Derived.Test.YtdbijkgnddcneaaGreatDoorMf
namespace Go.Proofs.YtdbijkgnddcneaaGreatDoor
open Go.RowKit
theorem whole_eqv (a b : Int) : MD.eqv 4 (wholeD a) (wholeD b) = (decide (a = b), ⟨#[]⟩) := by
 unfold MD.eqv
 simp [wholeD]
end Go.Proofs.YtdbijkgnddcneaaGreatDoor
namespace Go.Proofs.YtdbijkgnddcneaaGreatDoor
open Go.RowKit
theorem ek {a b : Int} {k : MD} (h : MD.same 4 (wholeD a) k = true) : (MD.eqv 4 k (wholeD b)).1 = decide (a = b) := by
 rw [← same_eqv 4 (wholeD a) k (wholeD b) (wholeD b) h (same_self 4 _), whole_eqv]
theorem whole_key (z : Int) : (MD.eqv 4 (wholeD z) (wholeD z)).2 = ⟨#[]⟩ := by rw [whole_eqv]
structure St (w : World) (m : Nat) (W : World) (es : List Ent) (G : KG) : Prop where
 old : Below w.heap.size w W
 map : KM 4 W m es G
 own : ∀ b, KM.own m es G b → w.heap.size ≤ b
variable {w W W' : World} {m : Nat} {es : List Ent} {G : KG}
theorem kn_new (w W : World) (hW : Below w.heap.size w W) : Calls Tryz.prog 54 #[] W fun r W' => ∃ m G, r = .returned (.pointer (some ⟨m, 0, none⟩)) ∧ St w m W' [] G :=
 (new_any 4 W).mono fun _ _ ⟨m, G, h1, h2, h3, h4⟩ => ⟨m, G, h1, hW.trans (h3.mono hW.size), h2, fun b hb => Nat.le_trans hW.size (h4 b hb)⟩
end Go.Proofs.YtdbijkgnddcneaaGreatDoor
