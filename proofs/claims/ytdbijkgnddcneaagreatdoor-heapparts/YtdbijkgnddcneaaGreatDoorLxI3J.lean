/-
  tree.Right at a program with two types: its functions one by one.
  The types that are there from the beginning.
  tree.Right at a program with two types: texts, numbers, faults.
  tree.Right at a program with two types: check.
  tree.Right at a program with two types: check of its types.
  tree.Right at a program with two types.
-/
import Derived.Test.YtdbijkgnddcneaaGreatDoorLxE
import Derived.Test.YtdbijkgnddcneaaGreatDoorLxNm
import Derived.Deep.RegionHeld3
import Derived.BigQuiet
namespace Go.Proofs.YtdbijkgnddcneaaGreatDoor.Lx
open Go.RowKit Go.ChangeMaps

/-- Only blocks of S, and new ones, have changed. -/
structure Kp (S : Nat → Prop) (w w' : World) : Prop where
  os : w'.os = w.os
  tape : w'.tape = w.tape
  output : w'.output = w.output
  size : w.heap.size ≤ w'.heap.size
  block : ∀ k, k < w.heap.size → ¬ S k → w'.heap[k]? = w.heap[k]?
theorem Kp.refl (S : Nat → Prop) (w : World) : Kp S w w := ⟨rfl, rfl, rfl, Nat.le_refl _, fun _ _ _ => rfl⟩
theorem Kp.of {S : Nat → Prop} {w w' : World} (h : Below w.heap.size w w') : Kp S w w' := ⟨h.os, h.tape, h.output, h.size, fun k hk _ => h.block k hk⟩
theorem Kp.trans {S S' : Nat → Prop} {a b c : World} (h : Kp S a b) (k : Kp S' b c) (hs : ∀ i, i < a.heap.size → S' i → S i) : Kp S a c :=
  ⟨k.os.trans h.os, k.tape.trans h.tape, k.output.trans h.output, Nat.le_trans h.size k.size, fun i hi hn => (k.block i (Nat.lt_of_lt_of_le hi h.size) fun q => hn (hs i hi q)).trans (h.block i hi hn)⟩
theorem Kp.below {S : Nat → Prop} {w w' : World} (h : Kp S w w') {B : Nat} (hB : B ≤ w.heap.size) (hn : ∀ i, i < B → ¬ S i) : Below B w w' := ⟨h.os, h.tape, h.output, h.size, fun k hk => h.block k (Nat.lt_of_lt_of_le hk hB) (hn k hk)⟩
theorem Kp.set {S : Nat → Prop} (w : World) (b o : Nat) (v : Value) (hb : S b) : Kp S w (w.setCell ⟨b, o, none⟩ v) :=
  ⟨rfl, rfl, rfl, by simp, fun k _ hn => Below.heap_setCell w ⟨b, o, none⟩ v k (by show k ≠ b; intro e; exact hn (e ▸ hb))⟩
end Go.Proofs.YtdbijkgnddcneaaGreatDoor.Lx
namespace Go.Proofs.YtdbijkgnddcneaaGreatDoor.Lx
open Go.RowKit Go.ChangeMaps

end Go.Proofs.YtdbijkgnddcneaaGreatDoor.Lx
namespace Go.Proofs.YtdbijkgnddcneaaGreatDoor.Lx
open Go.RowKit Go.ChangeMaps

end Go.Proofs.YtdbijkgnddcneaaGreatDoor.Lx
namespace Go.Proofs.YtdbijkgnddcneaaGreatDoor.Lx
open Go.RowKit Go.ChangeMaps

end Go.Proofs.YtdbijkgnddcneaaGreatDoor.Lx
namespace Go.Proofs.YtdbijkgnddcneaaGreatDoor.Lx
open Go.RowKit Go.ChangeMaps

end Go.Proofs.YtdbijkgnddcneaaGreatDoor.Lx
namespace Go.Proofs.YtdbijkgnddcneaaGreatDoor.Lx
open Go.RowKit Go.ChangeMaps

/-- The tree lies in memory. -/
structure TreeAt (KP KS KT : Nat) (w : World) : Prop where
  p : w.heap[KP]? = some (.cells #[.int .i64 3, .string ⟨#[83]⟩, .int .i64 0, .int .i64 0, .slice (some ⟨KS, 0, none⟩) 2 2, .int .i64 3, .string ⟨#[84]⟩, .int .i64 0, .int .i64 0, .slice (some ⟨KT, 0, none⟩) 1 1] 98)
  s : w.heap[KS]? = some (.cells #[.int .i64 8, .string ⟨#[102]⟩, .int .i64 0, .int .i64 0, .slice none 0 0, .int .i64 8, .string ⟨#[103]⟩, .int .i64 0, .int .i64 0, .slice none 0 0] 98)
  t : w.heap[KT]? = some (.cells #[.int .i64 8, .string ⟨#[97]⟩, .int .i64 0, .int .i64 0, .slice none 0 0] 98)
end Go.Proofs.YtdbijkgnddcneaaGreatDoor.Lx
