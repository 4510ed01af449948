/-
  Paths: where one lies.
-/
import Derived.Test.YtoplmbboaobahaaDoorA
namespace Go.Proofs.YtoplmbboaobahaaDoor
open Go.RowKit

/-- Numbers as cells. -/
def nums (zs : List Int) : List Value := zs.map (Value.int .i64)
theorem nums_len (zs : List Int) : (nums zs).length = zs.length := by simp [nums]
theorem nums_one (zs : List Int) : ∀ u ∈ nums zs, u.oneCell' = true := by intro u hu; simp [nums] at hu; obtain ⟨z, _, rfl⟩ := hu; rfl

/-- A path's numbers are zs; where there are some, they lie below B. -/
structure PathAt (w : World) (B : Nat) (pp : Option Addr) (m : Nat) (zs : List Int) : Prop where
  len : zs.length = m
  at_ : 0 < m → ∃ ad, pp = some ad ∧ (∀ (j : Nat) (u : Value), (nums zs)[j]? = some u → w.cell? (ad.add j) = some u) ∧ ∀ j, (ad.add j).block < B
theorem PathAt.kept {w W : World} {B : Nat} {pp : Option Addr} {m : Nat} {zs : List Int} (h : PathAt w B pp m zs) (hb : Below B w W) : PathAt W B pp m zs :=
  ⟨h.len, fun hm => by
    obtain ⟨ad, e, h1, h2⟩ := h.at_ hm
    exact ⟨ad, e, fun j u hj => (hb.cell (p := ad.add j) (h2 j)).trans (h1 j u hj), h2⟩⟩
theorem PathAt.mono {w : World} {B C : Nat} {pp : Option Addr} {m : Nat} {zs : List Int} (h : PathAt w B pp m zs) (hb : B ≤ C) : PathAt w C pp m zs :=
  ⟨h.len, fun hm => by
    obtain ⟨ad, e, h1, h2⟩ := h.at_ hm
    exact ⟨ad, e, h1, fun j => Nat.lt_of_lt_of_le (h2 j) hb⟩⟩

end Go.Proofs.YtoplmbboaobahaaDoor
