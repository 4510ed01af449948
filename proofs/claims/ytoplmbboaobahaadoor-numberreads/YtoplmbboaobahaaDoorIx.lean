/-
  The place of a byte in a text, by the library's contract laid at this program; the walk of Cut at a point.
-/
import Derived.Shelf.Strings.Search2
import Derived.Lib.IndexLaws
import Derived.Test.YtoplmbboaobahaaDoorRd
namespace Go.Proofs.YtoplmbboaobahaaDoor
open Go.Shelf

def lays219_ren : Go.Shelf.Ren := ⟨fun | 219 => 85 | 217 => 94 | 225 => 95 | 224 => 96 | 267 => 97 | 266 => 107 | 314 => 108 | n => n, fun | 9 => 9 | 3 => 3 | 4 => 4 | 5 => 5 | 46 => 103 | 146 => 128 | 51 => 127 | n => n, fun | 1 => 1 | n => n⟩
theorem lays219 : Go.Proofs.Lays.n219 Tryd.prog lays219_ren := {
  mixed := by kernel_rfl
  f217 := Tryd.func94.trans (congrArg some (by kernel_rfl))
  f219 := Tryd.func85.trans (congrArg some (by kernel_rfl))
  f224 := Tryd.func96.trans (congrArg some (by kernel_rfl))
  f225 := Tryd.func95.trans (congrArg some (by kernel_rfl))
  f266 := Tryd.func107.trans (congrArg some (by kernel_rfl))
  f267 := Tryd.func97.trans (congrArg some (by kernel_rfl))
  f314 := Tryd.func108.trans (congrArg some (by kernel_rfl))
  t3 := Tryd.underlying3
  a3 := Tryd.isAgg3
  z3 := Tryd.sizeOf3
  v3 := Tryd.zeroValue3
  t4 := Tryd.underlying4
  a4 := Tryd.isAgg4
  z4 := Tryd.sizeOf4
  v4 := Tryd.zeroValue4
  t5 := Tryd.underlying5
  a5 := Tryd.isAgg5
  z5 := Tryd.sizeOf5
  v5 := Tryd.zeroValue5
  t9 := Tryd.underlying9
  a9 := Tryd.isAgg9
  z9 := Tryd.sizeOf9
  v9 := Tryd.zeroValue9
  t46 := Tryd.underlying103
  a46 := Tryd.isAgg103
  z46 := Tryd.sizeOf103
  v46 := Tryd.zeroValue103
  t51 := Tryd.underlying127
  a51 := Tryd.isAgg127
  z51 := Tryd.sizeOf127
  v51 := Tryd.zeroValue127
  t146 := Tryd.underlying128
  a146 := Tryd.isAgg128
  z146 := Tryd.sizeOf128
  v146 := Tryd.zeroValue128
  g1 := by kernel_rfl }
open Go.RowKit Go.Lib in
theorem index_one (s : ByteArray) (c : UInt8) (w : World) : Calls Tryd.prog 85 #[.string s, .string ⟨#[c]⟩] w fun e w' => e = .returned (.int .i64 (Lib.indexByte s.data.toList c)) ∧ w' = w := Any.stringslite_Index_one lays219 s c w

open Go.RowKit

set_option maxRecDepth 100000 in
set_option maxHeartbeats 1000000 in
theorem cut1_no (s : ByteArray) (w : World) (h : Lib.indexByte s.data.toList 46 = -1) : Calls Tryd.prog 78 #[.string s, .string ⟨#[46]⟩] w fun r w' => r = .returned (.tuple #[.string s, .string ⟨#[]⟩, .bool false]) ∧ Below w.heap.size w w' := by
  have HI : Hid (∀ W, Calls Tryd.prog 85 #[.string s, .string ⟨#[46]⟩] W fun e w' => e = .returned (.int .i64 (-1)) ∧ w' = W) := fun W => by have := index_one s 46 W; rw [h] at this; exact this
  clear h
  go_enter Tryd.func78, Tryd.ntmps78
  go_wp2_with (go_at_call 85; refine (HI.out _).mono ?_; rintro r w' ⟨rfl, rfl⟩)
  refine bodyPost_ret (v := .tuple #[.string s, .string ⟨#[]⟩, .bool false]) (by simp [results, Tryd.results78, go_sem]) rfl ⟨rfl, Below.refl _ _⟩

set_option maxRecDepth 100000 in
set_option maxHeartbeats 1000000 in
theorem cut1_yes (s : ByteArray) (o : Nat) (w : World) (h : Lib.indexByte s.data.toList 46 = o) (ho : o < s.size) (hs : s.size ≤ 281474976710656) : Calls Tryd.prog 78 #[.string s, .string ⟨#[46]⟩] w fun r w' => r = .returned (.tuple #[.string (s.extract 0 o), .string (s.extract (o + 1) s.size), .bool true]) ∧ Below w.heap.size w w' := by
  have HI : Hid (∀ W, Calls Tryd.prog 85 #[.string s, .string ⟨#[46]⟩] W fun e w' => e = .returned (.int .i64 o) ∧ w' = W) := fun W => by have := index_one s 46 W; rw [h] at this; exact this
  clear h
  have hsz : (⟨#[46]⟩ : ByteArray).size = 1 := rfl
  go_enter Tryd.func78, Tryd.ntmps78
  go_wp2_with (go_at_call 85; refine (HI.out _).mono ?_; rintro r w' ⟨rfl, rfl⟩)
  go_region
  go_wp2
  refine bodyPost_ret (v := .tuple #[.string (s.extract 0 o), .string (s.extract (o + 1) s.size), .bool true]) (by simp [results, Tryd.results78, go_sem]) rfl ⟨rfl, (Below.refl _ _).drew⟩

theorem cut_no (s : ByteArray) (w : World) (h : Lib.indexByte s.data.toList 46 = -1) : Calls Tryd.prog 61 #[.string s, .string ⟨#[46]⟩] w fun r w' => r = .returned (.tuple #[.string s, .string ⟨#[]⟩, .bool false]) ∧ Below w.heap.size w w' := by
  go_enter Tryd.func61, Tryd.ntmps61
  go_wp2_with (go_at_call 78; refine (cut1_no s _ h).mono ?_; rintro r w' ⟨rfl, hb⟩)
  refine bodyPost_ret (v := .tuple #[.string s, .string ⟨#[]⟩, .bool false]) (by simp [results, Tryd.results61, go_sem]) rfl ⟨rfl, hb⟩

theorem cut_yes (s : ByteArray) (o : Nat) (w : World) (h : Lib.indexByte s.data.toList 46 = o) (ho : o < s.size) (hs : s.size ≤ 281474976710656) : Calls Tryd.prog 61 #[.string s, .string ⟨#[46]⟩] w fun r w' => r = .returned (.tuple #[.string (s.extract 0 o), .string (s.extract (o + 1) s.size), .bool true]) ∧ Below w.heap.size w w' := by
  go_enter Tryd.func61, Tryd.ntmps61
  go_wp2_with (go_at_call 78; refine (cut1_yes s o _ h ho hs).mono ?_; rintro r w' ⟨rfl, hb⟩)
  refine bodyPost_ret (v := .tuple #[.string (s.extract 0 o), .string (s.extract (o + 1) s.size), .bool true]) (by simp [results, Tryd.results61, go_sem]) rfl ⟨rfl, hb⟩
end Go.Proofs.YtoplmbboaobahaaDoor
