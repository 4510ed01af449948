/-
  The walks of the laws' own functions told and fresh, where the program tells what the document tells.
-/
import Derived.Test.YtnpiicceafgioaaDoorP
import Derived.LaidEql
namespace Go.Proofs.YtnpiicceafgioaaDoor
open Go.RowKit

theorem assert_nil (w : World) : (Instr.typeAssert .nilIface 30 59 true).run Tryd.prog w = .ok (.tuple #[.pointer none, .bool false]) w := by kernel_rfl

set_option maxHeartbeats 400000 in
theorem told_ok (a : Int) (t : ByteArray) (w : World) :
    Calls Tryd.prog 13 #[.nilIface, .agg #[.int .i64 0, .int .i64 a, .string t]] w fun e w' => e = .returned (.bool true) ∧ Below w.heap.size w w' := by
  go_enter Tryd.func13, Tryd.ntmps13
  go_wp2
  go_ret
  exact ⟨rfl, (Below.refl _ _).alloc (Nat.le_refl _) _⟩

set_option maxHeartbeats 400000 in
theorem told_wrong (b : Nat) (c p : Int) (w : World) (h : WrongAt w b c p) (hc : (c == 0) = false) :
    Calls Tryd.prog 13 #[.iface 59 (.pointer (some ⟨b, 0, none⟩)), .agg #[.int .i64 c, .int .i64 p, .string ⟨#[]⟩]] w fun e w' => e = .returned (.bool true) ∧ Below w.heap.size w w' := by
  have hb0 : Below w.heap.size w (w.alloc (.cells #[.int .i64 c, .int .i64 p, .string ⟨#[]⟩] 26)) := (Below.refl _ _).alloc (Nat.le_refl _) _
  have h1 := h.below h.lt hb0
  have e0 := h1.code
  have e1 := h1.place
  have e2 := h1.name
  have ha := assert_wrong b
  have HB : Hid (Below w.heap.size w (w.alloc (.cells #[.int .i64 c, .int .i64 p, .string ⟨#[]⟩] 26))) := hb0
  have hlt := h.lt
  clear hb0 h1 h
  go_enter Tryd.func13, Tryd.ntmps13
  go_wp2
  go_quiet (fail)
  go_wp2
  go_ret
  exact ⟨by first | rfl | simp, below_drewN HB.out _⟩

set_option maxHeartbeats 400000 in
theorem fresh_nil (w : World) :
    Calls Tryd.prog 14 #[.nilIface, .nilIface] w fun e w' => e = .returned (.bool true) ∧ w' = w := by
  have ha := assert_nil
  go_enter Tryd.func14, Tryd.ntmps14
  go_wp2
  go_ret
  exact ⟨rfl, rfl⟩

theorem eqIn_two (d : Nat) (b b' : Nat) (c p c' p' : Int) (w : World) (hne : b ≠ b') (h : WrongAt w b c p) (h' : WrongAt w b' c' p') :
    (Op.equalIn (d + 1) 59 (.pointer (some ⟨b, 0, none⟩)) (.pointer (some ⟨b', 0, none⟩))).run Tryd.prog w = .ok false w := by
  have hs : (sameAddr ⟨b, 0, none⟩ ⟨b', 0, none⟩).run Tryd.prog w = .ok false w := run_sameAddr_other w (fun e => hne (congrArg Addr.block e)) h.row h'.row
  have hz : (sizeOf 26).run Tryd.prog w = .ok 3 w := by kernel_rfl
  simp [Op.equalIn, run_underlying Tryd.underlying59, hz, hs]
theorem neq_two (b b' : Nat) (c p c' p' : Int) (w : World) (hne : b ≠ b') (h : WrongAt w b c p) (h' : WrongAt w b' c' p') :
    (binOp .neq 59 (.pointer (some ⟨b, 0, none⟩)) (.pointer (some ⟨b', 0, none⟩))).run Tryd.prog w = .ok (.bool true) w := by
  have he : (Op.equal 59 (.pointer (some ⟨b, 0, none⟩)) (.pointer (some ⟨b', 0, none⟩))).run Tryd.prog w = .ok false w := eqIn_two 9999 b b' c p c' p' w hne h h'
  simp only [binOp]
  simp [he]

set_option maxHeartbeats 400000 in
theorem fresh_two (b b' : Nat) (c p c' p' : Int) (w : World) (hne : b ≠ b') (h : WrongAt w b c p) (h' : WrongAt w b' c' p') :
    Calls Tryd.prog 14 #[.iface 59 (.pointer (some ⟨b, 0, none⟩)), .iface 59 (.pointer (some ⟨b', 0, none⟩))] w fun e w' => e = .returned (.bool true) ∧ w' = w := by
  have ha := assert_wrong b
  have ha' := assert_wrong b'
  have hn := neq_two b b' c p c' p' w hne h h'
  clear h h' hne
  go_enter Tryd.func14, Tryd.ntmps14
  go_wp2
  go_ret
  exact ⟨rfl, rfl⟩
end Go.Proofs.YtnpiicceafgioaaDoor
