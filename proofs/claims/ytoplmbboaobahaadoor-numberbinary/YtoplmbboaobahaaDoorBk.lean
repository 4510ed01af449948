/-
  NumberBinary at any text and any two data.
-/
import Derived.Test.YtoplmbboaobahaaDoorBh
import Derived.Test.YtoplmbboaobahaaDoorBi
import Derived.Test.YtoplmbboaobahaaDoorBj
import Derived.Test.YtoplmbboaobahaaDoorBl
import Derived.Test.YtoplmbboaobahaaDoorE
import Derived.Test.YtoplmbboaobahaaDoorS
namespace Go.Proofs.YtoplmbboaobahaaDoor
open Go.RowKit

theorem of_toList' (u : ByteArray) (l : List UInt8) (h : u.toList = l) : u = ⟨l.toArray⟩ := by
  rw [ByteArray.toList_eq] at h
  subst h
  rfl

theorem op_cases (u : ByteArray) : (∃ o : IOp, u = o.txt) ∨ (∃ o : COp, u = o.txt) ∨ NoOp u := by
  by_cases hadd : u.toList = [43]
  · exact .inl ⟨.add, of_toList' u _ hadd⟩
  by_cases hsub : u.toList = [45]
  · exact .inl ⟨.sub, of_toList' u _ hsub⟩
  by_cases hmul : u.toList = [42]
  · exact .inl ⟨.mul, of_toList' u _ hmul⟩
  by_cases hquo : u.toList = [47]
  · exact .inl ⟨.quo, of_toList' u _ hquo⟩
  by_cases hrem : u.toList = [37]
  · exact .inl ⟨.rem, of_toList' u _ hrem⟩
  by_cases hand : u.toList = [38]
  · exact .inl ⟨.and, of_toList' u _ hand⟩
  by_cases hor : u.toList = [124]
  · exact .inl ⟨.or, of_toList' u _ hor⟩
  by_cases hxor : u.toList = [94]
  · exact .inl ⟨.xor, of_toList' u _ hxor⟩
  by_cases hshl : u.toList = [60, 60]
  · exact .inl ⟨.shl, of_toList' u _ hshl⟩
  by_cases hshr : u.toList = [62, 62]
  · exact .inl ⟨.shr, of_toList' u _ hshr⟩
  by_cases hlt : u.toList = [60]
  · exact .inr (.inl ⟨.lt, of_toList' u _ hlt⟩)
  by_cases hle : u.toList = [60, 61]
  · exact .inr (.inl ⟨.le, of_toList' u _ hle⟩)
  by_cases hgt : u.toList = [62]
  · exact .inr (.inl ⟨.gt, of_toList' u _ hgt⟩)
  by_cases hge : u.toList = [62, 61]
  · exact .inr (.inl ⟨.ge, of_toList' u _ hge⟩)
  exact .inr (.inr ⟨by simpa using hadd, by simpa using hsub, by simpa using hmul, by simpa using hquo, by simpa using hrem, by simpa using hand, by simpa using hor, by simpa using hxor, by simpa using hshl, by simpa using hshr, by simpa using hlt, by simpa using hle, by simpa using hgt, by simpa using hge⟩)

theorem noCmpI (o : IOp) : NoCmp o.txt := by
  constructor <;> rw [ByteArray.toList_eq] <;> cases o <;> decide
theorem NoOp.noCmp {u : ByteArray} (h : NoOp u) : NoCmp u := ⟨h.nlt, h.nle, h.ngt, h.nge⟩

abbrev tabAt (w : World) : Prop := Lib.TabIs Tryd.prog w "internal/strconv.uint64pow10" .u64 Lib.pow10Tab

theorem law_int (o : IOp) (t : ByteArray) (a f : Int) (s : ByteArray) (r0 r1 r2 r3 : Int) (p i : Value) (b f2 : Int) (s2 : ByteArray) (q0 q1 q2 q3 : Int) (p2 i2 : Value) (w : World) (ht : t.size ≤ 140737488351232) (ha0 : -9223372036854775808 ≤ a) (ha1 : a ≤ 9223372036854775807) (hb0 : -9223372036854775808 ≤ b) (hb1 : b ≤ 9223372036854775807) (htab : tabAt w) :
    Calls Tryd.prog 4 #[.string o.txt, D 2 t a f s r0 r1 r2 r3 p i, D 2 t b f2 s2 q0 q1 q2 q3 p2 i2] w fun r w' => r = .returned (.bool true) ∧ Below w.heap.size w w' := by
  by_cases hok : o.ok b
  · exact binaryLaw_good o.txt 2 t a f s r0 r1 r2 r3 p i 2 t b f2 s2 q0 q1 q2 q3 p2 i2 w 2 t (o.val a b) 0 ⟨#[]⟩ (fun W => binary_int o t a b f f2 s s2 r0 r1 r2 r3 p i q0 q1 q2 q3 p2 i2 W ht hok) (fun W => refBinary_int o.txt t a f s r0 r1 r2 r3 p i b f2 s2 q0 q1 q2 q3 p2 i2 W (decide (a < b)) (decide (b < a)) true (fun W => order_int t a b f f2 s s2 r0 r1 r2 r3 p i q0 q1 q2 q3 p2 i2 W) (noCmpI o) (o.val a b) (fun W => refInts_any o a b W hok ha0 ha1))
  · have hf : ((o = .quo ∨ o = .rem) ∧ b = 0) ∨ ((o = .shl ∨ o = .shr) ∧ b < 0) := by
      cases o <;> simp only [IOp.ok, not_true_eq_false, ne_eq, Decidable.not_not] at hok
      · exact .inl ⟨.inl rfl, hok⟩
      · exact .inl ⟨.inr rfl, hok⟩
      · exact .inr ⟨.inl rfl, by omega⟩
      · exact .inr ⟨.inr rfl, by omega⟩
    rcases hf with ⟨ho, rfl⟩ | ⟨ho, hneg⟩
    · exact binaryLaw_bad o.txt 2 t a f s r0 r1 r2 r3 p i 2 t 0 f2 s2 q0 q1 q2 q3 p2 i2 w ⟨#[]⟩ ⟨#[100, 105, 118, 105, 100, 101]⟩ (by decide) (fun W hW => binary_div0 o ho t a f f2 s s2 r0 r1 r2 r3 p i q0 q1 q2 q3 p2 i2 W) (fun W => refBinary_ifault o.txt t a f s r0 r1 r2 r3 p i 0 f2 s2 q0 q1 q2 q3 p2 i2 W (decide (a < 0)) (decide (0 < a)) true (fun W => order_int t a 0 f f2 s s2 r0 r1 r2 r3 p i q0 q1 q2 q3 p2 i2 W) (noCmpI o) 0 ⟨#[100, 105, 118, 105, 100, 101]⟩ ⟨#[]⟩ (by rw [ByteArray.toList_eq]; decide) (fun W => refInts_div0 o ho a W))
    · exact binaryLaw_bad o.txt 2 t a f s r0 r1 r2 r3 p i 2 t b f2 s2 q0 q1 q2 q3 p2 i2 w ⟨(Lib.itoa b).toArray⟩ ⟨#[99, 111, 117, 110, 116]⟩ (by decide) (fun W hW => binary_count o ho t a b f f2 s s2 r0 r1 r2 r3 p i q0 q1 q2 q3 p2 i2 W hneg hb0 (tab_kept htab hW)) (fun W => refBinary_ifault o.txt t a f s r0 r1 r2 r3 p i b f2 s2 q0 q1 q2 q3 p2 i2 W (decide (a < b)) (decide (b < a)) true (fun W => order_int t a b f f2 s s2 r0 r1 r2 r3 p i q0 q1 q2 q3 p2 i2 W) (noCmpI o) 0 ⟨#[99, 111, 117, 110, 116]⟩ ⟨(Lib.itoa b).toArray⟩ (by rw [ByteArray.toList_eq]; decide) (fun W => refInts_count o ho a b W hneg hb0))

theorem law_flt (o : FOp) (t : ByteArray) (a f : Int) (s : ByteArray) (r0 r1 r2 r3 : Int) (p i : Value) (b f2 : Int) (s2 : ByteArray) (q0 q1 q2 q3 : Int) (p2 i2 : Value) (w : World) (ht : t.size ≤ 140737488351232) :
    Calls Tryd.prog 4 #[.string o.txt, D 3 t a f s r0 r1 r2 r3 p i, D 3 t b f2 s2 q0 q1 q2 q3 p2 i2] w fun r w' => r = .returned (.bool true) ∧ Below w.heap.size w w' :=
  binaryLaw_good o.txt 3 t a f s r0 r1 r2 r3 p i 3 t b f2 s2 q0 q1 q2 q3 p2 i2 w 3 t 0 (fC o f.toNat f2.toNat) ⟨#[]⟩ (fun W => binary_flt o t a b f f2 s s2 r0 r1 r2 r3 p i q0 q1 q2 q3 p2 i2 W ht) (fun W => refBinary_flt o t a f s r0 r1 r2 r3 p i b f2 s2 q0 q1 q2 q3 p2 i2 W (Ieee.double.order f.toNat f2.toNat == some .lt) (Ieee.double.order f.toNat f2.toNat == some .gt) ((Ieee.double.order f.toNat f.toNat == some .eq) && (Ieee.double.order f2.toNat f2.toNat == some .eq)) (fun W => order_flt t a b f f2 s s2 r0 r1 r2 r3 p i q0 q1 q2 q3 p2 i2 W))

theorem law_txt (t : ByteArray) (a f : Int) (s : ByteArray) (r0 r1 r2 r3 : Int) (p i : Value) (b f2 : Int) (s2 : ByteArray) (q0 q1 q2 q3 : Int) (p2 i2 : Value) (w : World) (ht : t.size ≤ 140737488351232) (hs : s.size ≤ 140737488351232) (hs2 : s2.size ≤ 140737488351232) (htab : tabAt w) :
    Calls Tryd.prog 4 #[.string ⟨#[43]⟩, D 4 t a f s r0 r1 r2 r3 p i, D 4 t b f2 s2 q0 q1 q2 q3 p2 i2] w fun r w' => r = .returned (.bool true) ∧ Below w.heap.size w w' := by
  by_cases hl : s.size + s2.size ≤ 65536
  · exact binaryLaw_good ⟨#[43]⟩ 4 t a f s r0 r1 r2 r3 p i 4 t b f2 s2 q0 q1 q2 q3 p2 i2 w 4 t 0 0 (s ++ s2) (fun W => binary_text t a b f f2 s s2 r0 r1 r2 r3 p i q0 q1 q2 q3 p2 i2 W ht hl) (fun W => refBinary_txt t a f s r0 r1 r2 r3 p i b f2 s2 q0 q1 q2 q3 p2 i2 W (Op.bytesLess s.toList s2.toList) (Op.bytesLess s2.toList s.toList) true (fun W => order_txt t a b f f2 s s2 r0 r1 r2 r3 p i q0 q1 q2 q3 p2 i2 W hs) hl)
  · exact binaryLaw_bad ⟨#[43]⟩ 4 t a f s r0 r1 r2 r3 p i 4 t b f2 s2 q0 q1 q2 q3 p2 i2 w ⟨(Lib.itoa ((s.size : Int) + s2.size)).toArray⟩ ⟨#[99, 111, 117, 110, 116]⟩ (by decide) (fun W hW => binary_textbad t a b f f2 s s2 r0 r1 r2 r3 p i q0 q1 q2 q3 p2 i2 W (by omega) hs hs2 (tab_kept htab hW)) (fun W => refBinary_long t a f s r0 r1 r2 r3 p i b f2 s2 q0 q1 q2 q3 p2 i2 W (Op.bytesLess s.toList s2.toList) (Op.bytesLess s2.toList s.toList) true (fun W => order_txt t a b f f2 s s2 r0 r1 r2 r3 p i q0 q1 q2 q3 p2 i2 W hs) (by omega) hs hs2)

theorem law_cmp (o : COp) (k : Int) (hk : k = 2 ∨ k = 3 ∨ k = 4) (t : ByteArray) (a f : Int) (s : ByteArray) (r0 r1 r2 r3 : Int) (p i : Value) (b f2 : Int) (s2 : ByteArray) (q0 q1 q2 q3 : Int) (p2 i2 : Value) (w : World) (hs : s.size ≤ 140737488351232) :
    Calls Tryd.prog 4 #[.string o.txt, D k t a f s r0 r1 r2 r3 p i, D k t b f2 s2 q0 q1 q2 q3 p2 i2] w fun r w' => r = .returned (.bool true) ∧ Below w.heap.size w w' := by
  rcases hk with rfl | rfl | rfl
  · exact binaryLaw_good o.txt 2 t a f s r0 r1 r2 r3 p i 2 t b f2 s2 q0 q1 q2 q3 p2 i2 w 1 ⟨#[98, 111, 111, 108]⟩ (b01 (o.iv a b)) 0 ⟨#[]⟩ (fun W => binary_cmp o 2 (by decide) t a b f f2 s s2 r0 r1 r2 r3 p i q0 q1 q2 q3 p2 i2 W) (fun W => (wh_int o a b) ▸ refBinary_cmp2 o t a f s r0 r1 r2 r3 p i b f2 s2 q0 q1 q2 q3 p2 i2 W (decide (a < b)) (decide (b < a)) true (fun W => order_int t a b f f2 s s2 r0 r1 r2 r3 p i q0 q1 q2 q3 p2 i2 W))
  · exact binaryLaw_good o.txt 3 t a f s r0 r1 r2 r3 p i 3 t b f2 s2 q0 q1 q2 q3 p2 i2 w 1 ⟨#[98, 111, 111, 108]⟩ (b01 (o.fv (Ieee.double.order f.toNat f2.toNat))) 0 ⟨#[]⟩ (fun W => binary_cmp o 3 (by decide) t a b f f2 s s2 r0 r1 r2 r3 p i q0 q1 q2 q3 p2 i2 W) (fun W => (wh_flt o f.toNat f2.toNat) ▸ refBinary_cmp3 o t a f s r0 r1 r2 r3 p i b f2 s2 q0 q1 q2 q3 p2 i2 W (Ieee.double.order f.toNat f2.toNat == some .lt) (Ieee.double.order f.toNat f2.toNat == some .gt) ((Ieee.double.order f.toNat f.toNat == some .eq) && (Ieee.double.order f2.toNat f2.toNat == some .eq)) (fun W => order_flt t a b f f2 s s2 r0 r1 r2 r3 p i q0 q1 q2 q3 p2 i2 W))
  · exact binaryLaw_good o.txt 4 t a f s r0 r1 r2 r3 p i 4 t b f2 s2 q0 q1 q2 q3 p2 i2 w 1 ⟨#[98, 111, 111, 108]⟩ (b01 (o.sv s.toList s2.toList)) 0 ⟨#[]⟩ (fun W => binary_cmp o 4 (by decide) t a b f f2 s s2 r0 r1 r2 r3 p i q0 q1 q2 q3 p2 i2 W) (fun W => (wh_txt o s.toList s2.toList) ▸ refBinary_cmp4 o t a f s r0 r1 r2 r3 p i b f2 s2 q0 q1 q2 q3 p2 i2 W (Op.bytesLess s.toList s2.toList) (Op.bytesLess s2.toList s.toList) true (fun W => order_txt t a b f f2 s s2 r0 r1 r2 r3 p i q0 q1 q2 q3 p2 i2 W hs))

theorem binaryLaw_any (u : ByteArray) (k : Int) (t : ByteArray) (a f : Int) (s : ByteArray) (r0 r1 r2 r3 : Int) (p i : Value) (k2 : Int) (t2 : ByteArray) (b f2 : Int) (s2 : ByteArray) (q0 q1 q2 q3 : Int) (p2 i2 : Value) (w : World) (hu : u.size ≤ 140737488351232) (ht : t.size ≤ 140737488351232) (ht2 : t2.size ≤ 140737488351232) (hs : s.size ≤ 140737488351232) (hs2 : s2.size ≤ 140737488351232) (ha0 : -9223372036854775808 ≤ a) (ha1 : a ≤ 9223372036854775807) (hb0 : -9223372036854775808 ≤ b) (hb1 : b ≤ 9223372036854775807) (htab : tabAt w) :
    Calls Tryd.prog 4 #[.string u, D k t a f s r0 r1 r2 r3 p i, D k2 t2 b f2 s2 q0 q1 q2 q3 p2 i2] w fun r w' => r = .returned (.bool true) ∧ Below w.heap.size w w' := by
  by_cases hk : k = k2
  · subst hk
    by_cases htt : t.toList = t2.toList
    · obtain rfl : t = t2 := by rw [ByteArray.toList_eq, ByteArray.toList_eq] at htt; exact ByteArray.ext (Array.toList_inj.1 htt)
      clear htt
      rcases op_cases u with ⟨o, rfl⟩ | ⟨o, rfl⟩ | hno
      · by_cases k2 : k = 2
        · subst k2
          exact law_int o t a f s r0 r1 r2 r3 p i b f2 s2 q0 q1 q2 q3 p2 i2 w ht ha0 ha1 hb0 hb1 htab
        · by_cases k3 : k = 3
          · subst k3
            have hbad : (¬ (o = .add ∨ o = .sub ∨ o = .mul ∨ o = .quo)) → Calls Tryd.prog 4 #[.string o.txt, D 3 t a f s r0 r1 r2 r3 p i, D 3 t b f2 s2 q0 q1 q2 q3 p2 i2] w fun r w' => r = .returned (.bool true) ∧ Below w.heap.size w w' := fun hn =>
              binaryLaw_bad o.txt 3 t a f s r0 r1 r2 r3 p i 3 t b f2 s2 q0 q1 q2 q3 p2 i2 w (opd2 o.txt 3 t 3 t) ⟨#[111, 112, 101, 114, 97, 110, 100]⟩ (by decide) (fun W hW => binary_badI o 3 t a f s r0 r1 r2 r3 p i b f2 s2 q0 q1 q2 q3 p2 i2 W ht k2 (fun h => absurd h hn) (fun _ => by decide)) (fun W => refBinary_fbad o.txt t a f s r0 r1 r2 r3 p i b f2 s2 q0 q1 q2 q3 p2 i2 W ht hu (Ieee.double.order f.toNat f2.toNat == some .lt) (Ieee.double.order f.toNat f2.toNat == some .gt) ((Ieee.double.order f.toNat f.toNat == some .eq) && (Ieee.double.order f2.toNat f2.toNat == some .eq)) (fun W => order_flt t a b f f2 s s2 r0 r1 r2 r3 p i q0 q1 q2 q3 p2 i2 W) (noCmpI o) (by rw [ByteArray.toList_eq]; cases o <;> first | decide | simp at hn) (by rw [ByteArray.toList_eq]; cases o <;> first | decide | simp at hn) (by rw [ByteArray.toList_eq]; cases o <;> first | decide | simp at hn) (by rw [ByteArray.toList_eq]; cases o <;> first | decide | simp at hn))
            cases o
            case add => exact law_flt .add t a f s r0 r1 r2 r3 p i b f2 s2 q0 q1 q2 q3 p2 i2 w ht
            case sub => exact law_flt .sub t a f s r0 r1 r2 r3 p i b f2 s2 q0 q1 q2 q3 p2 i2 w ht
            case mul => exact law_flt .mul t a f s r0 r1 r2 r3 p i b f2 s2 q0 q1 q2 q3 p2 i2 w ht
            case quo => exact law_flt .quo t a f s r0 r1 r2 r3 p i b f2 s2 q0 q1 q2 q3 p2 i2 w ht
            all_goals exact hbad (by simp)
          · by_cases k4 : k = 4
            · subst k4
              have hbad : o ≠ .add → Calls Tryd.prog 4 #[.string o.txt, D 4 t a f s r0 r1 r2 r3 p i, D 4 t b f2 s2 q0 q1 q2 q3 p2 i2] w fun r w' => r = .returned (.bool true) ∧ Below w.heap.size w w' := fun hn =>
                binaryLaw_bad o.txt 4 t a f s r0 r1 r2 r3 p i 4 t b f2 s2 q0 q1 q2 q3 p2 i2 w (opd2 o.txt 4 t 4 t) ⟨#[111, 112, 101, 114, 97, 110, 100]⟩ (by decide) (fun W hW => binary_badI o 4 t a f s r0 r1 r2 r3 p i b f2 s2 q0 q1 q2 q3 p2 i2 W ht k2 (fun _ => k3) (fun h => absurd h hn)) (fun W => refBinary_tbad o.txt t a f s r0 r1 r2 r3 p i b f2 s2 q0 q1 q2 q3 p2 i2 W ht hu (Op.bytesLess s.toList s2.toList) (Op.bytesLess s2.toList s.toList) true (fun W => order_txt t a b f f2 s s2 r0 r1 r2 r3 p i q0 q1 q2 q3 p2 i2 W hs) (noCmpI o) (by rw [ByteArray.toList_eq]; cases o <;> first | decide | simp at hn))
              cases o
              case add => exact law_txt t a f s r0 r1 r2 r3 p i b f2 s2 q0 q1 q2 q3 p2 i2 w ht hs hs2 htab
              all_goals exact hbad (by simp)
            · exact binaryLaw_bad o.txt k t a f s r0 r1 r2 r3 p i k t b f2 s2 q0 q1 q2 q3 p2 i2 w (opd2 o.txt k t k t) ⟨#[111, 112, 101, 114, 97, 110, 100]⟩ (by decide) (fun W hW => binary_badI o k t a f s r0 r1 r2 r3 p i b f2 s2 q0 q1 q2 q3 p2 i2 W ht k2 (fun _ => k3) (fun _ => k4)) (fun W => refBinary_badC o.txt k t a f s r0 r1 r2 r3 p i b f2 s2 q0 q1 q2 q3 p2 i2 W ht hu k2 k3 k4)
      · by_cases hk : k = 2 ∨ k = 3 ∨ k = 4
        · exact law_cmp o k hk t a f s r0 r1 r2 r3 p i b f2 s2 q0 q1 q2 q3 p2 i2 w hs
        · have k2 : k ≠ 2 := fun h => hk (.inl h)
          have k3 : k ≠ 3 := fun h => hk (.inr (.inl h))
          have k4 : k ≠ 4 := fun h => hk (.inr (.inr h))
          exact binaryLaw_bad o.txt k t a f s r0 r1 r2 r3 p i k t b f2 s2 q0 q1 q2 q3 p2 i2 w (opd2 o.txt k t k t) ⟨#[111, 112, 101, 114, 97, 110, 100]⟩ (by decide) (fun W hW => binary_badC o k t a f s r0 r1 r2 r3 p i b f2 s2 q0 q1 q2 q3 p2 i2 W ht k2 k3 k4) (fun W => refBinary_badC o.txt k t a f s r0 r1 r2 r3 p i b f2 s2 q0 q1 q2 q3 p2 i2 W ht hu k2 k3 k4)
      · have key : (∀ W, Calls Tryd.prog 16 #[.string u, D k t a f s r0 r1 r2 r3 p i, D k t b f2 s2 q0 q1 q2 q3 p2 i2] W fun r w' => r = .returned (.tuple #[.agg #[.int .i64 0, .string ⟨#[]⟩, .int .i64 0, .int .u64 0, .string ⟨#[]⟩, .int .i64 0, .int .i64 0, .int .i64 0, .int .i64 0, .slice none 0 0, .slice none 0 0], .agg #[.string ⟨#[111, 112, 101, 114, 97, 110, 100]⟩, .string (opd2 u k t k t)]]) ∧ Below W.heap.size W w') := fun W => by
          by_cases k2 : k = 2
          · subst k2
            exact refBinary_inone u t a f s r0 r1 r2 r3 p i b f2 s2 q0 q1 q2 q3 p2 i2 W ht hu (decide (a < b)) (decide (b < a)) true (fun W => order_int t a b f f2 s s2 r0 r1 r2 r3 p i q0 q1 q2 q3 p2 i2 W) hno.noCmp 0 (fun W => refInts_none u hno a b W)
          · by_cases k3 : k = 3
            · subst k3
              exact refBinary_fbad u t a f s r0 r1 r2 r3 p i b f2 s2 q0 q1 q2 q3 p2 i2 W ht hu (Ieee.double.order f.toNat f2.toNat == some .lt) (Ieee.double.order f.toNat f2.toNat == some .gt) ((Ieee.double.order f.toNat f.toNat == some .eq) && (Ieee.double.order f2.toNat f2.toNat == some .eq)) (fun W => order_flt t a b f f2 s s2 r0 r1 r2 r3 p i q0 q1 q2 q3 p2 i2 W) hno.noCmp hno.nadd hno.nsub hno.nmul hno.nquo
            · by_cases k4 : k = 4
              · subst k4
                exact refBinary_tbad u t a f s r0 r1 r2 r3 p i b f2 s2 q0 q1 q2 q3 p2 i2 W ht hu (Op.bytesLess s.toList s2.toList) (Op.bytesLess s2.toList s.toList) true (fun W => order_txt t a b f f2 s s2 r0 r1 r2 r3 p i q0 q1 q2 q3 p2 i2 W hs) hno.noCmp hno.nadd
              · exact refBinary_badC u k t a f s r0 r1 r2 r3 p i b f2 s2 q0 q1 q2 q3 p2 i2 W ht hu k2 k3 k4
        exact binaryLaw_bad u k t a f s r0 r1 r2 r3 p i k t b f2 s2 q0 q1 q2 q3 p2 i2 w (opd2 u k t k t) ⟨#[111, 112, 101, 114, 97, 110, 100]⟩ (by decide) (fun W hW => binary_badN u k t a f s r0 r1 r2 r3 p i b f2 s2 q0 q1 q2 q3 p2 i2 W ht hu hno) (fun W => key W)
    · have htb : (t.toList == t2.toList) = false := by simpa using htt
      exact binaryLaw_bad u k t a f s r0 r1 r2 r3 p i k t2 b f2 s2 q0 q1 q2 q3 p2 i2 w (opd2 u k t k t2) ⟨#[111, 112, 101, 114, 97, 110, 100]⟩ (by decide) (fun W hW => binary_badT u k t a f s r0 r1 r2 r3 p i t2 b f2 s2 q0 q1 q2 q3 p2 i2 W ht ht2 hu htb) (fun W => refBinary_badT u k t a f s r0 r1 r2 r3 p i t2 b f2 s2 q0 q1 q2 q3 p2 i2 W ht ht2 hu htb)
  · exact binaryLaw_bad u k t a f s r0 r1 r2 r3 p i k2 t2 b f2 s2 q0 q1 q2 q3 p2 i2 w (opd2 u k t k2 t2) ⟨#[111, 112, 101, 114, 97, 110, 100]⟩ (by decide) (fun W hW => binary_badK u k t a f s r0 r1 r2 r3 p i k2 t2 b f2 s2 q0 q1 q2 q3 p2 i2 W ht ht2 hu hk) (fun W => refBinary_badK u k t a f s r0 r1 r2 r3 p i k2 t2 b f2 s2 q0 q1 q2 q3 p2 i2 W ht ht2 hu hk)
end Go.Proofs.YtoplmbboaobahaaDoor
