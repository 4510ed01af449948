/-
  DispatchTurns: the names, and what both caches tell at the end.
-/
import Derived.Test.YtaboeocgoocgfaaGreatDoorBi
import Derived.Laws.IdiomStrings
import Derived.Lib.BufferRead
namespace Go.Proofs.YtaboeocgoocgfaaGreatDoor
open Go.RowKit Go.ChangeMaps

/-- The text of two bytes that are just laid. -/
theorem nm_conv (J : Nat) (hJ : J ≤ 60) (w : World) :
    Sem.run Tryz.prog (convert 47 9 (.slice (some ⟨w.heap.size, 0, none⟩) 2 2)) (w.alloc (.cells #[.int .u8 110, .int .u8 (wrap64 (48 + (J : Int)) % 256)] 5)) = .ok (.string (nm J)) (w.alloc (.cells #[.int .u8 110, .int .u8 (wrap64 (48 + (J : Int)) % 256)] 5)) := by
  have e : wrap64 (48 + (J : Int)) % 256 = ((UInt8.ofNat (48 + J)).toNat : Int) := by
    rw [UInt8.toNat_ofNat_of_lt' (by show 48 + J < 256; omega)]
    unfold wrap64
    omega
  rw [e]
  have hh := heap_new w (.cells #[.int .u8 110, .int .u8 ((UInt8.ofNat (48 + J)).toNat : Int)] 5) w.heap.size rfl
  exact run_convert_bytes_back (P := Tryz.prog) _ 47 9 5 ⟨w.heap.size, 0, none⟩ 2 [110, UInt8.ofNat (48 + J)] Tryz.underlying47 Tryz.underlying5 Tryz.underlying9 (Lib.bytes_of_row hh rfl)

section
variable {w0 : World} {tB tb M g cap pb pe clk : Nat} {es : Array MapEntry} {k : Nat} {mc cc md cd : Nat}
theorem Two.below {t i j : Nat} {w w' : World} (h : Two w0 tB tb M g cap pb pe clk es k mc cc md cd t i j w) (hb : Below w.heap.size w w') : Two w0 tB tb M g cap pb pe clk es k mc cc md cd t i j w' := by
  obtain ⟨Lc, Dc, kc, Ld, Dd, kd, ht, sc, ic, sd, id, hdis, hlo, hbl⟩ := h
  have hcl := sd.lt (Or.inl rfl)
  have := hlo cd (Or.inl rfl)
  exact ⟨Lc, Dc, kc, Ld, Dd, kd, ht.below hb, sc.kp (Kp.of (S := fun _ => False) hb) fun _ _ h => h, ic, sd.kp (Kp.of (S := fun _ => False) hb) fun _ _ h => h, id, hdis, hlo, hbl.trans (hb.mono (by omega))⟩

theorem ents_size (D : List (ByteArray × Nat × Nat)) : (ents D).toArray.size = D.length := by simp [ents]
/-- What the first one tells at the end. -/
theorem end_c {t i : Nat} {w : World} (hk : k ≤ 60) (hi : 1 ≤ i) (h : Two w0 tB tb M g cap pb pe clk es k mc cc md cd t i 0 w) :
    (Calls Tryz.prog 10 #[.pointer (some ⟨cc, 0, none⟩)] w fun e w' => e = .returned (.int .i64 (((i - 1) * k : Nat) : Int)) ∧ w' = w) ∧
    (Calls Tryz.prog 11 #[.pointer (some ⟨cc, 0, none⟩)] w fun e w' => e = .returned (.int .i64 (k : Int)) ∧ w' = w) ∧
    (Calls Tryz.prog 12 #[.pointer (some ⟨cc, 0, none⟩)] w fun e w' => e = .returned (.int .i64 (k : Int)) ∧ w' = w) := by
  obtain ⟨Lc, Dc, kc, Ld, Dd, kd, ht, sc, ic, sd, id, hdis, hlo, hbl⟩ := h
  have hn : Dc.length = k := by
    rcases ic with ⟨h, _⟩ | ⟨_, _, hn⟩
    · omega
    · rw [← names_len, hn]; simp
  have e1 : hitsC k i 0 = (((i - 1) * k : Nat) : Int) := by simp only [hitsC, if_neg (show ¬ i = 0 by omega), Nat.add_zero]
  have e2 : missC k i 0 = (k : Int) := by simp only [missC, if_neg (show ¬ i = 0 by omega)]
  have c := sc.ring.cache
  rw [e1, e2] at c
  have hs := ents_size Dc
  refine ⟨hits_any _ _ _ c, misses_any _ _ _ c, ?_⟩
  have := kept_any cc mc (ents Dc).toArray kc w c sc.map (by omega)
  rw [hs, hn] at this
  exact this
/-- What the other one tells. -/
theorem end_d {t i : Nat} {w : World} (hk : k ≤ 60) (ht : k ≤ t) (h : Two w0 tB tb M g cap pb pe clk es k mc cc md cd t i 0 w) :
    (Calls Tryz.prog 10 #[.pointer (some ⟨cd, 0, none⟩)] w fun e w' => e = .returned (.int .i64 0) ∧ w' = w) ∧
    (Calls Tryz.prog 11 #[.pointer (some ⟨cd, 0, none⟩)] w fun e w' => e = .returned (.int .i64 (t : Int)) ∧ w' = w) ∧
    (Calls Tryz.prog 12 #[.pointer (some ⟨cd, 0, none⟩)] w fun e w' => e = .returned (.int .i64 (k : Int)) ∧ w' = w) := by
  obtain ⟨Lc, Dc, kc, Ld, Dd, kd, ht2, sc, ic, sd, id, hdis, hlo, hbl⟩ := h
  have hn : Dd.length = k := by rw [← names_len, id.2]; simp; omega
  have c := sd.ring.cache
  have hs := ents_size Dd
  refine ⟨hits_any _ _ _ c, misses_any _ _ _ c, ?_⟩
  have := kept_any cd md (ents Dd).toArray kd w c sd.map (by omega)
  rw [hs, hn] at this
  exact this
end
end Go.Proofs.YtaboeocgoocgfaaGreatDoor
