/-
  Two caches asked in turns: what lies in memory behind each question.
-/
import Derived.Test.YtaboeocgoocgfaaGreatDoorBg
namespace Go.Proofs.YtaboeocgoocgfaaGreatDoor
open Go.RowKit Go.ChangeMaps

/-- The name with a number. -/
def nm (j : Nat) : ByteArray := ⟨#[110, UInt8.ofNat (48 + j)]⟩
theorem nm_inj {a b : Nat} (ha : a ≤ 60) (hb : b ≤ 60) (h : nm a = nm b) : a = b := by
  have h1 : UInt8.ofNat (48 + a) = UInt8.ofNat (48 + b) := by
    simp only [nm, ByteArray.mk.injEq] at h
    simpa using h
  have h2 := congrArg UInt8.toNat h1
  rw [UInt8.toNat_ofNat_of_lt' (by show 48 + a < 256; omega), UInt8.toNat_ofNat_of_lt' (by show 48 + b < 256; omega)] at h2
  omega
theorem nm_size (j : Nat) : (nm j).size ≤ 60000 := by show 2 ≤ 60000; decide
theorem nm_x (j : Nat) : Instr.findNow .string (.string (nm j)) (#[⟨.string ⟨#[120]⟩, .agg #[.bool true, .int .i64 0, .bool false, .int .i64 0], 0⟩] : Array MapEntry).toList 0 = some none := by
  have h : ((nm j) == (⟨#[120]⟩ : ByteArray)) = false := by
    rw [beq_toListBytes, ByteArray.toList_eq, ByteArray.toList_eq]
    simp [nm]
  simp [Instr.findNow, Instr.sameNow, h]

def pairs (D : List (ByteArray × Nat × Nat)) : List (ByteArray × Nat) := D.map fun x => (x.1, x.2.1)
def names (D : List (ByteArray × Nat × Nat)) : List ByteArray := D.map (·.1)
theorem beq_ne {a b : ByteArray} (h : a ≠ b) : (a == b) = false := by
  rw [beq_toListBytes]
  simp only [beq_eq_false_iff_ne, ne_eq]
  intro e
  apply h
  rw [ByteArray.toList_eq, ByteArray.toList_eq] at e
  obtain ⟨⟨x⟩⟩ := a
  obtain ⟨⟨y⟩⟩ := b
  simpa using e
theorem at_none {s : ByteArray} : ∀ {D : List (ByteArray × Nat × Nat)} {i : Nat}, (∀ x ∈ names D, s ≠ x) → at? s D i = none
  | [], _, _ => rfl
  | x :: D, i, h => by
    rw [at?, beq_ne (h x.1 (by simp [names])), if_neg (by simp)]
    exact at_none fun y hy => h y (by simp [names] at hy ⊢; exact Or.inr hy)
theorem at_some {s : ByteArray} : ∀ {D : List (ByteArray × Nat × Nat)} {i j : Nat} {e : Nat}, (pairs D)[j]? = some (s, e) → (∀ i', i' < j → ∀ x, (names D)[i']? = some x → s ≠ x) → at? s D i = some (i + j, e)
  | [], i, j, e, h, _ => by simp [pairs] at h
  | x :: D, i, 0, e, h, _ => by
    simp [pairs] at h
    obtain ⟨h1, h2⟩ := h
    rw [at?, h1, bb_self, if_pos rfl, h2]; rfl
  | x :: D, i, j + 1, e, h, hn => by
    rw [at?, beq_ne (hn 0 (by omega) x.1 (by simp [names])), if_neg (by simp)]
    have := at_some (s := s) (D := D) (i := i + 1) (j := j) (e := e) (by simpa [pairs] using h) fun i' hi' x hx => hn (i' + 1) (by omega) x (by simpa [names] using hx)
    rw [this]
    congr 2
    omega

/-- What the small cache keeps behind t questions. -/
def DI (k t : Nat) (L : List (ByteArray × Nat)) (D : List (ByteArray × Nat × Nat)) : Prop :=
  L = pairs D ∧ names D = (List.range' (t - k) (min t k)).map fun u => nm (u % (k + 1))
/-- What the other one keeps in the turn i behind j questions. -/
def CI (k i j : Nat) (L : List (ByteArray × Nat)) (D : List (ByteArray × Nat × Nat)) : Prop :=
  (i = 0 ∧ L = pairs D ∧ names D = (List.range j).map nm) ∨ (1 ≤ i ∧ L = (pairs D).drop j ++ (pairs D).take j ∧ names D = (List.range k).map nm)
def hitsC (k i j : Nat) : Int := if i = 0 then 0 else ((i - 1) * k + j : Nat)
def missC (k i j : Nat) : Int := if i = 0 then (j : Nat) else (k : Nat)

section
variable (w0 : World) (tB tb M g cap pb pe clk : Nat) (es : Array MapEntry) (k : Nat) (mc cc md cd : Nat)
/-- Both caches, and the table. -/
def Two (t i j : Nat) (w : World) : Prop := ∃ Lc Dc kc Ld Dd kd, TabAt w tb M g cap pb pe es clk ∧ St w tb mc cc k (hitsC k i j) (missC k i j) Lc Dc kc ∧ CI k i j Lc Dc ∧ St w tb md cd k 0 t Ld Dd kd ∧ DI k t Ld Dd ∧
  (∀ a, own mc cc Lc a → tB ≤ a ∧ ¬ own md cd Ld a) ∧ (∀ a, own md cd Ld a → tB ≤ a) ∧ Below tB w0 w

theorem di_none {t : Nat} {L : List (ByteArray × Nat)} {D : List (ByteArray × Nat × Nat)} (hk : k ≤ 60) (h : DI k t L D) : at? (nm (t % (k + 1))) D 0 = none := by
  refine at_none fun x hx e => ?_
  rw [h.2] at hx
  obtain ⟨u, hu, rfl⟩ := List.mem_map.1 hx
  have h1 : t % (k + 1) < k + 1 := Nat.mod_lt _ (by omega)
  have h2 : u % (k + 1) < k + 1 := Nat.mod_lt _ (by omega)
  have h3 := nm_inj (by omega) (by omega) e
  have h4 := Nat.sub_mod_eq_zero_of_mod_eq h3
  simp only [List.mem_range'_1] at hu
  have h5 : (t - u) % (k + 1) = t - u := Nat.mod_eq_of_lt (by omega)
  omega
theorem pairs_len (D : List (ByteArray × Nat × Nat)) : (pairs D).length = D.length := by simp [pairs]
theorem names_len (D : List (ByteArray × Nat × Nat)) : (names D).length = D.length := by simp [names]

/-- The small one is asked. -/
theorem step_d {t i j : Nat} (hk : 1 ≤ k ∧ k ≤ 60) (hB : tb < tB ∧ M < tB ∧ g < tB ∧ pb < tB ∧ pe < tB) (h1000 : t < 1000) (w : World) (h : Two w0 tB tb M g cap pb pe clk es k mc cc md cd t i j w) :
    Calls Tryz.prog 15 #[.pointer (some ⟨cd, 0, none⟩), .string ⟨#[65]⟩, .bool false, .string (nm (t % (k + 1)))] w fun e w' => e = .returned fnd0 ∧ Two w0 tB tb M g cap pb pe clk es k mc cc md cd (t + 1) i j w' := by
  obtain ⟨Lc, Dc, kc, Ld, Dd, kd, ht, sc, ic, sd, id, hdis, hlo, hbl⟩ := h
  have hno := di_none k hk.2 id
  have hlen : Dd.length = min t k := by rw [← names_len, id.2]; simp
  have htl := ht.lts
  have fin : ∀ (w' : World) (L' : List (ByteArray × Nat)) (D' : List (ByteArray × Nat × Nat)) (k' : Nat), St w' tb md cd k 0 ((t : Int) + 1) L' D' k' → Kp (own md cd Ld) w w' → (∀ a, own md cd L' a → own md cd Ld a ∨ w.heap.size ≤ a) → DI k (t + 1) L' D' → Two w0 tB tb M g cap pb pe clk es k mc cc md cd (t + 1) i j w' := by
    intro w' L' D' k' s' kk hsub hdi
    have hcd := hlo cd (Or.inl rfl)
    have hcl := sd.lt (Or.inl rfl)
    refine ⟨Lc, Dc, kc, L', D', k', ht.kp kk hB fun a ha ho => ?_, sc.kp kk fun a ha => (hdis a ha).2, ic, by exact_mod_cast s', hdi, fun a ha => ⟨(hdis a ha).1, fun ho => ?_⟩, fun a ha => ?_, hbl.trans (kk.below (by omega) fun a ha ho => ?_)⟩
    · have := hlo a ho; omega
    · rcases hsub a ho with h | h
      · exact (hdis a ha).2 h
      · have := sc.lt ha; omega
    · rcases hsub a ha with h | h
      · exact hlo a h
      · omega
    · have := hlo a ho; omega
  rcases Nat.lt_or_ge t k with htk | htk
  · refine Calls.mono (find_miss w sd tB ht hB (hlo cd (Or.inl rfl)) (nm_size _) (nm_x _) hno (by rw [hlen]; omega) (by rw [hlen]; omega) (by omega)) ?_
    rintro _ w' ⟨eb, rfl, h1, s', kk⟩
    refine ⟨rfl, fin w' _ _ _ s' kk (fun a ha => ?_) ⟨?_, ?_⟩⟩
    · rcases ha with h | h | ⟨x, hx, h⟩
      · exact Or.inl (Or.inl h)
      · exact Or.inl (Or.inr (Or.inl h))
      · rcases List.mem_append.1 hx with hx | hx
        · exact Or.inl (Or.inr (Or.inr ⟨x, hx, h⟩))
        · simp at hx; subst hx; simp at h; exact Or.inr (by omega)
    · rw [id.1]; simp [pairs]
    · have e1 := id.2
      have m1 : min t k = t := by omega
      have m2 : min (t + 1) k = t + 1 := by omega
      have m3 : t + 1 - k = 0 := by omega
      have m4 : t - k = 0 := by omega
      rw [m1, m4] at e1
      rw [m2, m3, List.range'_1_concat, List.map_append, ← e1]
      simp [names]
  · cases Dd with
    | nil => simp at hlen; omega
    | cons x Dd =>
      obtain ⟨s0, e0, t0⟩ := x
      have hL := id.1
      simp only [pairs, List.map_cons] at hL
      subst hL
      simp only [List.length_cons] at hlen
      refine Calls.mono (find_evict w sd tB ht hB (hlo cd (Or.inl rfl)) (nm_size _) (nm_x _) hno (by omega) (by omega) (by omega)) ?_
      rintro _ w' ⟨eb, rfl, h1, s', kk⟩
      refine ⟨rfl, fin w' _ _ _ s' kk (fun a ha => ?_) ⟨?_, ?_⟩⟩
      · rcases ha with h | h | ⟨x, hx, h⟩
        · exact Or.inl (Or.inl h)
        · exact Or.inl (Or.inr (Or.inl h))
        · rcases List.mem_append.1 hx with hx | hx
          · exact Or.inl (Or.inr (Or.inr ⟨x, by simp at hx ⊢; exact Or.inr hx, h⟩))
          · simp at hx; subst hx; simp at h; exact Or.inr (by omega)
      · simp [pairs]
      · have e1 := id.2
        obtain ⟨k', rfl⟩ : ∃ k', k = k' + 1 := ⟨k - 1, by omega⟩
        have m1 : min t (k' + 1) = k' + 1 := by omega
        have m2 : min (t + 1) (k' + 1) = k' + 1 := by omega
        have m3 : t + 1 - (k' + 1) = t - (k' + 1) + 1 := by omega
        rw [m1, List.range'_succ] at e1
        simp only [names, List.map_cons, List.cons.injEq] at e1
        rw [m2, m3, List.range'_1_concat, List.map_append, ← e1.2]
        have m4 : t - (k' + 1) + 1 + k' = t := by omega
        simp [names, m4]

/-- The other one is asked. -/
theorem step_c {t i j : Nat} (hk : 1 ≤ k ∧ k ≤ 60) (hj : j < k) (hi : i < 10) (hB : tb < tB ∧ M < tB ∧ g < tB ∧ pb < tB ∧ pe < tB) (w : World) (h : Two w0 tB tb M g cap pb pe clk es k mc cc md cd t i j w) :
    Calls Tryz.prog 15 #[.pointer (some ⟨cc, 0, none⟩), .string ⟨#[65]⟩, .bool false, .string (nm j)] w fun e w' => e = .returned fnd0 ∧ Two w0 tB tb M g cap pb pe clk es k mc cc md cd t i (j + 1) w' := by
  obtain ⟨Lc, Dc, kc, Ld, Dd, kd, ht, sc, ic, sd, id, hdis, hlo, hbl⟩ := h
  have htl := ht.lts
  have fin : ∀ (w' : World) (L' : List (ByteArray × Nat)) (D' : List (ByteArray × Nat × Nat)) (k' : Nat), St w' tb mc cc k (hitsC k i (j + 1)) (missC k i (j + 1)) L' D' k' → Kp (own mc cc Lc) w w' → (∀ a, own mc cc L' a → own mc cc Lc a ∨ w.heap.size ≤ a) → CI k i (j + 1) L' D' → Two w0 tB tb M g cap pb pe clk es k mc cc md cd t i (j + 1) w' := by
    intro w' L' D' k' s' kk hsub hdi
    have hcd := (hdis cc (Or.inl rfl)).1
    have hcl := sc.lt (Or.inl rfl)
    refine ⟨L', D', k', Ld, Dd, kd, ht.kp kk hB fun a ha ho => ?_, s', hdi, sd.kp kk fun a ha ho => (hdis a ho).2 ha, id, fun a ha => ?_, hlo, hbl.trans (kk.below (by omega) fun a ha ho => ?_)⟩
    · have := (hdis a ho).1; omega
    · rcases hsub a ha with h | h
      · exact hdis a h
      · exact ⟨by omega, fun ho => by have := sd.lt ho; omega⟩
    · have := (hdis a ho).1; omega
  rcases ic with ⟨rfl, hL, hn⟩ | ⟨hi1, hL, hn⟩
  · have hlen : Dc.length = j := by rw [← names_len, hn]; simp
    have hno : at? (nm j) Dc 0 = none := at_none fun x hx e => by
      rw [hn] at hx
      obtain ⟨u, hu, rfl⟩ := List.mem_map.1 hx
      have := List.mem_range.1 hu
      have := nm_inj (by omega) (by omega) e
      omega
    refine Calls.mono (find_miss w sc tB ht hB (hdis cc (Or.inl rfl)).1 (nm_size _) (nm_x _) hno (by rw [hlen]; omega) (by rw [hlen]; omega) (by simp only [missC, if_true]; omega)) ?_
    rintro _ w' ⟨eb, rfl, h1, s', kk⟩
    refine ⟨rfl, fin w' _ _ _ (by simpa [missC, hitsC] using s') kk (fun a ha => ?_) (Or.inl ⟨rfl, ?_, ?_⟩)⟩
    · rcases ha with h | h | ⟨x, hx, h⟩
      · exact Or.inl (Or.inl h)
      · exact Or.inl (Or.inr (Or.inl h))
      · rcases List.mem_append.1 hx with hx | hx
        · exact Or.inl (Or.inr (Or.inr ⟨x, hx, h⟩))
        · simp at hx; subst hx; simp at h; exact Or.inr (by omega)
    · rw [hL]; simp [pairs]
    · rw [List.range_succ, List.map_append, ← hn]; simp [names]
  · have hlen : Dc.length = k := by rw [← names_len, hn]; simp
    have hjl : j < (pairs Dc).length := by rw [pairs_len, hlen]; exact hj
    have hname : (names Dc)[j]? = some (nm j) := by rw [hn]; simp [hj]
    obtain ⟨eb, heb⟩ : ∃ eb, (pairs Dc)[j] = (nm j, eb) := by
      have hjd : j < Dc.length := by rw [hlen]; exact hj
      refine ⟨Dc[j].2.1, ?_⟩
      simp only [names, List.getElem?_map, List.getElem?_eq_getElem hjd, Option.map_some, Option.some.injEq] at hname
      simp [pairs, hname]
    have hL2 : Lc = (nm j, eb) :: ((pairs Dc).drop (j + 1) ++ (pairs Dc).take j) := by
      rw [hL, List.drop_eq_getElem_cons hjl, heb, List.cons_append]
    subst hL2
    have hat : at? (nm j) Dc 0 = some (0 + j, eb) := at_some (by rw [List.getElem?_eq_getElem hjl, heb]) fun i' hi' x hx e => by
      rw [hn] at hx
      simp [show i' < k by omega] at hx
      subst hx
      have := nm_inj (by omega) (by omega) e
      omega
    have hb : ((i - 1) * k + j : Nat) < 1000 := by
      have : (i - 1) * k ≤ 8 * 60 := Nat.mul_le_mul (by omega) hk.2
      omega
    refine Calls.mono (find_turn w sc hat (by rw [hlen]; exact Int.le_refl _) (by rw [hlen]; omega) (by simp only [hitsC, if_neg (show ¬ i = 0 by omega)]; omega)) ?_
    rintro _ w' ⟨rfl, s', kk⟩
    have e1 : hitsC k i j + 1 = hitsC k i (j + 1) := by simp only [hitsC, if_neg (show ¬ i = 0 by omega)]; omega
    have e2 : missC k i j = missC k i (j + 1) := by simp only [missC, if_neg (show ¬ i = 0 by omega)]
    rw [e1, e2] at s'
    refine ⟨rfl, fin w' _ _ _ s' kk (fun a ha => ?_) (Or.inr ⟨hi1, ?_, hn⟩)⟩
    · rcases ha with h | h | ⟨x, hx, h⟩
      · exact Or.inl (Or.inl h)
      · exact Or.inl (Or.inr (Or.inl h))
      · refine Or.inl (Or.inr (Or.inr ⟨x, ?_, h⟩))
        rcases List.mem_append.1 hx with hx | hx
        · exact List.mem_cons_of_mem _ hx
        · simp at hx; subst hx; simp
    · rw [List.append_assoc, ← heb, List.take_append_getElem hjl]

/-- A turn begins. -/
theorem turn_c {t i : Nat} {w : World} (h : Two w0 tB tb M g cap pb pe clk es k mc cc md cd t i k w) : Two w0 tB tb M g cap pb pe clk es k mc cc md cd t (i + 1) 0 w := by
  obtain ⟨Lc, Dc, kc, Ld, Dd, kd, ht, sc, ic, r⟩ := h
  have hlen : names Dc = (List.range k).map nm ∧ Lc = pairs Dc := by
    rcases ic with ⟨_, hL, hn⟩ | ⟨_, hL, hn⟩
    · exact ⟨hn, hL⟩
    · have : (pairs Dc).length = k := by rw [pairs_len, ← names_len, hn]; simp
      refine ⟨hn, ?_⟩
      rw [hL, List.drop_of_length_le (by omega), List.take_of_length_le (by omega)]; rfl
  refine ⟨Lc, Dc, kc, Ld, Dd, kd, ht, ?_, Or.inr ⟨by omega, by simpa using hlen.2, hlen.1⟩, r⟩
  have e1 : hitsC k i k = hitsC k (i + 1) 0 := by
    simp only [hitsC]
    rcases Nat.eq_zero_or_pos i with rfl | hi
    · simp
    · rw [if_neg (by omega), if_neg (by omega)]
      have : (i + 1 - 1) * k + 0 = (i - 1) * k + k := by
        obtain ⟨i', rfl⟩ : ∃ i', i = i' + 1 := ⟨i - 1, by omega⟩
        simp [Nat.add_mul]
      rw [this]
  have e2 : missC k i k = missC k (i + 1) 0 := by simp [missC]
  rw [← e1, ← e2]
  exact sc
end
end Go.Proofs.YtaboeocgoocgfaaGreatDoor
