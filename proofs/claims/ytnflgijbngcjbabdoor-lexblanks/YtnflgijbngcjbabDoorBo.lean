/-
  Plain facts: blanks ahead of tokens, and remarks ahead of a line's end, change nothing but places.
-/
import Derived.Test.YtnflgijbngcjbabDoorBn
namespace Go.Proofs.YtnflgijbngcjbabDoor
open Go.RowKit

def ins3 : Bytes := [32, 47, 47, 32, 34, 120]
def ins4 : Bytes := [47, 47, 47]

/-- A text with something laid ahead of each token (f i: ahead of the i-th), and its tokens. -/
def woven (f : Nat → Bytes) : Bytes → Nat → Nat → List Tok → Bytes
  | m, _, _, [] => m
  | m, p, i, t :: rest => m.take (t.2.2 - p) ++ (f i ++ woven f (m.drop (t.2.2 - p)) t.2.2 (i + 1) rest)
def wovenT (f : Nat → Bytes) : Nat → Nat → Nat → List Tok → List Tok
  | _, _, _, [] => []
  | p, q, i, t :: rest => (t.1, t.2.1, q + (t.2.2 - p) + (f i).length) :: wovenT f t.2.2 (q + (t.2.2 - p) + (f i).length) (i + 1) rest

def InsOk (m a : Bytes) : Prop := (a = [] ∨ a = [32] ∨ a = [9, 32]) ∨ ((m = [] ∨ ∃ z, m = 10 :: z) ∧ (a = ins3 ∨ a = ins4))

theorem rd_ge {e : Bool} {p : Nat} {m : Bytes} {ts : List Tok} (h : Rd e p m ts) : ∀ t rest, ts = t :: rest → p ≤ t.2.2 := by
  induction h with
  | fin0 p => intro t rest e; cases e
  | fin1 p => intro t rest e; cases e; exact Nat.le_refl _
  | blank e p b m ts hb r ih => intro t rest e; have := ih t rest e; omega
  | feed0 p m ts r ih => intro t rest e; have := ih t rest e; omega
  | feed1 p m ts r ih => intro t rest e; cases e; exact Nat.le_refl _
  | remark e p r m ts hr hm h ih => intro t rest e; have := ih t rest e; omega
  | tok e p x y kd t' ts hx ht h0 h1 hs r ih => intro t rest e; cases e; exact Nat.le_refl _

theorem woven_app (f : Nat → Bytes) (x m : Bytes) (p i : Nat) (ts : List Tok) (h : ∀ t rest, ts = t :: rest → p + x.length ≤ t.2.2) : woven f (x ++ m) p i ts = x ++ woven f m (p + x.length) i ts := by
  cases ts with
  | nil => rfl
  | cons t rest =>
    have ht := h t rest rfl
    simp only [woven]
    rw [List.take_append, List.take_of_length_le (by omega), List.drop_append, List.drop_eq_nil_of_le (by omega), List.nil_append, List.append_assoc, show t.2.2 - p - x.length = t.2.2 - (p + x.length) by omega]
theorem wovenT_app (f : Nat → Bytes) (p q k i : Nat) (ts : List Tok) (h : ∀ t rest, ts = t :: rest → p + k ≤ t.2.2) : wovenT f p q i ts = wovenT f (p + k) (q + k) i ts := by
  cases ts with
  | nil => rfl
  | cons t rest =>
    have ht := h t rest rfl
    simp only [wovenT]
    rw [show q + k + (t.2.2 - (p + k)) = q + (t.2.2 - p) by omega]

theorem ins_plain {e : Bool} {q : Nat} {y : Bytes} {us : List Tok} (a : Bytes) (ha : a = [] ∨ a = [32] ∨ a = [9, 32]) (r : Rd e (q + a.length) y us) : Rd e q (a ++ y) us := by
  rcases ha with rfl | rfl | rfl
  · exact r
  · exact .blank e q 32 y us (.inl rfl) r
  · exact .blank e q 9 _ us (.inr rfl) (.blank e (q + 1) 32 y us (.inl rfl) r)
theorem ins_any {e : Bool} {q : Nat} {m y : Bytes} {us : List Tok} (a : Bytes) (ha : InsOk m a) (hy : y = [] ∨ ∃ z, y = 10 :: z) (r : Rd e (q + a.length) y us) : Rd e q (a ++ y) us := by
  rcases ha with ha | ⟨-, rfl | rfl⟩
  · exact ins_plain a ha r
  · exact .blank e q 32 _ us (.inl rfl) (.remark e (q + 1) [32, 34, 120] y us (by decide) hy r)
  · exact .remark e q [47] y us (by decide) hy r
theorem ins_no10 {m a : Bytes} (h : InsOk m a) : ∀ b ∈ a, b.toNat ≠ 10 := by
  rcases h with (rfl | rfl | rfl) | ⟨-, rfl | rfl⟩ <;> decide
theorem ins_near {m a : Bytes} (h : InsOk m a) (y Y : Bytes) (h0 : a = [] → Near true y Y) : Near true y (a ++ Y) := by
  rcases h with (rfl | rfl | rfl) | ⟨-, rfl | rfl⟩
  · exact h0 rfl
  · exact .inr (.inl rfl)
  · exact .inr (.inr (.inl rfl))
  · exact .inr (.inl rfl)
  · exact .inr (.inr (.inr ⟨rfl, rfl⟩))
theorem near_cons (e : Bool) (b : UInt8) (y Y : Bytes) (h : b ≠ 46) : Near e (b :: y) (b :: Y) := .inl ⟨rfl, fun hc => absurd (Option.some.inj hc) h⟩

theorem dot_table : ∀ k, k < 42 → (signL k).getD 0 0 = 46 → (signL k).length = 1 := by decide +kernel
theorem tok_dot (x y : Bytes) (kd : Nat) (t : Bytes) (ht : tokSpec (x ++ y) 0 (x.getD 0 0).toNat = .ok (kd, t, x.length)) (h : x.getD 0 0 = 46) : x.length = 1 := by
  unfold tokSpec at ht
  rw [h, if_neg (by decide), if_neg (by decide), if_neg (by decide), if_neg (by decide)] at ht
  simp only [signSpec, List.drop_zero, Nat.zero_add] at ht
  by_cases h0 : signLen (x ++ y) = 0
  · rw [if_pos h0] at ht; cases ht
  rw [if_neg h0] at ht
  have hsl : signLen (x ++ y) = x.length := congrArg (fun x => x.2.2) (Except.ok.inj ht)
  obtain ⟨k, hk, hp, -, hl⟩ := sign_found _ h0
  rw [List.isPrefixOf_iff_prefix] at hp
  have h1 := List.prefix_iff_eq_take.1 hp
  rw [← hl, hsl, List.take_left] at h1
  rw [← h1]
  exact dot_table k hk (by rw [h1]; exact h)

theorem weave (f : Nat → Bytes) (l : Bytes) {e : Bool} {p : Nat} {m : Bytes} {ts : List Tok} (h : Rd e p m ts) : ∀ i q, m = l.drop p → (∀ j t, ts[j]? = some t → InsOk (l.drop t.2.2) (f (i + j))) →
    Rd e q (woven f m p i ts) (wovenT f p q i ts) ∧ Near e m (woven f m p i ts) ∧
    ((m = [] ∨ ∃ m', m = 10 :: m') → (e = false → woven f m p i ts = [] ∨ ∃ z, woven f m p i ts = 10 :: z) ∧
      (e = true → ∃ Z, woven f m p i ts = f i ++ Z ∧ (∀ b ∈ f i, b.toNat ≠ 10) ∧ (Z = [] ∨ ∃ z, Z = 10 :: z) ∧ Rd true (q + (f i).length) Z (wovenT f p q i ts))) := by
  induction h with
  | fin0 p =>
    intro i q hm G
    exact ⟨.fin0 q, .inl ⟨rfl, fun _ => .inl rfl⟩, fun _ => ⟨fun _ => .inl rfl, fun he => by cases he⟩⟩
  | fin1 p =>
    intro i q hm G
    have g := G 0 (1, [], p) rfl
    rw [Nat.add_zero] at g
    simp only [woven, wovenT, Nat.sub_self, List.take_zero, List.nil_append, List.drop_zero, Nat.add_zero]
    have hr : Rd true (q + (f i).length) [] [(1, [], q + (f i).length)] := .fin1 _
    exact ⟨ins_any _ g (.inl rfl) hr, ins_near g _ _ (fun _ => .inl ⟨rfl, fun _ => .inl rfl⟩), fun _ => ⟨fun he => (by cases he), fun _ => ⟨[], rfl, ins_no10 g, .inl rfl, hr⟩⟩⟩
  | blank e p b m ts hb r ih =>
    intro i q hm G
    have hge := rd_ge r
    have hm' : m = l.drop (p + 1) := by rw [← List.drop_drop, ← hm]; rfl
    obtain ⟨h1, -, -⟩ := ih i (q + 1) hm' G
    have e1 : woven f (b :: m) p i ts = b :: woven f m (p + 1) i ts := woven_app f [b] m p i ts hge
    have e2 : wovenT f p q i ts = wovenT f (p + 1) (q + 1) i ts := wovenT_app f p q 1 i ts hge
    rw [e1, e2]
    refine ⟨.blank e q b _ _ hb h1, near_cons _ _ _ _ (fun hc => by rw [hc] at hb; revert hb; decide), ?_⟩
    rintro (hc | ⟨m', hc⟩)
    · cases hc
    · exfalso; injection hc with h1 h2; rw [h1] at hb; revert hb; decide
  | feed0 p m ts r ih =>
    intro i q hm G
    have hge := rd_ge r
    have hm' : m = l.drop (p + 1) := by rw [← List.drop_drop, ← hm]; rfl
    obtain ⟨h1, -, -⟩ := ih i (q + 1) hm' G
    have e1 : woven f (10 :: m) p i ts = 10 :: woven f m (p + 1) i ts := woven_app f [10] m p i ts hge
    have e2 : wovenT f p q i ts = wovenT f (p + 1) (q + 1) i ts := wovenT_app f p q 1 i ts hge
    rw [e1, e2]
    exact ⟨.feed0 q _ _ h1, near_cons _ _ _ _ (by decide), fun _ => ⟨fun _ => .inr ⟨_, rfl⟩, fun he => by cases he⟩⟩
  | feed1 p m ts r ih =>
    intro i q hm G
    have hge := rd_ge r
    have hm' : m = l.drop (p + 1) := by rw [← List.drop_drop, ← hm]; rfl
    have g := G 0 (1, [], p) rfl
    rw [Nat.add_zero] at g
    obtain ⟨h1, -, -⟩ := ih (i + 1) (q + (f i).length + 1) hm' (fun j t hj => by have := G (j + 1) t (by simpa using hj); rw [show i + 1 + j = i + (j + 1) by omega]; exact this)
    have e1 : woven f (10 :: m) p (i + 1) ts = 10 :: woven f m (p + 1) (i + 1) ts := woven_app f [10] m p (i + 1) ts hge
    have e2 : wovenT f p (q + (f i).length) (i + 1) ts = wovenT f (p + 1) (q + (f i).length + 1) (i + 1) ts := wovenT_app f p _ 1 (i + 1) ts hge
    simp only [woven, wovenT, Nat.sub_self, List.take_zero, List.nil_append, List.drop_zero, Nat.add_zero]
    rw [e1, e2]
    have hr : Rd true (q + (f i).length) (10 :: woven f m (p + 1) (i + 1) ts) ((1, [], q + (f i).length) :: wovenT f (p + 1) (q + (f i).length + 1) (i + 1) ts) := .feed1 _ _ _ h1
    exact ⟨ins_any _ g (.inr ⟨_, rfl⟩) hr, ins_near g _ _ (fun _ => near_cons _ _ _ _ (by decide)), fun _ => ⟨fun he => (by cases he), fun _ => ⟨_, rfl, ins_no10 g, .inr ⟨_, rfl⟩, hr⟩⟩⟩
  | remark e p r m ts hr hm h ih =>
    intro i q hl G
    have hge := rd_ge h
    have hm' : m = l.drop (p + 2 + r.length) := by
      rw [Nat.add_assoc, ← List.drop_drop, ← hl, show 2 + r.length = r.length + 2 by omega]
      show m = (r ++ m).drop r.length
      rw [List.drop_left]
    obtain ⟨-, -, h3⟩ := ih i (q + 2 + r.length) hm' G
    obtain ⟨h30, h31⟩ := h3 hm
    have hlen : (47 :: 47 :: r).length = 2 + r.length := by simp; omega
    have e1 : woven f (47 :: 47 :: (r ++ m)) p i ts = 47 :: 47 :: (r ++ woven f m (p + 2 + r.length) i ts) := by
      have := woven_app f (47 :: 47 :: r) m p i ts (by rw [hlen, ← Nat.add_assoc]; exact hge)
      rw [hlen, ← Nat.add_assoc] at this
      exact this
    have e2 : wovenT f p q i ts = wovenT f (p + 2 + r.length) (q + 2 + r.length) i ts := by
      have := wovenT_app f p q (2 + r.length) i ts (by rw [← Nat.add_assoc]; exact hge)
      rw [← Nat.add_assoc, ← Nat.add_assoc] at this
      exact this
    rw [e1]
    refine ⟨?_, near_cons _ _ _ _ (by decide), ?_⟩
    · cases e with
      | false =>
        obtain ⟨h1, -, -⟩ := ih i (q + 2 + r.length) hm' G
        rw [e2]
        exact .remark false q r _ _ hr (h30 rfl) h1
      | true =>
        obtain ⟨Z, hZ, hn10, hZ2, hR⟩ := h31 rfl
        rw [hZ, ← List.append_assoc, e2]
        refine .remark true q (r ++ f i) Z _ ?_ hZ2 ?_
        · intro b hb
          rcases List.mem_append.1 hb with hb | hb
          · exact hr b hb
          · exact hn10 b hb
        · rw [List.length_append, ← Nat.add_assoc]; exact hR
    · rintro (hc | ⟨m', hc⟩)
      · cases hc
      · exfalso; injection hc with hc1 hc2; revert hc1; decide
  | tok e p x y kd t ts hx ht h0 h1 hs r ih =>
    intro i q hm G
    have hge := rd_ge r
    have hm' : y = l.drop (p + x.length) := by rw [← List.drop_drop, ← hm, List.drop_left]
    have hxy : ∀ Y : Bytes, (x ++ Y).head? = some (x.getD 0 0) := fun Y => by
      cases x with
      | nil => simp at hx
      | cons a x => rfl
    have g : f i = [] ∨ f i = [32] ∨ f i = [9, 32] := by
      have g := G 0 (kd, t, p) rfl
      rw [Nat.add_zero] at g
      rcases g with g | ⟨g, -⟩
      · exact g
      · exfalso
        have hz := hxy y
        rcases g with g | ⟨z, g⟩
        · have g' : l.drop p = [] := g
          rw [← hm] at g'
          rw [g'] at hz; cases hz
        · have g' : l.drop p = 10 :: z := g
          rw [← hm] at g'
          rw [g'] at hz
          exact h1 (by rw [← Option.some.inj hz]; rfl)
    obtain ⟨hr1, hn1, -⟩ := ih (i + 1) (q + (f i).length + x.length) hm' (fun j t' hj => by have := G (j + 1) t' (by simpa using hj); rw [show i + 1 + j = i + (j + 1) by omega]; exact this)
    have e1 : woven f (x ++ y) p (i + 1) ts = x ++ woven f y (p + x.length) (i + 1) ts := woven_app f x y p (i + 1) ts hge
    have e2 : wovenT f p (q + (f i).length) (i + 1) ts = wovenT f (p + x.length) (q + (f i).length + x.length) (i + 1) ts := wovenT_app f p _ x.length (i + 1) ts hge
    simp only [woven, wovenT, Nat.sub_self, List.take_zero, List.nil_append, List.drop_zero, Nat.add_zero]
    rw [e1, e2]
    generalize woven f y (p + x.length) (i + 1) ts = Y at hr1 hn1
    refine ⟨ins_plain _ g (.tok e _ x Y kd t _ hx (tok_near x y Y kd t hx ht hn1) h0 h1 (slash_near x y Y kd t hx ht hn1 hs) hr1), ?_, ?_⟩
    · rcases g with g | g | g
      · rw [g, List.nil_append]
        refine .inl ⟨by rw [hxy, hxy], fun hc => ?_⟩
        rw [hxy] at hc
        have hd := tok_dot x y kd t ht (Option.some.inj hc)
        have e3 : ∀ z : Bytes, (x ++ z)[1]? = z.head? := fun z => by rw [List.getElem?_append_right (by omega), hd, Nat.sub_self, List.head?_eq_getElem?]
        rw [e3, e3]
        rcases hn1 with ⟨hh, -⟩ | hh | hh | ⟨-, hh⟩
        · exact .inl hh
        · exact .inr (.inl hh)
        · exact .inr (.inr (.inl hh))
        · exact .inr (.inr (.inr hh))
      · rw [g]; exact .inr (.inl rfl)
      · rw [g]; exact .inr (.inr (.inl rfl))
    · rintro (hc | ⟨m', hc⟩)
      · exfalso; have hz := hxy y; rw [hc] at hz; cases hz
      · exfalso
        have hz := hxy y
        rw [hc] at hz
        exact h1 (by rw [← Option.some.inj hz]; rfl)

/-- Blanks and remarks change nothing but places. -/
theorem blanks_spec (f : Nat → Bytes) (l : Bytes) (ts : List Tok) (h : scanSpec l = .ok ts) (G : ∀ j t, ts[j]? = some t → InsOk (l.drop t.2.2) (f j)) (hl : (woven f l 0 0 ts).length ≤ 60000) : scanSpec (woven f l 0 0 ts) = .ok (wovenT f 0 0 0 ts) :=
  rd_scan _ _ hl (weave f l (rd_spec l ts h) 0 0 rfl (fun j t hj => by rw [Nat.zero_add]; exact G j t hj)).1
end Go.Proofs.YtnflgijbngcjbabDoor
