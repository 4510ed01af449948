/-
  What is the same; the method Datum, whose answer lies in memory of its own; what the law's answers says of every kind.
-/
import Derived.Test.YtnhbpcmiolkllaaDoorKb2
import Derived.Test.YtnhbpcmiolkllaaDoorJa2J
import Derived.Test.YtnhbpcmiolkllaaDoorJv2
import Derived.Test.YtnhbpcmiolkllaaDoorJw2
import Derived.Test.YtnhbpcmiolkllaaDoorJx2
namespace Go.Proofs.YtnhbpcmiolkllaaDoor
open Go.RowKit
attribute [local go_sem] refold2 cell3_0 cell3_1 b28_0 b28_01

theorem all2_trans (n : Nat) (hI : ∀ x y z : MD, MD.same n x y = true → MD.same n y z = true → MD.same n x z = true) : ∀ (xs ys zs : List MD), all2 (MD.same n) xs ys = true → all2 (MD.same n) ys zs = true → xs.length = ys.length → all2 (MD.same n) xs zs = true
  | [], _, _, _, _, _ => by simp [all2]
  | _ :: _, [], _, _, _, h => by simp at h
  | _ :: _, _ :: _, [], _, _, _ => by simp [all2]
  | x :: xs, y :: ys, z :: zs, h, h', hl => by
    have h1 : (MD.same n x y && all2 (MD.same n) xs ys) = true := h
    have h2 : (MD.same n y z && all2 (MD.same n) ys zs) = true := h'
    rw [Bool.and_eq_true] at h1 h2
    show (MD.same n x z && all2 (MD.same n) xs zs) = true
    rw [hI x y z h1.1 h2.1, all2_trans n hI xs ys zs h1.2 h2.2 (by simpa using hl)]; rfl
theorem same_trans : ∀ (n : Nat) (x y z : MD), MD.same n x y = true → MD.same n y z = true → MD.same n x z = true
  | 0, _, _, _, _, _ => rfl
  | n + 1, x, y, z, h, h' => by
    obtain ⟨e0, e1, e2, e3, e4, e5, e6, e7, e8, e9, ep, ea⟩ := same_parts h
    obtain ⟨f0, f1, f2, f3, f4, f5, f6, f7, f8, f9, fp, fa⟩ := same_parts h'
    show (sameH x.h z.h x.items.length z.items.length && decide (x.h.path = z.h.path) && all2 (MD.same n) x.items z.items) = true
    rw [decide_eq_true (ep.symm.trans fp.symm), all2_trans n (same_trans n) _ _ _ ea fa e9.symm]
    have : sameH x.h z.h x.items.length z.items.length = true := decide_eq_true ⟨by rw [f0, e0], by rw [f1, e1], by rw [f2, e2], by rw [f3, e3], by rw [f4, e4], by rw [f5, e5], by rw [f6, e6], by rw [f7, e7], by rw [f8, e8], by rw [fp, ep], by rw [f9, e9]⟩
    rw [this]; rfl
theorem foldl_same (n : Nat) (hI : ∀ (h : Int) (x d : MD), MD.same n x d = true → MD.hash n h x = MD.hash n h d) : ∀ (xs ds : List MD) (h : Int), all2 (MD.same n) xs ds = true → xs.length = ds.length → xs.foldl (MD.hash n) h = ds.foldl (MD.hash n) h
  | [], [], _, _, _ => rfl
  | [], _ :: _, _, _, h => by simp at h
  | _ :: _, [], _, _, h => by simp at h
  | x :: xs, d :: ds, h, ha, hl => by
    have h1 : (MD.same n x d && all2 (MD.same n) xs ds) = true := ha
    rw [Bool.and_eq_true] at h1
    show xs.foldl (MD.hash n) (MD.hash n h x) = ds.foldl (MD.hash n) (MD.hash n h d)
    rw [hI h x d h1.1]
    exact foldl_same n hI xs ds _ h1.2 (by simpa using hl)
/-- What is the same has one hash. -/
theorem same_hash : ∀ (n : Nat) (h : Int) (x d : MD), MD.same n x d = true → MD.hash n h x = MD.hash n h d
  | 0, _, _, _, _ => rfl
  | n + 1, h, x, d, hs => by
    obtain ⟨e0, e1, e2, e3, e4, e5, e6, e7, e8, e9, ep, ea⟩ := same_parts hs
    show x.items.foldl (MD.hash n) (stirC h x.h.k x.h.t x.h.n x.h.f x.h.s x.h.r0 x.h.path x.items.length) = d.items.foldl (MD.hash n) (stirC h d.h.k d.h.t d.h.n d.h.f d.h.s d.h.r0 d.h.path d.items.length)
    rw [e0, e1, e2, e3, e4, e5, e9, ep]
    exact foldl_same n (same_hash n) _ _ _ ea e9.symm
set_option maxRecDepth 100000 in
set_option maxHeartbeats 4000000 in
theorem datumG_any (n b : Nat) (d : MD) (w : World) (hr : w.heap[b]? = some (.cells d.cells 28 (0, 0))) (hin : MD.In w.heap.size w n d) (hf : MD.full n d = true) :
    Calls Tryd.prog 97 #[.agg #[.pointer (some ⟨b, 0, none⟩)]] w (CopyG n d w) := by
  have HC : Hid (∀ W, Below w.heap.size w W → Calls Tryd.prog 35 #[d.val] W (CopyG n d W)) := fun W hW => copiedG_any n d W (hin.later (Nat.le_refl _) hW) hf
  clear hin hf
  obtain ⟨⟨k, t, a, f, s, r0, r1, r2, r3, pp, path, pc⟩, ip, ic, items⟩ := d
  have hc : ∀ j, w.cell? ⟨b, j, none⟩ = (#[.int .i64 k, .string t, .int .i64 a, .int .u64 f, .string s, .int .i64 r0, .int .i64 r1, .int .i64 r2, .int .i64 r3, .slice pp path.length pc, .slice ip items.length ic] : Array Value)[j]? := fun j => row_at hr j
  have hb : b < w.heap.size := (Array.getElem?_eq_some_iff.1 hr).1
  clear hr
  simp only [MD.val, D] at HC
  go_enter Tryd.func97, Tryd.ntmps97
  go_wp2_with fail
  refine (HC.out _ (below2 _ _ _)).mono ?_
  rintro r w2 ⟨d', rfl, hd1, hd2, hd3, hd4, hd5⟩
  have hx2 : w2.heap[w.heap.size + 1]? = some (.cells #[.int .i64 0, .string ⟨#[]⟩, .int .i64 0, .int .u64 0, .string ⟨#[]⟩, .int .i64 0, .int .i64 0, .int .i64 0, .int .i64 0, .slice none 0 0, .slice none 0 0] 28 (0, 0)) := (hd4.block _ (by simp)).trans (heap2_1 _ _ _)
  have hq2 : Below w.heap.size w w2 := (below2 _ _ _).trans (hd4.mono (by simp; omega))
  have hA : MD.Above (w.heap.size + 2) n d' := MD.Above.mono (by simp) n _ hd2
  have hz : w.heap.size + 1 < w2.heap.size := (Array.getElem?_eq_some_iff.1 hx2).1
  obtain ⟨⟨l0, l1, l2, l3, l4, l5, l6, l7, l8, lp, lpath, lpc⟩, lip, lic, lit⟩ := d'
  have HG : Hid (Good (w.heap.size + 2) w2.heap.size w2 n ⟨⟨l0, l1, l2, l3, l4, l5, l6, l7, l8, lp, lpath, lpc⟩, lip, lic, lit⟩) := Good.mono (by simp) (Nat.le_refl _) n _ hd5
  have HD : Hid (MD.In w2.heap.size w2 n ⟨⟨l0, l1, l2, l3, l4, l5, l6, l7, l8, lp, lpath, lpc⟩, lip, lic, lit⟩ ∧ MD.Above (w.heap.size + 2) n ⟨⟨l0, l1, l2, l3, l4, l5, l6, l7, l8, lp, lpath, lpc⟩, lip, lic, lit⟩ ∧ MD.same n ⟨⟨k, t, a, f, s, r0, r1, r2, r3, pp, path, pc⟩, ip, ic, items⟩ ⟨⟨l0, l1, l2, l3, l4, l5, l6, l7, l8, lp, lpath, lpc⟩, lip, lic, lit⟩ = true) := ⟨hd1, hA, hd3⟩
  simp only [MD.val, D]
  have hc2 : ∀ j, w2.cell? ⟨w.heap.size + 1, j, none⟩ = (#[.int .i64 0, .string ⟨#[]⟩, .int .i64 0, .int .u64 0, .string ⟨#[]⟩, .int .i64 0, .int .i64 0, .int .i64 0, .int .i64 0, .slice none 0 0, .slice none 0 0] : Array Value)[j]? := fun j => row_at hx2 j
  have hf2 := fun j => fz _ _ _ _ j hx2
  clear hd1 hd2 hd3 hd4 hd5 hA hx2
  go_wp2_with fail
  refine bodyPost_ret (v := .agg #[.int .i64 l0, .string l1, .int .i64 l2, .int .u64 l3, .string l4, .int .i64 l5, .int .i64 l6, .int .i64 l7, .int .i64 l8, .slice lp lpath.length lpc, .slice lip lit.length lic]) (by simp [results, Tryd.results97, go_sem, hc2]) rfl ?_
  refine ⟨⟨⟨l0, l1, l2, l3, l4, l5, l6, l7, l8, lp, lpath, lpc⟩, lip, lic, lit⟩, rfl, ?_, MD.Above.mono (by omega) n _ HD.out.2.1, HD.out.2.2, bset hq2 (by omega) _ _ _ _ _ _ _ _ _ _ _, Good.mono (by omega) (by simp) n _ (Good.same (fun c h1 _ => eleven_only w2 (w.heap.size + 1) c (by omega) _ _ _ _ _ _ _ _ _ _ _) n _ HG.out)⟩
  refine MD.In.mono (by simp) n _ (MD.In.aloft (lo := w.heap.size + 2) (fun c h1 _ => ?_) n _ HD.out.1 HD.out.2.1)
  exact eleven_only w2 (w.heap.size + 1) c (by omega) _ _ _ _ _ _ _ _ _ _ _

theorem full_ty {n : Nat} {d : MD} (h : MD.full (n + 1) d = true) : d.h.t.size ≤ 140737488351232 := by
  have h1 : (headOK d.h d.items.length && (d.h.k != 8 || (decide (d.items.length ≤ 30) && d.items.all (MD.full n)))) = true := h
  rw [Bool.and_eq_true] at h1
  have hty : tyB d.h.k d.h.t = true := by
    have := h1.1
    unfold headOK at this
    rw [Bool.and_eq_true, Bool.and_eq_true] at this
    exact this.1.1
  have := ty_small hty
  omega
theorem serves_123 (n b : Nat) (x d : MD) (w : World) (hN : NamesAt w) (hx : MD.In w.heap.size w n x) (hr : w.heap[b]? = some (.cells d.cells 28 (0, 0))) (hd : MD.In w.heap.size w n d) (hs : MD.same n x d = true) (hR : MD.right n x = true) (hk : x.h.k = 1) :
    Calls Tryd.prog 19 #[.iface 123 (.agg #[.pointer (some ⟨b, 0, none⟩)]), x.val] w fun r w' => r = .returned (.bool true) ∧ Below w.heap.size w w' := by
  cases n with
  | zero => exact hx.elim
  | succ n =>
    have hb : b < w.heap.size := row_ltT hr
    obtain ⟨e0, e1, e2, e3, e4, e5, e6, e7, e8, e9, ep, ea⟩ := same_parts hs
    have hf := right_full hR
    have ht := full_ty hf
    have hfd : MD.full (n + 1) d = true := (same_full (n + 1) x d hs) ▸ hf
    have hc : (MD.eqv (n + 1) x x).2 = ⟨#[]⟩ := by unfold MD.eqv; simp [hk]
    refine answers_V1 123 b x w false false true false (nm x.h.k x.h.t) (fun W => ?a20) (fun W => ?a38) (fun W hW => ?a39) (fun W => ?a40) (fun W hW => ?aTy) (fun W => refName_any x W ht) (fun W => abilities_any 123 _ false false true false W (says123_45 _) (says123_87 _) (says123_94 _) (says123_91 _)) (MD.hash (n + 1) 14695981039346656037 x) (fun W hW => Hash_good (n + 1) x W (hN.kept hW) (hx.later (Nat.le_refl _) hW) hR hc) (fun W hW => ?a99) (says123_87 _) (says123_91 _) (says123_94 _) (fun b W => by kernel_rfl) (fun b W => by kernel_rfl)
    case a20 => have h := ordered_any x W; rw [hk] at h; exact h
    case a38 => have h := sized_any x W; rw [hk] at h; exact h
    case a40 => have h := pointing_any x W; rw [hk] at h; exact h
    case a39 => have h := refKeyed_good (n + 1) x W (hx.later (Nat.le_refl _) hW) hf hc; rw [hk] at h; exact h
    case aTy => have h := type_any b d.h.k d.h.t d.h.n d.h.f d.h.s d.h.r0 d.h.r1 d.h.r2 d.h.r3 (.slice d.h.pp d.h.path.length d.h.pc) (.slice d.ip d.items.length d.ic) W (by rw [e1]; exact ht) ((hW.block b hb).trans hr); rw [e0, e1] at h; exact h
    case a99 => have h := hashM_any (n + 1) b d W ((hW.block b hb).trans hr) (hd.later (Nat.le_refl _) hW) hfd; rw [← same_hash (n + 1) _ x d hs] at h; exact h
theorem serves_124 (n b : Nat) (x d : MD) (w : World) (hN : NamesAt w) (hx : MD.In w.heap.size w n x) (hr : w.heap[b]? = some (.cells d.cells 28 (0, 0))) (hd : MD.In w.heap.size w n d) (hs : MD.same n x d = true) (hR : MD.right n x = true) (hk : x.h.k = 2) :
    Calls Tryd.prog 19 #[.iface 124 (.agg #[.pointer (some ⟨b, 0, none⟩)]), x.val] w fun r w' => r = .returned (.bool true) ∧ Below w.heap.size w w' := by
  cases n with
  | zero => exact hx.elim
  | succ n =>
    have hb : b < w.heap.size := row_ltT hr
    obtain ⟨e0, e1, e2, e3, e4, e5, e6, e7, e8, e9, ep, ea⟩ := same_parts hs
    have hf := right_full hR
    have ht := full_ty hf
    have hfd : MD.full (n + 1) d = true := (same_full (n + 1) x d hs) ▸ hf
    have hc : (MD.eqv (n + 1) x x).2 = ⟨#[]⟩ := by unfold MD.eqv; simp [hk]
    refine answers_V1 124 b x w true false true false (nm x.h.k x.h.t) (fun W => ?a20) (fun W => ?a38) (fun W hW => ?a39) (fun W => ?a40) (fun W hW => ?aTy) (fun W => refName_any x W ht) (fun W => abilities_any 124 _ true false true false W (says124_45 _) (says124_87 _) (says124_94 _) (says124_91 _)) (MD.hash (n + 1) 14695981039346656037 x) (fun W hW => Hash_good (n + 1) x W (hN.kept hW) (hx.later (Nat.le_refl _) hW) hR hc) (fun W hW => ?a99) (says124_87 _) (says124_91 _) (says124_94 _) (fun b W => by kernel_rfl) (fun b W => by kernel_rfl)
    case a20 => have h := ordered_any x W; rw [hk] at h; exact h
    case a38 => have h := sized_any x W; rw [hk] at h; exact h
    case a40 => have h := pointing_any x W; rw [hk] at h; exact h
    case a39 => have h := refKeyed_good (n + 1) x W (hx.later (Nat.le_refl _) hW) hf hc; rw [hk] at h; exact h
    case aTy => have h := type_any b d.h.k d.h.t d.h.n d.h.f d.h.s d.h.r0 d.h.r1 d.h.r2 d.h.r3 (.slice d.h.pp d.h.path.length d.h.pc) (.slice d.ip d.items.length d.ic) W (by rw [e1]; exact ht) ((hW.block b hb).trans hr); rw [e0, e1] at h; exact h
    case a99 => have h := hashM_any (n + 1) b d W ((hW.block b hb).trans hr) (hd.later (Nat.le_refl _) hW) hfd; rw [← same_hash (n + 1) _ x d hs] at h; exact h
theorem serves_125 (n b : Nat) (x d : MD) (w : World) (hN : NamesAt w) (hx : MD.In w.heap.size w n x) (hr : w.heap[b]? = some (.cells d.cells 28 (0, 0))) (hd : MD.In w.heap.size w n d) (hs : MD.same n x d = true) (hR : MD.right n x = true) (hk : x.h.k = 3) :
    Calls Tryd.prog 19 #[.iface 125 (.agg #[.pointer (some ⟨b, 0, none⟩)]), x.val] w fun r w' => r = .returned (.bool true) ∧ Below w.heap.size w w' := by
  cases n with
  | zero => exact hx.elim
  | succ n =>
    have hb : b < w.heap.size := row_ltT hr
    obtain ⟨e0, e1, e2, e3, e4, e5, e6, e7, e8, e9, ep, ea⟩ := same_parts hs
    have hf := right_full hR
    have ht := full_ty hf
    have hfd : MD.full (n + 1) d = true := (same_full (n + 1) x d hs) ▸ hf
    have hc : (MD.eqv (n + 1) x x).2 = ⟨#[]⟩ := by unfold MD.eqv; simp [hk]
    refine answers_V1 125 b x w true false true false (nm x.h.k x.h.t) (fun W => ?a20) (fun W => ?a38) (fun W hW => ?a39) (fun W => ?a40) (fun W hW => ?aTy) (fun W => refName_any x W ht) (fun W => abilities_any 125 _ true false true false W (says125_45 _) (says125_87 _) (says125_94 _) (says125_91 _)) (MD.hash (n + 1) 14695981039346656037 x) (fun W hW => Hash_good (n + 1) x W (hN.kept hW) (hx.later (Nat.le_refl _) hW) hR hc) (fun W hW => ?a99) (says125_87 _) (says125_91 _) (says125_94 _) (fun b W => by kernel_rfl) (fun b W => by kernel_rfl)
    case a20 => have h := ordered_any x W; rw [hk] at h; exact h
    case a38 => have h := sized_any x W; rw [hk] at h; exact h
    case a40 => have h := pointing_any x W; rw [hk] at h; exact h
    case a39 => have h := refKeyed_good (n + 1) x W (hx.later (Nat.le_refl _) hW) hf hc; rw [hk] at h; exact h
    case aTy => have h := type_any b d.h.k d.h.t d.h.n d.h.f d.h.s d.h.r0 d.h.r1 d.h.r2 d.h.r3 (.slice d.h.pp d.h.path.length d.h.pc) (.slice d.ip d.items.length d.ic) W (by rw [e1]; exact ht) ((hW.block b hb).trans hr); rw [e0, e1] at h; exact h
    case a99 => have h := hashM_any (n + 1) b d W ((hW.block b hb).trans hr) (hd.later (Nat.le_refl _) hW) hfd; rw [← same_hash (n + 1) _ x d hs] at h; exact h
theorem serves_126 (n b : Nat) (x d : MD) (w : World) (hN : NamesAt w) (hx : MD.In w.heap.size w n x) (hr : w.heap[b]? = some (.cells d.cells 28 (0, 0))) (hd : MD.In w.heap.size w n d) (hs : MD.same n x d = true) (hR : MD.right n x = true) (hk : x.h.k = 4) :
    Calls Tryd.prog 19 #[.iface 126 (.agg #[.pointer (some ⟨b, 0, none⟩)]), x.val] w fun r w' => r = .returned (.bool true) ∧ Below w.heap.size w w' := by
  cases n with
  | zero => exact hx.elim
  | succ n =>
    have hb : b < w.heap.size := row_ltT hr
    obtain ⟨e0, e1, e2, e3, e4, e5, e6, e7, e8, e9, ep, ea⟩ := same_parts hs
    have hf := right_full hR
    have ht := full_ty hf
    have hfd : MD.full (n + 1) d = true := (same_full (n + 1) x d hs) ▸ hf
    have hc : (MD.eqv (n + 1) x x).2 = ⟨#[]⟩ := by unfold MD.eqv; simp [hk]
    refine answers_V2 126 b x w true true true false (nm x.h.k x.h.t) (fun W => ?a20) (fun W => ?a38) (fun W hW => ?a39) (fun W => ?a40) (fun W hW => ?aTy) (fun W => refName_any x W ht) (fun W => abilities_any 126 _ true true true false W (says126_45 _) (says126_87 _) (says126_94 _) (says126_91 _)) ((x.h.s.size : Int)) (fun W hW => ?aL) (fun W => ?a43) (MD.hash (n + 1) 14695981039346656037 x) (fun W hW => Hash_good (n + 1) x W (hN.kept hW) (hx.later (Nat.le_refl _) hW) hR hc) (fun W hW => ?a99) (says126_87 _) (says126_91 _) (says126_94 _) (fun b W => by kernel_rfl) (fun b W => by kernel_rfl) (fun b W => by kernel_rfl)
    case a20 => have h := ordered_any x W; rw [hk] at h; exact h
    case a38 => have h := sized_any x W; rw [hk] at h; exact h
    case a40 => have h := pointing_any x W; rw [hk] at h; exact h
    case a39 => have h := refKeyed_good (n + 1) x W (hx.later (Nat.le_refl _) hW) hf hc; rw [hk] at h; exact h
    case aTy => have h := type_any b d.h.k d.h.t d.h.n d.h.f d.h.s d.h.r0 d.h.r1 d.h.r2 d.h.r3 (.slice d.h.pp d.h.path.length d.h.pc) (.slice d.ip d.items.length d.ic) W (by rw [e1]; exact ht) ((hW.block b hb).trans hr); rw [e0, e1] at h; exact h
    case aL => have h := textLen_any b d W ((hW.block b hb).trans hr); rw [e4] at h; exact h
    case a43 => have h := refLen_any x W; rw [if_pos hk] at h; exact h
    case a99 => have h := hashM_any (n + 1) b d W ((hW.block b hb).trans hr) (hd.later (Nat.le_refl _) hW) hfd; rw [← same_hash (n + 1) _ x d hs] at h; exact h
theorem serves_129 (n b : Nat) (x d : MD) (w : World) (_hN : NamesAt w) (hx : MD.In w.heap.size w n x) (hr : w.heap[b]? = some (.cells d.cells 28 (0, 0))) (hd : MD.In w.heap.size w n d) (hs : MD.same n x d = true) (hR : MD.right n x = true) (hk : x.h.k = 5) :
    Calls Tryd.prog 19 #[.iface 129 (.agg #[.pointer (some ⟨b, 0, none⟩)]), x.val] w fun r w' => r = .returned (.bool true) ∧ Below w.heap.size w w' := by
  cases n with
  | zero => exact hx.elim
  | succ n =>
    have hb : b < w.heap.size := row_ltT hr
    obtain ⟨e0, e1, e2, e3, e4, e5, e6, e7, e8, e9, ep, ea⟩ := same_parts hs
    have hf := right_full hR
    have ht := full_ty hf
    refine answers_V3 129 b x w false true false true (nm x.h.k x.h.t) (fun W => ?a20) (fun W => ?a38) (fun W hW => ?a39) (fun W => ?a40) (fun W hW => ?aTy) (fun W => refName_any x W ht) (fun W => abilities_any 129 _ false true false true W (says129_45 _) (says129_87 _) (says129_94 _) (says129_91 _)) (x.h.r2) (fun W hW => ?aL) (fun W => ?a43) (fun W hW => ?aN) (says129_87 _) (says129_91 _) (says129_94 _) (fun b W => by kernel_rfl) (fun b W => by kernel_rfl) (fun b W => by kernel_rfl)
    case a20 => have h := ordered_any x W; rw [hk] at h; exact h
    case a38 => have h := sized_any x W; rw [hk] at h; exact h
    case a40 => have h := pointing_any x W; rw [hk] at h; exact h
    case a39 =>
      by_cases hc : (MD.eqv (n + 1) x x).2.size = 0
      · have h := refKeyed_good (n + 1) x W (hx.later (Nat.le_refl _) hW) hf (bytes_none hc); rw [hk] at h; exact h
      · exact refKeyed_fault (n + 1) x W (hx.later (Nat.le_refl _) hW) hf hc
    case aTy => have h := type_any b d.h.k d.h.t d.h.n d.h.f d.h.s d.h.r0 d.h.r1 d.h.r2 d.h.r3 (.slice d.h.pp d.h.path.length d.h.pc) (.slice d.ip d.items.length d.ic) W (by rw [e1]; exact ht) ((hW.block b hb).trans hr); rw [e0, e1] at h; exact h
    case aL => have h := listLen_any b d W ((hW.block b hb).trans hr); rw [e7] at h; exact h
    case a43 => have h := refLen_any x W; rw [if_neg (by rw [hk]; decide)] at h; exact h
    case aN => have h := none_leading b d.h.k d.h.t d.h.n d.h.f d.h.s d.h.r0 d.h.r1 d.h.r2 d.h.r3 (.slice d.h.pp d.h.path.length d.h.pc) (.slice d.ip d.items.length d.ic) W ((hW.block b hb).trans hr); rw [e5] at h; exact h
theorem serves_130 (n b : Nat) (x d : MD) (w : World) (_hN : NamesAt w) (hx : MD.In w.heap.size w n x) (hr : w.heap[b]? = some (.cells d.cells 28 (0, 0))) (hd : MD.In w.heap.size w n d) (hs : MD.same n x d = true) (hR : MD.right n x = true) (hk : x.h.k = 6) :
    Calls Tryd.prog 19 #[.iface 130 (.agg #[.pointer (some ⟨b, 0, none⟩)]), x.val] w fun r w' => r = .returned (.bool true) ∧ Below w.heap.size w w' := by
  cases n with
  | zero => exact hx.elim
  | succ n =>
    have hb : b < w.heap.size := row_ltT hr
    obtain ⟨e0, e1, e2, e3, e4, e5, e6, e7, e8, e9, ep, ea⟩ := same_parts hs
    have hf := right_full hR
    have ht := full_ty hf
    refine answers_V4 130 b x w false false false true (nm x.h.k x.h.t) (fun W => ?a20) (fun W => ?a38) (fun W hW => ?a39) (fun W => ?a40) (fun W hW => ?aTy) (fun W => refName_any x W ht) (fun W => abilities_any 130 _ false false false true W (says130_45 _) (says130_87 _) (says130_94 _) (says130_91 _)) (fun W hW => ?aN) (says130_87 _) (says130_91 _) (says130_94 _) (fun b W => by kernel_rfl) (fun b W => by kernel_rfl)
    case a20 => have h := ordered_any x W; rw [hk] at h; exact h
    case a38 => have h := sized_any x W; rw [hk] at h; exact h
    case a40 => have h := pointing_any x W; rw [hk] at h; exact h
    case a39 =>
      by_cases hc : (MD.eqv (n + 1) x x).2.size = 0
      · have h := refKeyed_good (n + 1) x W (hx.later (Nat.le_refl _) hW) hf (bytes_none hc); rw [hk] at h; exact h
      · exact refKeyed_fault (n + 1) x W (hx.later (Nat.le_refl _) hW) hf hc
    case aTy => have h := type_any b d.h.k d.h.t d.h.n d.h.f d.h.s d.h.r0 d.h.r1 d.h.r2 d.h.r3 (.slice d.h.pp d.h.path.length d.h.pc) (.slice d.ip d.items.length d.ic) W (by rw [e1]; exact ht) ((hW.block b hb).trans hr); rw [e0, e1] at h; exact h
    case aN => have h := none_leading b d.h.k d.h.t d.h.n d.h.f d.h.s d.h.r0 d.h.r1 d.h.r2 d.h.r3 (.slice d.h.pp d.h.path.length d.h.pc) (.slice d.ip d.items.length d.ic) W ((hW.block b hb).trans hr); rw [e5] at h; exact h
theorem serves_131 (n b : Nat) (x d : MD) (w : World) (_hN : NamesAt w) (hx : MD.In w.heap.size w n x) (hr : w.heap[b]? = some (.cells d.cells 28 (0, 0))) (hd : MD.In w.heap.size w n d) (hs : MD.same n x d = true) (hR : MD.right n x = true) (hk : x.h.k = 7) :
    Calls Tryd.prog 19 #[.iface 131 (.agg #[.pointer (some ⟨b, 0, none⟩)]), x.val] w fun r w' => r = .returned (.bool true) ∧ Below w.heap.size w w' := by
  cases n with
  | zero => exact hx.elim
  | succ n =>
    have hb : b < w.heap.size := row_ltT hr
    obtain ⟨e0, e1, e2, e3, e4, e5, e6, e7, e8, e9, ep, ea⟩ := same_parts hs
    have hf := right_full hR
    have ht := full_ty hf
    refine answers_V4 131 b x w false false false true (nm x.h.k x.h.t) (fun W => ?a20) (fun W => ?a38) (fun W hW => ?a39) (fun W => ?a40) (fun W hW => ?aTy) (fun W => refName_any x W ht) (fun W => abilities_any 131 _ false false false true W (says131_45 _) (says131_87 _) (says131_94 _) (says131_91 _)) (fun W hW => ?aN) (says131_87 _) (says131_91 _) (says131_94 _) (fun b W => by kernel_rfl) (fun b W => by kernel_rfl)
    case a20 => have h := ordered_any x W; rw [hk] at h; exact h
    case a38 => have h := sized_any x W; rw [hk] at h; exact h
    case a40 => have h := pointing_any x W; rw [hk] at h; exact h
    case a39 =>
      by_cases hc : (MD.eqv (n + 1) x x).2.size = 0
      · have h := refKeyed_good (n + 1) x W (hx.later (Nat.le_refl _) hW) hf (bytes_none hc); rw [hk] at h; exact h
      · exact refKeyed_fault (n + 1) x W (hx.later (Nat.le_refl _) hW) hf hc
    case aTy => have h := type_any b d.h.k d.h.t d.h.n d.h.f d.h.s d.h.r0 d.h.r1 d.h.r2 d.h.r3 (.slice d.h.pp d.h.path.length d.h.pc) (.slice d.ip d.items.length d.ic) W (by rw [e1]; exact ht) ((hW.block b hb).trans hr); rw [e0, e1] at h; exact h
    case aN => have h := none_leading b d.h.k d.h.t d.h.n d.h.f d.h.s d.h.r0 d.h.r1 d.h.r2 d.h.r3 (.slice d.h.pp d.h.path.length d.h.pc) (.slice d.ip d.items.length d.ic) W ((hW.block b hb).trans hr); rw [e5] at h; exact h
theorem serves_132 (n b : Nat) (x d : MD) (w : World) (hN : NamesAt w) (hx : MD.In w.heap.size w n x) (hr : w.heap[b]? = some (.cells d.cells 28 (0, 0))) (hd : MD.In w.heap.size w n d) (hs : MD.same n x d = true) (hR : MD.right n x = true) (hk : x.h.k = 9) :
    Calls Tryd.prog 19 #[.iface 132 (.agg #[.pointer (some ⟨b, 0, none⟩)]), x.val] w fun r w' => r = .returned (.bool true) ∧ Below w.heap.size w w' := by
  cases n with
  | zero => exact hx.elim
  | succ n =>
    have hb : b < w.heap.size := row_ltT hr
    obtain ⟨e0, e1, e2, e3, e4, e5, e6, e7, e8, e9, ep, ea⟩ := same_parts hs
    have hf := right_full hR
    have ht := full_ty hf
    have hfd : MD.full (n + 1) d = true := (same_full (n + 1) x d hs) ▸ hf
    have hc : (MD.eqv (n + 1) x x).2 = ⟨#[]⟩ := by unfold MD.eqv; simp [hk]
    refine answers_V5 132 b x w false false true true (nm x.h.k x.h.t) (fun W => ?a20) (fun W => ?a38) (fun W hW => ?a39) (fun W => ?a40) (fun W hW => ?aTy) (fun W => refName_any x W ht) (fun W => abilities_any 132 _ false false true true W (says132_45 _) (says132_87 _) (says132_94 _) (says132_91 _)) (fun W hW => ?aN) (MD.hash (n + 1) 14695981039346656037 x) (fun W hW => Hash_good (n + 1) x W (hN.kept hW) (hx.later (Nat.le_refl _) hW) hR hc) (fun W hW => ?a99) (says132_87 _) (says132_91 _) (says132_94 _) (fun b W => by kernel_rfl) (fun b W => by kernel_rfl) (fun b W => by kernel_rfl)
    case a20 => have h := ordered_any x W; rw [hk] at h; exact h
    case a38 => have h := sized_any x W; rw [hk] at h; exact h
    case a40 => have h := pointing_any x W; rw [hk] at h; exact h
    case a39 => have h := refKeyed_good (n + 1) x W (hx.later (Nat.le_refl _) hW) hf hc; rw [hk] at h; exact h
    case aTy => have h := type_any b d.h.k d.h.t d.h.n d.h.f d.h.s d.h.r0 d.h.r1 d.h.r2 d.h.r3 (.slice d.h.pp d.h.path.length d.h.pc) (.slice d.ip d.items.length d.ic) W (by rw [e1]; exact ht) ((hW.block b hb).trans hr); rw [e0, e1] at h; exact h
    case aN => have h := none_pointer b d.h.k d.h.t d.h.n d.h.f d.h.s d.h.r0 d.h.r1 d.h.r2 d.h.r3 (.slice d.h.pp d.h.path.length d.h.pc) (.slice d.ip d.items.length d.ic) W ((hW.block b hb).trans hr); rw [e5] at h; exact h
    case a99 => have h := hashM_any (n + 1) b d W ((hW.block b hb).trans hr) (hd.later (Nat.le_refl _) hW) hfd; rw [← same_hash (n + 1) _ x d hs] at h; exact h
theorem serves_73 (n b : Nat) (x d : MD) (w : World) (_hN : NamesAt w) (hx : MD.In w.heap.size w n x) (hr : w.heap[b]? = some (.cells d.cells 28 (0, 0))) (hd : MD.In w.heap.size w n d) (hs : MD.same n x d = true) (hR : MD.right n x = true) (hk : x.h.k = 8) (hc : (MD.eqv n x x).2.size ≠ 0) :
    Calls Tryd.prog 19 #[.iface 73 (.agg #[.pointer (some ⟨b, 0, none⟩)]), x.val] w fun r w' => r = .returned (.bool true) ∧ Below w.heap.size w w' := by
  cases n with
  | zero => exact hx.elim
  | succ n =>
    have hb : b < w.heap.size := row_ltT hr
    obtain ⟨e0, e1, e2, e3, e4, e5, e6, e7, e8, e9, ep, ea⟩ := same_parts hs
    have hf := right_full hR
    have ht := full_ty hf
    refine answers_V6 73 b x w false false false false (nm x.h.k x.h.t) (fun W => ?a20) (fun W => ?a38) (fun W hW => ?a39) (fun W => ?a40) (fun W hW => ?aTy) (fun W => refName_any x W ht) (fun W => abilities_any 73 _ false false false false W (says73_45 _) (says73_87 _) (says73_94 _) (says73_91 _)) (says73_87 _) (says73_91 _) (says73_94 _) (fun b W => by kernel_rfl)
    case a20 => have h := ordered_any x W; rw [hk] at h; exact h
    case a38 => have h := sized_any x W; rw [hk] at h; exact h
    case a40 => have h := pointing_any x W; rw [hk] at h; exact h
    case a39 => exact refKeyed_fault (n + 1) x W (hx.later (Nat.le_refl _) hW) hf hc
    case aTy => have h := type_any b d.h.k d.h.t d.h.n d.h.f d.h.s d.h.r0 d.h.r1 d.h.r2 d.h.r3 (.slice d.h.pp d.h.path.length d.h.pc) (.slice d.ip d.items.length d.ic) W (by rw [e1]; exact ht) ((hW.block b hb).trans hr); rw [e0, e1] at h; exact h
theorem serves_78 (n b : Nat) (x d : MD) (w : World) (hN : NamesAt w) (hx : MD.In w.heap.size w n x) (hr : w.heap[b]? = some (.cells d.cells 28 (0, 0))) (hd : MD.In w.heap.size w n d) (hs : MD.same n x d = true) (hR : MD.right n x = true) (hk : x.h.k = 8) (hc : (MD.eqv n x x).2 = ⟨#[]⟩) :
    Calls Tryd.prog 19 #[.iface 78 (.agg #[.pointer (some ⟨b, 0, none⟩)]), x.val] w fun r w' => r = .returned (.bool true) ∧ Below w.heap.size w w' := by
  cases n with
  | zero => exact hx.elim
  | succ n =>
    have hb : b < w.heap.size := row_ltT hr
    obtain ⟨e0, e1, e2, e3, e4, e5, e6, e7, e8, e9, ep, ea⟩ := same_parts hs
    have hf := right_full hR
    have ht := full_ty hf
    have hfd : MD.full (n + 1) d = true := (same_full (n + 1) x d hs) ▸ hf
    refine answers_V1 78 b x w false false true false (nm x.h.k x.h.t) (fun W => ?a20) (fun W => ?a38) (fun W hW => ?a39) (fun W => ?a40) (fun W hW => ?aTy) (fun W => refName_any x W ht) (fun W => abilities_any 78 _ false false true false W (says78_45 _) (says78_87 _) (says78_94 _) (says78_91 _)) (MD.hash (n + 1) 14695981039346656037 x) (fun W hW => Hash_good (n + 1) x W (hN.kept hW) (hx.later (Nat.le_refl _) hW) hR hc) (fun W hW => ?a99) (says78_87 _) (says78_91 _) (says78_94 _) (fun b W => by kernel_rfl) (fun b W => by kernel_rfl)
    case a20 => have h := ordered_any x W; rw [hk] at h; exact h
    case a38 => have h := sized_any x W; rw [hk] at h; exact h
    case a40 => have h := pointing_any x W; rw [hk] at h; exact h
    case a39 => have h := refKeyed_good (n + 1) x W (hx.later (Nat.le_refl _) hW) hf hc; rw [hk] at h; exact h
    case aTy => have h := type_any b d.h.k d.h.t d.h.n d.h.f d.h.s d.h.r0 d.h.r1 d.h.r2 d.h.r3 (.slice d.h.pp d.h.path.length d.h.pc) (.slice d.ip d.items.length d.ic) W (by rw [e1]; exact ht) ((hW.block b hb).trans hr); rw [e0, e1] at h; exact h
    case a99 => have h := hashM_any (n + 1) b d W ((hW.block b hb).trans hr) (hd.later (Nat.le_refl _) hW) hfd; rw [← same_hash (n + 1) _ x d hs] at h; exact h
end Go.Proofs.YtnhbpcmiolkllaaDoor
