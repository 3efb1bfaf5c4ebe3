/- InLk, InN, InG, ExVg, InIv, InH, InBo, InTo, InArg, InOp: in one text. -/
import Derived.Test.YtiplhhaehbjghaaGreatIX
import Derived.Test.YtiplhhaehbjghaaGreatInSx
import Derived.Test.YtiplhhaehbjghaaGreatEF
import Derived.Test.YtiplhhaehbjghaaGreatS2
import Derived.Test.YtiplhhaehbjghaaGreatVR
import Derived.BigQuiet
import Derived.Deep.QuietTactic
import Derived.Test.YtiplhhaehbjghaaGreatS1
import Derived.Lib.SmallJoins
import Derived.Deep.Slices
namespace Go.Proofs.YtiplhhaehbjghaaGreat
open Go.RowKit
set_option linter.unusedVariables false
set_option linter.unusedSimpArgs false
set_option maxRecDepth 4000

open Go.RowKit Go.Maps
set_option maxRecDepth 100000

set_option maxHeartbeats 8000000 in
theorem link_x {B : Nat} {w : World} {x : Nat} {X : List Nat} {s : Sg} (h : XsIn B w x X s) (ino : Int) (h0 : 0 ≤ ino) (h1 : ino ≤ 4294967295) (y : Int) (hy0 : -9223372036854775808 ≤ y) (hy1 : y ≤ 9223372036854775807) {N : Nat} (hk : Sk s N) (hN : N ≤ 3900) (hdir : (fdR s ino).1.k ≠ 1 → (fdR s ino).1.s = 0) : Calls Tryz.prog 47 #[.pointer (some ⟨x, 0, none⟩), .int .u32 ino, .int .i64 y] w fun e w' =>
  e = .returned (.tuple #[.int .i64 (lkR s ino y).2.1, .int .i64 (lkR s ino y).2.2]) ∧ XsOut B w x X (lkR s ino y).1 w' := by
 have cf := inode_x h hk.ck ino h0 h1
 have hbd := fd_bd (xs_ok h) hk.ck ino
 have HZ : Hid ((fdR s ino).2 = 0 → ino ≠ 0) := fd_zero
 have HDI : Hid ((fdR { s with R := addK s.R ino [2] } ino).1.k ≠ 1 → (fdR { s with R := addK s.R ino [2] } ino).1.s = 0) := hdir
 have HF : Hid (lkR s ino y = if (fdR s ino).2 ≠ 0 then (s, 0, (fdR s ino).2) else if (fdR s ino).1.k = 2 then (s, 0, 193) else lkB { s with R := addK s.R ino [2] } ino (fdR s ino).1.l y) := rfl
 generalize lkR s ino y = R at *
 generalize fdR s ino = F at *
 obtain ⟨⟨fk, fm, fl, fz⟩, fe⟩ := F
 unfold inV at cf
 dsimp only at cf HF hbd ⊢
 have HH : Hid (XsIn B w x X s) := h
 have HBD : Hid (Bd ⟨fk, fm, fl, fz⟩) := hbd
 have HX : Hid (∀ k ∈ X, k < w.heap.size) := fun k hk => (h.lt k hk).1
 have HK : Hid (Sk s N) := hk
 have HN : Hid (N ≤ 3900) := hN
 clear h hbd hk hN hdir
 go_enter Tryz.func47, Tryz.ntmps47
 go_wp2_with fail
 refine cf.mono ?_
 rintro e w1 ⟨rfl, hb1⟩
 clear cf
 have hb2 := bel1 w1 (.cells #[.int .i64 fk, .int .i64 fm, .int .i64 fl, .int .i64 fz] 91)
 have hi2 : InRow (w1.alloc (.cells #[.int .i64 fk, .int .i64 fm, .int .i64 fl, .int .i64 fz] 91)) w1.heap.size fk fm fl fz := ⟨heap_alloc_new w1 _⟩
 obtain ⟨w2, hw2⟩ : ∃ w2, w1.alloc (.cells #[.int .i64 fk, .int .i64 fm, .int .i64 fl, .int .i64 fz] 91) = w2 := ⟨_, rfl⟩
 rw [hw2] at hb2 hi2
 have hB2 := thenB hb1 hb2
 have HB2 : Hid (Below w.heap.size w w2) := hB2
 have HLE : Hid (w.heap.size ≤ w1.heap.size) := hb1.size
 by_cases he : fe = 0
 case neg =>
  have heb : (fe != 0) = true := by simpa using he
  have HE : Hid (R = (s, 0, fe)) := by unfold Hid; rw [HF.out, if_pos he]
  clear HF hi2
  go_wp2
  go_ret2
  exact ⟨by rw [HE.out]; first | done | rfl, by rw [HE.out]; exact HH.out.out HB2.out⟩
 subst he
 have i0 := hi2.cell 0 _ rfl
 have HI2 : Hid (InRow w2 w1.heap.size fk fm fl fz) := hi2
 have HNE : Hid (ino ≠ 0) := HZ.out rfl
 clear hi2 hb1 hb2 hB2
 by_cases hk2 : fk = 2
 case pos =>
  subst hk2
  have HE : Hid (R = (s, 0, 193)) := by unfold Hid; rw [HF.out, if_neg (by simp), if_pos rfl]
  clear HF
  go_wp2
  go_ret2
  exact ⟨by rw [HE.out]; first | done | rfl, by rw [HE.out]; exact HH.out.out HB2.out⟩
 have hk2b : (fk == 2) = false := by simpa using hk2
 have HE : Hid (R = lkB { s with R := addK s.R ino [2] } ino fl y) := by unfold Hid; rw [HF.out, if_neg (by simp), if_neg hk2]
 have HK1 : Hid (Sk { s with R := addK s.R ino [2] } (N + 1)) := HK.out.read ino [2]
 have ct := readK (HH.out.below HB2.out) HNE.out (k := 2) (.inr (.inl rfl)) (by have := HK.out.R; have := HN.out; unfold Hid at this; omega)
 clear HF hk2
 go_wp2_with fail
 refine ct.mono ?_
 rintro e w4 ⟨rfl, ho4⟩
 clear ct i0
 have hi4 : InRow w4 w1.heap.size fk fm fl fz := HI2.out.sole ho4.sole (fun e => by have := HX.out _ e; have := HLE.out; omega)
 have i2 := hi4.cell 2 _ rfl
 obtain ⟨S1, hS1⟩ : ∃ S1 : Sg, ({ s with R := addK s.R ino [2] } : Sg) = S1 := ⟨_, rfl⟩
 have HO4 : Hid (XsOut B w x X S1 w4) := by unfold Hid; rw [← hS1]; exact XsOut.pre HB2.out ho4
 rw [hS1] at HE HK1 HDI
 have hl0 := HBD.out.l0
 have hl1 := HBD.out.l1
 dsimp only at hl0 hl1
 have hneg : ¬ (-fl < -9223372036854775808) := by omega
 clear hS1 ho4 hi4 HB2 HI2 HK
 by_cases hlo : y < -fl
 case pos =>
  have HE1 : Hid (R = (S1, 0, 170)) := by unfold Hid; rw [HE.out]; unfold lkB; rw [if_pos (.inl hlo)]
  clear HE
  go_wp2
  go_ret2
  exact ⟨by rw [HE1.out]; first | done | rfl, by rw [HE1.out]; exact HO4.out⟩
 by_cases hhi : 15 - fl < y
 case pos =>
  have HE1 : Hid (R = (S1, 0, 170)) := by unfold Hid; rw [HE.out]; unfold lkB; rw [if_pos (.inr hhi)]
  clear HE
  go_wp2
  go_ret2
  exact ⟨by rw [HE1.out]; first | done | rfl, by rw [HE1.out]; exact HO4.out⟩
 obtain ⟨L, hL⟩ : ∃ L, fl + y = L := ⟨_, rfl⟩
 have hLb : 0 ≤ L ∧ L ≤ 15 := by omega
 obtain ⟨X4, hx1, hx2, hx3⟩ := HO4.out
 have HX2 : Hid (Sole X w w4) := hx2
 have HX3 : Hid (∀ k ∈ X4, k ∈ X ∨ w.heap.size ≤ k) := hx3
 have HX1 : Hid (XsIn B w4 x X4 S1) := hx1
 have HX4 : Hid (∀ k ∈ X4, k < w4.heap.size) := fun k hk => (hx1.lt k hk).1
 clear hx1 hx2 hx3
 by_cases hz : L = 0
 case pos =>
  have hyl : y = -fl := by omega
  have HE1 : Hid (R = lkE (rmR S1 ino) 0) := by unfold Hid; rw [HE.out]; unfold lkB; rw [if_neg (by omega), if_pos (by omega)]
  have cr := rm_x HX1.out ino h0 h1 HK1.out (by have := HN.out; unfold Hid at this; omega) HDI.out
  clear HE hlo hhi HDI
  have hsum : fl + y = 0 := by omega
  clear hL hyl
  go_wp2_with fail
  refine cr.mono ?_
  rintro e w5 ⟨rfl, ho5⟩
  have HO5 : Hid (XsOut B w x X (rmR S1 ino).1 w5) := XsOut.then HX2.out HX3.out ho5
  clear cr ho5
  generalize rmR S1 ino = G at *
  obtain ⟨gs, ge⟩ := G
  dsimp only at HO5 ⊢
  have HE2 : Hid (R = (gs, 0, ge)) := by
   unfold Hid
   rw [HE1.out]
   unfold lkE
   by_cases hge : ge = 0
   ·subst hge; rfl
   ·rw [if_pos hge]
  clear HE1
  go_wp2
  go_ret2
  exact ⟨by rw [HE2.out]; first | done | rfl, by rw [HE2.out]; exact HO5.out⟩
 by_cases hyz : y = 0
 case pos =>
  subst hyz
  have HE1 : Hid (R = (S1, L, 0)) := by unfold Hid; rw [HE.out]; unfold lkB; rw [if_neg (by omega), if_neg (by omega), if_pos rfl, hL]
  clear HE
  have hfl : fl = L := by omega
  clear hL
  subst hfl
  go_wp2
  go_ret2
  exact ⟨by rw [HE1.out]; first | done | rfl, by rw [HE1.out]; exact HO4.out⟩
 have HE1 : Hid (R = lkE (setR S1 ino [(2, L)]) L) := by unfold Hid; rw [HE.out]; unfold lkB; rw [if_neg (by omega), if_neg (by omega), if_neg hyz, hL]
 have hb5 := bel1 w4 (.cells #[.int .i64 2, .int .i64 L] 98)
 have hr5 : RdZ 2 fiE (w4.alloc (.cells #[.int .i64 2, .int .i64 L] 98)) (.slice (some ⟨w4.heap.size, 0, none⟩) 1 1) [(2, L)] := rdZ_own fi_len (base := w4.heap.size) (e := 98) ⟨rfl, .inr ⟨w4.heap.size, 1, #[.int .i64 2, .int .i64 L], rfl, Nat.le_refl _, heap_alloc_new _ _, Nat.le_refl _, by decide, rfl, rfl⟩⟩
 obtain ⟨w5, hw5⟩ : ∃ w5, w4.alloc (.cells #[.int .i64 2, .int .i64 L] 98) = w5 := ⟨_, rfl⟩
 rw [hw5] at hb5 hr5
 have cs := set_x (HX1.out.below hb5) ino h0 h1 _ _ _ [(2, L)] hr5 (fun b off e _ hm => by simp only [Option.some.injEq, Addr.mk.injEq] at e; have := HX4.out b hm; omega) (by decide) (by intro f hf; simp at hf; subst hf; dsimp only; omega) HK1.out (by have := HN.out; unfold Hid at this; omega)
 have HB5 : Hid (Below w4.heap.size w4 w5) := hb5
 have hyb : (y != 0) = true := by simpa using hyz
 have hyb2 : (y == 0) = false := by simpa using hyz
 have hzb : (L == 0) = false := by simpa using hz
 clear HE hb5 hr5 HDI
 go_wp2_with fail
 refine cs.mono ?_
 rintro e w6 ⟨rfl, ho6⟩
 have HO6 : Hid (XsOut B w x X (setR S1 ino [(2, L)]).1 w6) := XsOut.then HX2.out HX3.out (XsOut.pre HB5.out ho6)
 clear cs ho6
 generalize setR S1 ino [(2, L)] = G at *
 obtain ⟨gs, ge⟩ := G
 dsimp only at HO6 ⊢
 by_cases hge : ge = 0
 ·subst hge
  have HE2 : Hid (R = (gs, L, 0)) := by unfold Hid; rw [HE1.out]; rfl
  clear HE1
  go_wp2
  go_ret2
  exact ⟨by rw [HE2.out]; first | done | rfl, by rw [HE2.out]; exact HO6.out⟩
 ·have hgb : (ge != 0) = true := by simpa using hge
  have HE2 : Hid (R = (gs, 0, ge)) := by unfold Hid; rw [HE1.out]; unfold lkE; rw [if_pos hge]
  clear HE1
  go_wp2
  go_ret2
  exact ⟨by rw [HE2.out]; first | done | rfl, by rw [HE2.out]; exact HO6.out⟩

set_option maxRecDepth 100000

/-- One inode with the fields of a sum out of another one. -/
def mixI (i j : In4) (sum : Int) : In4 := ⟨i.k, if bF sum 1 then j.m else i.m, if bF sum 2 then j.l else i.l, if bF sum 4 then j.s else i.s⟩
def Sums (x : Int) : Prop := x = 0 ∨ x = 1 ∨ x = 2 ∨ x = 3 ∨ x = 4 ∨ x = 5 ∨ x = 6 ∨ x = 7
theorem mix0 (i j : In4) : mixI i j 0 = i := by unfold mixI; rw [if_neg (by decide), if_neg (by decide), if_neg (by decide)]
/-- What one field does to both. -/
theorem wf1_mix {i n j : In4} {sum : Int} {f : Int × Int} {n' : In4} {s' : Int} (hs : Sums sum) (hn : n = mixI i j sum) (h : wf1 (some (n, sum)) f = some (n', s')) : ∃ j', wf1 (some (j, sum)) f = some (j', s') ∧ n' = mixI i j' s' ∧ Sums s' ∧ j'.k = j.k := by
 unfold wf1 at h ⊢
 dsimp only at h ⊢
 cases ha : (bits .and .i64 sum f.1 != 0) with
 | true => rw [ha] at h; cases h
 | false =>
  rw [ha] at h
  simp only [Bool.false_eq_true, if_false] at h ⊢
  have hb : ∀ m, m = f.1 → bF sum m = false := fun m e => by unfold bF; rw [e]; exact ha
  by_cases h1 : f.1 = 1
  ·rw [if_pos h1] at h ⊢
   cases h
   refine ⟨_, rfl, ?_, ?_, rfl⟩
   ·have b := hb 1 h1.symm
    subst hn
    rcases hs with rfl | rfl | rfl | rfl | rfl | rfl | rfl | rfl
    all_goals first | (exact absurd b (by decide)) | (unfold mixI; simp [show bF 0 1 = false by decide, show bF 0 2 = false by decide, show bF 0 4 = false by decide, show bF 2 1 = false by decide, show bF 2 2 = true by decide, show bF 2 4 = false by decide, show bF 4 1 = false by decide, show bF 4 2 = false by decide, show bF 4 4 = true by decide, show bF 6 1 = false by decide, show bF 6 2 = true by decide, show bF 6 4 = true by decide, show bits BinOp.or .i64 0 1 = 1 by decide, show bits BinOp.or .i64 2 1 = 3 by decide, show bits BinOp.or .i64 4 1 = 5 by decide, show bits BinOp.or .i64 6 1 = 7 by decide, show bF 1 1 = true by decide, show bF 1 2 = false by decide, show bF 1 4 = false by decide, show bF 3 1 = true by decide, show bF 3 2 = true by decide, show bF 3 4 = false by decide, show bF 5 1 = true by decide, show bF 5 2 = false by decide, show bF 5 4 = true by decide, show bF 7 1 = true by decide, show bF 7 2 = true by decide, show bF 7 4 = true by decide]; done)
   ·rcases hs with rfl | rfl | rfl | rfl | rfl | rfl | rfl | rfl <;> (unfold Sums; decide)
  rw [if_neg h1] at h ⊢
  by_cases h2 : f.1 = 2
  ·rw [if_pos h2] at h ⊢
   cases h
   refine ⟨_, rfl, ?_, ?_, rfl⟩
   ·have b := hb 2 h2.symm
    subst hn
    rcases hs with rfl | rfl | rfl | rfl | rfl | rfl | rfl | rfl
    all_goals first | (exact absurd b (by decide)) | (unfold mixI; simp [show bF 0 1 = false by decide, show bF 0 2 = false by decide, show bF 0 4 = false by decide, show bF 1 1 = true by decide, show bF 1 2 = false by decide, show bF 1 4 = false by decide, show bF 4 1 = false by decide, show bF 4 2 = false by decide, show bF 4 4 = true by decide, show bF 5 1 = true by decide, show bF 5 2 = false by decide, show bF 5 4 = true by decide, show bits BinOp.or .i64 0 2 = 2 by decide, show bits BinOp.or .i64 1 2 = 3 by decide, show bits BinOp.or .i64 4 2 = 6 by decide, show bits BinOp.or .i64 5 2 = 7 by decide, show bF 2 1 = false by decide, show bF 2 2 = true by decide, show bF 2 4 = false by decide, show bF 3 1 = true by decide, show bF 3 2 = true by decide, show bF 3 4 = false by decide, show bF 6 1 = false by decide, show bF 6 2 = true by decide, show bF 6 4 = true by decide, show bF 7 1 = true by decide, show bF 7 2 = true by decide, show bF 7 4 = true by decide]; done)
   ·rcases hs with rfl | rfl | rfl | rfl | rfl | rfl | rfl | rfl <;> (unfold Sums; decide)
  rw [if_neg h2] at h ⊢
  by_cases h4 : f.1 = 4
  ·rw [if_pos h4] at h ⊢
   cases h
   refine ⟨_, rfl, ?_, ?_, rfl⟩
   ·have b := hb 4 h4.symm
    subst hn
    rcases hs with rfl | rfl | rfl | rfl | rfl | rfl | rfl | rfl
    all_goals first | (exact absurd b (by decide)) | (unfold mixI; simp [show bF 0 1 = false by decide, show bF 0 2 = false by decide, show bF 0 4 = false by decide, show bF 1 1 = true by decide, show bF 1 2 = false by decide, show bF 1 4 = false by decide, show bF 2 1 = false by decide, show bF 2 2 = true by decide, show bF 2 4 = false by decide, show bF 3 1 = true by decide, show bF 3 2 = true by decide, show bF 3 4 = false by decide, show bits BinOp.or .i64 0 4 = 4 by decide, show bits BinOp.or .i64 1 4 = 5 by decide, show bits BinOp.or .i64 2 4 = 6 by decide, show bits BinOp.or .i64 3 4 = 7 by decide, show bF 4 1 = false by decide, show bF 4 2 = false by decide, show bF 4 4 = true by decide, show bF 5 1 = true by decide, show bF 5 2 = false by decide, show bF 5 4 = true by decide, show bF 6 1 = false by decide, show bF 6 2 = true by decide, show bF 6 4 = true by decide, show bF 7 1 = true by decide, show bF 7 2 = true by decide, show bF 7 4 = true by decide]; done)
   ·rcases hs with rfl | rfl | rfl | rfl | rfl | rfl | rfl | rfl <;> (unfold Sums; decide)
  rw [if_neg h4] at h
  cases h
theorem wf_mix {i : In4} : ∀ (fs : List (Int × Int)) {n j : In4} {sum : Int}, Sums sum → n = mixI i j sum → ∀ {n' s'}, fs.foldl wf1 (some (n, sum)) = some (n', s') → ∃ j', fs.foldl wf1 (some (j, sum)) = some (j', s') ∧ n' = mixI i j' s' ∧ Sums s' ∧ j'.k = j.k
 | [], n, j, sum, hs, hn, n', s', h => by cases h; exact ⟨j, rfl, hn, hs, rfl⟩
 | f :: fs, n, j, sum, hs, hn, n', s', h => by
  rw [List.foldl_cons] at h
  cases h1 : wf1 (some (n, sum)) f with
  | none => rw [h1, wf_none] at h; cases h
  | some p =>
   obtain ⟨n1, s1⟩ := p
   obtain ⟨j1, e1, e2, e3, e4⟩ := wf1_mix hs hn h1
   rw [h1] at h
   obtain ⟨j', a1, a2, a3, a4⟩ := wf_mix fs e3 e2 h
   exact ⟨j', by rw [List.foldl_cons, e1]; exact a1, a2, a3, a4.trans e4⟩
/-- What withFields makes of any inode, and of none. -/
theorem wfR_mix {i : In4} {fs : List (Int × Int)} (h : (wfR i fs).2.2 = true) : ∃ j sum, Sums sum ∧ wfR in0 fs = (j, sum, true) ∧ wfR i fs = (mixI i j sum, sum, true) ∧ j.k = 0 := by
 unfold wfR at h ⊢
 cases h1 : wfL i fs with
 | none => rw [h1] at h; cases h
 | some p =>
  obtain ⟨n, sum⟩ := p
  obtain ⟨j, e1, e2, e3, e4⟩ := wf_mix (i := i) fs (j := in0) (.inl rfl) (mix0 i in0).symm (n := i) h1
  unfold wfL
  rw [e1]
  exact ⟨j, sum, e3, rfl, by rw [e2], e4⟩

theorem fd_same {s t : Sg} (hl : t.l = s.l) (hd : t.d = s.d) (ino : Int) : fdR t ino = fdR s ino := by unfold fdR; rw [hl, hd]
open Go.RowKit Go.Maps
set_option maxRecDepth 100000

/-- Where the document's sight lies: itself, its view, its delta. -/
structure RsAt (w : World) (x rv q : Nat) (vr vu vq : Value) (ad : Option Addr) (n cap : Nat) (M nx : Int) : Prop where
 x : w.heap[x]? = some (.cells #[.pointer (some ⟨rv, 0, none⟩), vr, vu, .int .u32 nx] 111 (0, 0))
 v : w.heap[rv]? = some (.cells #[.slice ad n cap, .pointer (some ⟨q, 0, none⟩)] 108 (0, 0))
 q : w.heap[q]? = some (.cells #[vq, .int .i64 M] 179 (0, 0))
theorem RsAt.below {w w' : World} {x rv q : Nat} {vr vu vq : Value} {ad : Option Addr} {n cap : Nat} {M nx : Int} (h : RsAt w x rv q vr vu vq ad n cap M nx) (hb : Below w.heap.size w w') : RsAt w' x rv q vr vu vq ad n cap M nx :=
 ⟨(hb.block _ (lt_of_row h.x)).trans h.x, (hb.block _ (lt_of_row h.v)).trans h.v, (hb.block _ (lt_of_row h.q)).trans h.q⟩

set_option maxHeartbeats 1000000 in
theorem rdnew_any (w : World) (m : Int) (hm : m ≤ 9223372036854775807) : Calls Tryz.prog 88 #[.int .i64 m] w fun e w' => e = .returned (.pointer (some ⟨w.heap.size, 0, none⟩)) ∧ w' = w.alloc (.cells #[.slice none 0 0, .int .i64 (newS m).most] 179) := by
 by_cases h0 : m < 0
 ·have hx : (newS m).most = 0 := by unfold newS; rw [show max m 0 = 0 by omega]
  rw [hx]
  go_enter Tryz.func88, Tryz.ntmps88
  go_wp2
  go_ret
  first | exact ⟨rfl, rfl⟩ | exact ⟨rfl, by rw [show max m 0 = 0 by omega]⟩
 ·have hx : (newS m).most = m := by unfold newS; rw [show max m 0 = m by omega]
  have h0' : 0 ≤ m := by omega
  rw [hx]
  clear hx
  go_enter Tryz.func88, Tryz.ntmps88
  go_wp2
  go_ret
  first | exact ⟨rfl, rfl⟩ | exact ⟨rfl, by rw [show max m 0 = m by omega]⟩

set_option maxHeartbeats 2000000 in
theorem rsnew_any (w : World) (ad : Option Addr) (n cap : Nat) (m : Int) (hm : m ≤ 9223372036854775807) (nx : Int) : Calls Tryz.prog 35 #[.slice ad n cap, .int .i64 m, .int .u32 nx] w fun e w' =>
  ∃ x rv q, e = .returned (.pointer (some ⟨x, 0, none⟩)) ∧ RsAt w' x rv q (.slice none 0 0) (.slice none 0 0) (.slice none 0 0) ad n cap (newS m).most nx ∧ Below w.heap.size w w' ∧ w.heap.size ≤ x ∧ w.heap.size ≤ rv ∧ w.heap.size ≤ q := by
 have cd := rdnew_any w m hm
 generalize (newS m).most = M at *
 go_enter Tryz.func35, Tryz.ntmps35
 go_wp2_with fail
 refine cd.mono ?_
 rintro e w1 ⟨rfl, rfl⟩
 clear cd
 have r1 := heap_alloc_new w (.cells #[.slice none 0 0, .int .i64 M] 179)
 have b1 := bel1 w (.cells #[.slice none 0 0, .int .i64 M] 179)
 obtain ⟨w1, hw1⟩ : ∃ w1, w.alloc (.cells #[.slice none 0 0, .int .i64 M] 179) = w1 := ⟨_, rfl⟩
 rw [hw1] at r1 b1 ⊢
 clear hw1
 have r2 := heap_alloc_new w1 (.cells #[.slice ad n cap, .pointer (some ⟨w.heap.size, 0, none⟩)] 108)
 have b2 := bel1 w1 (.cells #[.slice ad n cap, .pointer (some ⟨w.heap.size, 0, none⟩)] 108)
 obtain ⟨w2, hw2⟩ : ∃ w2, w1.alloc (.cells #[.slice ad n cap, .pointer (some ⟨w.heap.size, 0, none⟩)] 108) = w2 := ⟨_, rfl⟩
 rw [hw2] at r2 b2
 have r3 := heap_alloc_new w2 (.cells #[.pointer (some ⟨w1.heap.size, 0, none⟩), .slice none 0 0, .slice none 0 0, .int .u32 nx] 111)
 have b3 := bel1 w2 (.cells #[.pointer (some ⟨w1.heap.size, 0, none⟩), .slice none 0 0, .slice none 0 0, .int .u32 nx] 111)
 obtain ⟨w3, hw3⟩ : ∃ w3, w2.alloc (.cells #[.pointer (some ⟨w1.heap.size, 0, none⟩), .slice none 0 0, .slice none 0 0, .int .u32 nx] 111) = w3 := ⟨_, rfl⟩
 rw [hw3] at r3 b3
 have HR : Hid (RsAt w3 w2.heap.size w1.heap.size w.heap.size (.slice none 0 0) (.slice none 0 0) (.slice none 0 0) ad n cap M nx) :=
  ⟨r3, (b3.block _ (lt_of_row r2)).trans r2, ((thenB b2 b3).block _ (lt_of_row r1)).trans r1⟩
 have HB : Hid (Below w.heap.size w w3) := thenB b1 (thenB b2 b3)
 have HS : Hid (w.heap.size ≤ w1.heap.size ∧ w1.heap.size ≤ w2.heap.size) := ⟨b1.size, b2.size⟩
 clear r1 r2 r3 b1 b2 b3
 go_wp2
 go_ret
 exact ⟨_, _, _, rfl, HR.out, HB.out, Nat.le_trans HS.out.1 HS.out.2, HS.out.1, Nat.le_refl _⟩

/-- Where a pair lies: the sight, its delta, its double, its base. -/
def PrAt (w : World) (pp : Nat) (a : Sa) (x : Nat) : Prop := w.heap[pp]? = some (.cells #[.pointer (some ⟨a.s, 0, none⟩), .pointer (some ⟨a.p, 0, none⟩), .pointer (some ⟨x, 0, none⟩), .pointer (some ⟨a.g, 0, none⟩)] 51 (0, 0))
def sg0 (l : List (ByteArray × ByteArray)) (most nx : Int) : Sg := ⟨l, newS most, [], [], nx⟩
/-- What Begin makes. -/
def BgOut (B : Nat) (w : World) (ad : Option Addr) (n cap : Nat) (l : List (ByteArray × ByteArray)) (most nx : Int) (e : Ending) (w' : World) : Prop :=
 ∃ pp a x X rv q, e = .returned (.pointer (some ⟨pp, 0, none⟩)) ∧ PrAt w' pp a x ∧ SgIn B w' a X (sg0 l most nx) ∧ (∀ k ∈ X, w.heap.size ≤ k) ∧ RsAt w' x rv q (.slice none 0 0) (.slice none 0 0) (.slice none 0 0) ad n cap (newS most).most nx ∧ Below w.heap.size w w' ∧
  (w.heap.size ≤ pp ∧ w.heap.size ≤ a.s ∧ w.heap.size ≤ a.v ∧ w.heap.size ≤ a.g ∧ w.heap.size ≤ x ∧ w.heap.size ≤ rv ∧ w.heap.size ≤ q)

set_option maxHeartbeats 8000000 in
theorem begin_in (w : World) (ad : Option Addr) (n cap : Nat) (l : List (ByteArray × ByteArray)) (hl : RdK w ad n cap l) {B : Nat} (hB : B ≤ w.heap.size) (hlB : ∀ q, 0 < n → ad = some q → q.block < B) (most : Int) (hm : most ≤ 9223372036854775807) (nx : Int) (h0 : 0 ≤ nx) (h1 : nx ≤ 4294967295) :
  Calls Tryz.prog 11 #[.slice ad n cap, .int .i64 most, .int .u32 nx] w fun e w' => BgOut B w ad n cap l most nx e w' := by
 have cd := dnew_any w most hm
 have HLB : Hid (∀ q, 0 < n → ad = some q → q.block < B) := hlB
 have HLL : Hid (RdK w ad n cap l) := hl
 clear hl
 go_enter Tryz.func11, Tryz.ntmps11
 go_wp2_with fail
 refine cd.mono ?_
 rintro e w1 ⟨rfl, hd1, hb1⟩
 clear cd
 have hb2 := bel1 w1 (.cells #[.slice ad n cap, .int .i64 (-1)] 77)
 have hs2 : SoAt (w1.alloc (.cells #[.slice ad n cap, .int .i64 (-1)] 77)) w1.heap.size ad n cap l := ⟨heap_alloc_new w1 _, (HLL.out.below hb1).below hb2⟩
 obtain ⟨w2, hw2⟩ : ∃ w2, w1.alloc (.cells #[.slice ad n cap, .int .i64 (-1)] 77) = w2 := ⟨_, rfl⟩
 rw [hw2] at hb2 hs2
 have HS2 : Hid _ := hs2
 have cx := rsnew_any w2 ad n cap most hm nx
 have HD1 : Hid (DlAt w1 (w.heap.size + 1) w.heap.size (.slice none 0 0) (newS most)) := hd1
 have HB1 : Hid (Below w.heap.size w w1) := hb1
 have HB2 : Hid (Below w1.heap.size w1 w2) := hb2
 obtain ⟨D, hD⟩ : ∃ D, newS most = D := ⟨_, rfl⟩
 rw [hD] at cx HD1
 have HDD : Hid (newS most = D) := hD
 clear hd1 hb1 hb2 hs2 hD
 go_wp2_with fail
 refine cx.mono ?_
 rintro e w3 ⟨x, rv, q, rfl, hx3, hb3, hxx⟩
 clear cx
 have HX3 : Hid _ := hx3
 have HB3 : Hid (Below w2.heap.size w2 w3) := hb3
 have HXX : Hid (w2.heap.size ≤ x ∧ w2.heap.size ≤ rv ∧ w2.heap.size ≤ q) := hxx
 clear hx3 hb3 hxx
 have cv := vnew_any w3 w1.heap.size (w.heap.size + 1)
 unfold baV at cv
 go_wp2_with fail
 refine cv.mono ?_
 rintro e w4 ⟨rfl, hv4, hb4⟩
 clear cv
 have HV4 : Hid (VwAt w4 w3.heap.size w1.heap.size (w.heap.size + 1)) := hv4
 have HB4 : Hid (Below w3.heap.size w3 w4) := hb4
 clear hv4 hb4
 have cr := new_any w4
 unfold ptr at cr
 go_wp2_with fail
 refine cr.mono ?_
 rintro e w5 ⟨rfl, hr5, hb5⟩
 clear cr
 have HR5 : Hid (SetAt w5 (w4.heap.size + 1) w4.heap.size (.slice none 0 0) []) := hr5
 have HB5 : Hid (Below w4.heap.size w4 w5) := hb5
 clear hr5 hb5
 have cu := new_any w5
 unfold ptr at cu
 go_wp2_with fail
 refine cu.mono ?_
 rintro e w6 ⟨rfl, hu6, hb6⟩
 clear cu
 have HU6 : Hid (SetAt w6 (w5.heap.size + 1) w5.heap.size (.slice none 0 0) []) := hu6
 have HB6 : Hid (Below w5.heap.size w5 w6) := hb6
 clear hu6 hb6
 have r7 := heap_alloc_new w6 (.cells #[.int .u32 nx] 23)
 have b7 := bel1 w6 (.cells #[.int .u32 nx] 23)
 obtain ⟨w7, hw7⟩ : ∃ w7, w6.alloc (.cells #[.int .u32 nx] 23) = w7 := ⟨_, rfl⟩
 rw [hw7] at r7 b7
 have HR7 : Hid _ := r7
 have HB7 : Hid _ := b7
 clear r7 b7
 go_wp2_with fail
 have r8 := heap_alloc_new w7 (.cells #[.pointer (some ⟨w3.heap.size, 0, none⟩), .pointer (some ⟨w4.heap.size + 1, 0, none⟩), .pointer (some ⟨w5.heap.size + 1, 0, none⟩), .func (.func 38) #[] #[.pointer (some ⟨w6.heap.size, 0, none⟩)]] 68)
 have b8 := bel1 w7 (.cells #[.pointer (some ⟨w3.heap.size, 0, none⟩), .pointer (some ⟨w4.heap.size + 1, 0, none⟩), .pointer (some ⟨w5.heap.size + 1, 0, none⟩), .func (.func 38) #[] #[.pointer (some ⟨w6.heap.size, 0, none⟩)]] 68)
 have z8 := World.size_alloc w7 (.cells #[.pointer (some ⟨w3.heap.size, 0, none⟩), .pointer (some ⟨w4.heap.size + 1, 0, none⟩), .pointer (some ⟨w5.heap.size + 1, 0, none⟩), .func (.func 38) #[] #[.pointer (some ⟨w6.heap.size, 0, none⟩)]] 68)
 obtain ⟨w8, hw8⟩ : ∃ w8, w7.alloc (.cells #[.pointer (some ⟨w3.heap.size, 0, none⟩), .pointer (some ⟨w4.heap.size + 1, 0, none⟩), .pointer (some ⟨w5.heap.size + 1, 0, none⟩), .func (.func 38) #[] #[.pointer (some ⟨w6.heap.size, 0, none⟩)]] 68) = w8 := ⟨_, rfl⟩
 rw [hw8] at r8 b8 z8 ⊢
 have r9 := heap_alloc_new w8 (.cells #[.pointer (some ⟨w7.heap.size, 0, none⟩), .pointer (some ⟨w.heap.size + 1, 0, none⟩), .pointer (some ⟨x, 0, none⟩), .pointer (some ⟨w1.heap.size, 0, none⟩)] 51)
 have b9 := bel1 w8 (.cells #[.pointer (some ⟨w7.heap.size, 0, none⟩), .pointer (some ⟨w.heap.size + 1, 0, none⟩), .pointer (some ⟨x, 0, none⟩), .pointer (some ⟨w1.heap.size, 0, none⟩)] 51)
 obtain ⟨w9, hw9⟩ : ∃ w9, w8.alloc (.cells #[.pointer (some ⟨w7.heap.size, 0, none⟩), .pointer (some ⟨w.heap.size + 1, 0, none⟩), .pointer (some ⟨x, 0, none⟩), .pointer (some ⟨w1.heap.size, 0, none⟩)] 51) = w9 := ⟨_, rfl⟩
 rw [hw9] at r9 b9 ⊢
 clear hw9 hw8 hw7 hw2
 go_ret
 have hb1 := HB1.out
 have hb2 := HB2.out
 have hb3 := HB3.out
 have hb4 := HB4.out
 have hb5 := HB5.out
 have hb6 := HB6.out
 have hb7 := HB7.out
 have b79 := thenB b8 b9
 have b69 := thenB hb7 b79
 have b59 := thenB hb6 b69
 have b49 := thenB hb5 b59
 have b39 := thenB hb4 b49
 have b29 := thenB hb3 b39
 have b19 := thenB hb2 b29
 have b09 := thenB hb1 b19
 have s1 := hb1.size
 have s2 := hb2.size
 have s3 := hb3.size
 have s4 := hb4.size
 have s5 := hb5.size
 have s6 := hb6.size
 have s7 := hb7.size
 have s8 := b8.size
 have s9 := b9.size
 have l5 := HR5.out.lt
 have l6 := HU6.out.lt
 have l1 := HD1.out.lt
 have l7 := lt_of_row HR7.out
 obtain ⟨x1, x2, x3⟩ := HXX.out
 refine ⟨w8.heap.size, ⟨w7.heap.size, w3.heap.size, w1.heap.size, w.heap.size + 1, w.heap.size, w4.heap.size + 1, w4.heap.size, w5.heap.size + 1, w5.heap.size, w6.heap.size⟩, x, _, rv, q, by rw [z8]; first | done | rfl, r9, ⟨.slice none 0 0, .slice none 0 0, .slice none 0 0, ?_, rfl⟩, ?_, ?_, b09, ?_⟩
 ·unfold sg0
  rw [HDD.out]
  refine ⟨(b9.block _ (lt_of_row r8)).trans r8, HV4.out.below b49, ⟨ad, n, cap, HS2.out.below b29, HLB.out⟩, HD1.out.below b19, HR5.out.below b59, HU6.out.below b69, (b79.block _ l7).trans HR7.out, h0, h1, ?_, ?_, ?_, ?_, ?_, ?_, Nat.le_trans hB b09.size⟩
  ·dsimp only; omega
  ·dsimp only; omega
  ·dsimp only; omega
  ·dsimp only; omega
  ·intro k hk; cases hk
  ·intro k hk
   rcases mine_iff.1 hk with e | e | e | e | e | e | e | e | e | e
   all_goals first | (dsimp only at e; omega) | (cases e)
 ·intro k hk
  rcases mine_iff.1 hk with e | e | e | e | e | e | e | e | e | e
  all_goals first | (dsimp only at e; omega) | (cases e)
 ·rw [HDD.out]; exact HX3.out.below b39
 ·dsimp only; omega

set_option maxRecDepth 100000

/-- What a change makes of what is told. -/
def aft (v : It × Bool × Int) (c : Cg) : It × Bool × Int := if refA c then refW it0 false c else if v.2.2 ≠ 0 then (it0, false, v.2.2) else refW v.1 v.2.1 c
theorem ch_aft (l : List (ByteArray × ByteArray)) {c : Cg} (h : ckOk c = true) : chL l c = aft (stI l c.pl, stB l c.pl, stE l c.pl) c := by
 rw [ch_ref l c h]; unfold refT aft; rw [if_pos rfl]

theorem aft_over {v : It × Bool × Int} {c : Cg} (h : refA c = true) : aft v c = refW it0 false c := by unfold aft; rw [if_pos h]
theorem aft_err {v : It × Bool × Int} {c : Cg} (h : refA c = false) (he : v.2.2 ≠ 0) : aft v c = (it0, false, v.2.2) := by unfold aft; rw [h, if_neg (by simp), if_pos he]
theorem aft_on {v : It × Bool × Int} {c : Cg} (h : refA c = false) (he : v.2.2 = 0) : aft v c = refW v.1 v.2.1 c := by unfold aft; rw [h, if_neg (by simp), if_neg (by simpa using he)]

theorem orF_bit {f g : Int} (hf : 1 ≤ f ∧ f ≤ 7) (hg : 1 ≤ g ∧ g ≤ 7) : (1 ≤ orF f g ∧ orF f g ≤ 7) ∧ bF (orF f g) 1 = (bF f 1 || bF g 1) ∧ bF (orF f g) 2 = (bF f 2 || bF g 2) ∧ bF (orF f g) 4 = (bF f 4 || bF g 4) := by
 obtain ⟨f0, f1⟩ := hf
 obtain ⟨g0, g1⟩ := hg
 have hf : f = 1 ∨ f = 2 ∨ f = 3 ∨ f = 4 ∨ f = 5 ∨ f = 6 ∨ f = 7 := by omega
 have hg : g = 1 ∨ g = 2 ∨ g = 3 ∨ g = 4 ∨ g = 5 ∨ g = 6 ∨ g = 7 := by omega
 rcases hf with rfl | rfl | rfl | rfl | rfl | rfl | rfl <;> rcases hg with rfl | rfl | rfl | rfl | rfl | rfl | rfl <;> decide

theorem fields_bd {c : Cg} (h : fieldsOk c = true) : (1 ≤ c.fields ∧ c.fields ≤ 7) ∧ c = fieldsC c.pl c.fields 0 (wM c 0) (wL c 0) (wS c 0) := by
 unfold fieldsOk at h
 split at h
 ·cases h
 ·split at h
  ·cases h
  ·exact ⟨by omega, cgEq_iff.1 (Bool.and_eq_true_iff.1 h).1⟩
theorem rec_fields {c : Cg} (h : recOk c = true) (hf : c.fresh = false) : fieldsOk c = true := by
 unfold recOk at h; rw [hf] at h; exact h
theorem lay_fresh {x : List Int} {p : Pt} (h : p.fresh = true) : layB x p = layB zeroC p := by
 apply ch_ext (layB_len _ _) (layB_len _ _)
 intro i hi
 rw [layB_get _ _ hi, layB_get _ _ hi]
 unfold layAt
 rw [h]
 rfl
theorem lay_frP (p : Pt) : layB zeroC { p with fresh := true } = layB zeroC p := by
 apply ch_ext (layB_len _ _) (layB_len _ _)
 intro i hi
 rw [layB_get _ _ hi, layB_get _ _ hi]
 unfold layAt
 dsimp only
 split
 ·rfl
 ·rw [if_pos rfl, zeroC_get]; split <;> rfl

/-- What two changes make, one behind the other, their joined one makes. -/
theorem aft_join (v : It × Bool × Int) (hv : v.2.2 = 0 ∨ v.1 = it0) {a b : Cg} (h : (joinX a b).2 = 0) : aft v (joinX a b).1 = aft (aft v a) b := by
 have hpl := joinX_pl h
 unfold joinX at h ⊢
 cases ha : ckOk a
 ·rw [ha] at h; cases h
 cases hb : ckOk b
 ·rw [ha, hb] at h; cases h
 cases hp : plEq a.pl b.pl
 ·rw [ha, hb, hp] at h; cases h
 rw [ha, hb, hp] at h
 simp only [if_true] at h ⊢
 have epl := plEq_iff.1 hp
 obtain ⟨pa, ca⟩ := ck_cases ha
 obtain ⟨pb, cb⟩ := ck_cases hb
 have over : ∀ (c : Cg), refA c = true → ∀ v', aft v c = aft v' c := fun c hc v' => by unfold aft; rw [if_pos hc, if_pos hc]
 cases hg : b.gone
 case true =>
  simp only [if_true]
  exact over b (by unfold refA; rw [hg]; rfl) _
 rw [hg] at h cb
 simp only [Bool.false_eq_true, if_false] at h cb ⊢
 by_cases h1 : b.pl.part = 1
 ·rw [if_pos h1] at h cb ⊢
  unfold jRX at h ⊢
  cases hf : b.fresh
  case true =>
   simp only [if_true]
   exact over b (by unfold refA; rw [hg, hf]; rfl) _
  rw [hf] at h
  simp only [Bool.false_eq_true, if_false] at h ⊢
  cases hga : a.gone
  case true => rw [hga] at h; cases h
  rw [hga] at h ca
  simp only [Bool.false_eq_true, if_false] at h ca ⊢
  cases hr : recOk (recJ a b)
  case false => rw [hr] at h; cases h
  simp only [if_true]
  have h1a : a.pl.part = 1 := by rw [epl]; exact h1
  rw [if_pos h1a] at ca
  have n2 : ¬ b.pl.part = 2 := by omega
  have n3 : ¬ b.pl.part = 3 := by omega
  have n2a : ¬ a.pl.part = 2 := by omega
  have n3a : ¬ a.pl.part = 3 := by omega
  have b2 : (b.pl.part == 2) = false := by simp [n2]
  have b2a : (a.pl.part == 2) = false := by simp [n2a]
  have fb := rec_fields cb hf
  obtain ⟨bdb, eb⟩ := fields_bd fb
  have ptb : b.pt.fresh = false := by rw [eb]; rfl
  have rb : refA b = false := by unfold refA; rw [hg, hf, b2, ptb]; rfl
  cases hfa : a.fresh
  ·have fa := rec_fields ca hfa
   obtain ⟨bda, ea⟩ := fields_bd fa
   have pta : a.pt.fresh = false := by rw [ea]; rfl
   have ra : refA a = false := by unfold refA; rw [hga, hfa, b2a, pta]; rfl
   have ej : recJ a b = { recI a b with fields := orF a.fields b.fields } := by unfold recJ; rw [hfa]; rfl
   have rj : refA (recJ a b) = false := by rw [ej]; unfold refA recI; dsimp only; rw [hga, hfa, b2a, pta]; rfl
   obtain ⟨_, o1, o2, o4⟩ := orF_bit bda bdb
   by_cases he : v.2.2 = 0
   ·rw [aft_on rj he, aft_on ra he]
    have k1 : (recJ a b).gone = false := by rw [ej]; exact hga
    have k2 : (recJ a b).pl = a.pl := by rw [ej]; rfl
    have k3 : (recJ a b).fresh = false := by rw [ej]; exact hfa
    have wJ : ∀ x is, refW x is (recJ a b) = if is then (⟨x.kind, wM (recJ a b) x.mode, wL (recJ a b) x.links, wS (recJ a b) x.size, x.lead, x.bytes⟩, true, 0) else (it0, false, 3) := fun x is => by
     unfold refW; rw [k1, k2, k3, if_neg (by simp), if_neg n2a, if_neg n3a, if_neg (by simp)]
    have wA : ∀ x is, refW x is a = if is then (⟨x.kind, wM a x.mode, wL a x.links, wS a x.size, x.lead, x.bytes⟩, true, 0) else (it0, false, 3) := fun x is => by
     unfold refW; rw [hga, hfa, if_neg (by simp), if_neg n2a, if_neg n3a, if_neg (by simp)]
    have wB : ∀ x is, refW x is b = if is then (⟨x.kind, wM b x.mode, wL b x.links, wS b x.size, x.lead, x.bytes⟩, true, 0) else (it0, false, 3) := fun x is => by
     unfold refW; rw [hg, hf, if_neg (by simp), if_neg n2, if_neg n3, if_neg (by simp)]
    rw [wJ, wA]
    obtain ⟨x, is, er⟩ := v
    dsimp only at he ⊢
    cases is
    ·rw [if_neg (by simp), if_neg (by simp), aft_err rb (by dsimp only; decide)]
    ·rw [if_pos rfl, if_pos rfl, aft_on rb rfl]
     dsimp only
     rw [wB, if_pos rfl]
     dsimp only
     have m1 : wM (recJ a b) x.mode = wM b (wM a x.mode) := by rw [ej]; unfold wM recI; dsimp only; rw [o1]; unfold wM; cases bF a.fields 1 <;> cases bF b.fields 1 <;> rfl
     have m2 : wL (recJ a b) x.links = wL b (wL a x.links) := by rw [ej]; unfold wL recI; dsimp only; rw [o2]; unfold wL; cases bF a.fields 2 <;> cases bF b.fields 2 <;> rfl
     have m4 : wS (recJ a b) x.size = wS b (wS a x.size) := by rw [ej]; unfold wS recI; dsimp only; rw [o4]; unfold wS; cases bF a.fields 4 <;> cases bF b.fields 4 <;> rfl
     rw [m1, m2, m4]
   ·rw [aft_err rj he, aft_err ra he, aft_err rb (by exact he)]
  ·have ej : recJ a b = recI a b := by unfold recJ; rw [hfa]; rfl
   have ra : refA a = true := by unfold refA; rw [hga, hfa]; rfl
   have rj : refA (recI a b) = true := by unfold refA recI; dsimp only; rw [hga, hfa]; rfl
   rw [ej, aft_over rj, aft_over ra]
   have k1 : (recI a b).gone = false := hga
   have k2 : (recI a b).pl = a.pl := rfl
   have k3 : (recI a b).fresh = true := hfa
   have wJ : refW it0 false (recI a b) = (freshI (recI a b), true, 0) := by unfold refW; rw [k1, k2, k3, if_neg (by simp), if_neg n2a, if_neg n3a, if_pos rfl]
   have wA : refW it0 false a = (freshI a, true, 0) := by unfold refW; rw [hga, hfa, if_neg (by simp), if_neg n2a, if_neg n3a, if_pos rfl]
   rw [wJ, wA, aft_on rb rfl]
   unfold refW
   rw [hg, hf, if_neg (by simp), if_neg n2, if_neg n3, if_neg (by simp), if_pos rfl]
   rfl
 ·rw [if_neg h1] at h cb ⊢
  by_cases h2 : b.pl.part = 2
  ·rw [if_pos h2]
   exact over b (by unfold refA; rw [h2]; simp) _
  ·rw [if_neg h2] at cb ⊢
   have h3 : b.pl.part = 3 := by rcases plOk_part pb with e | e | e <;> omega
   have n1a : ¬ a.pl.part = 1 := by rw [epl]; exact h1
   have n2a : ¬ a.pl.part = 2 := by rw [epl]; exact h2
   have h3a : a.pl.part = 3 := by rw [epl]; exact h3
   have b2 : (b.pl.part == 2) = false := by simp [h2]
   have b2a : (a.pl.part == 2) = false := by simp [n2a]
   obtain ⟨t1, t2⟩ := dat_trim cb
   have hfb : b.fresh = false := by rw [t2]; rfl
   have rb : refA b = b.pt.fresh := by unfold refA; rw [hg, hfb, b2]; simp
   have wB : ∀ x is, refW x is b = (laidI x b, true, 0) := fun x is => by unfold refW; rw [hg]; simp only [Bool.false_eq_true, if_false]; rw [if_neg h2, if_pos h3]
   unfold jDX
   cases hga : a.gone
   case true =>
    simp only [if_true]
    have ra : refA a = true := by unfold refA; rw [hga]; rfl
    have rj : refA (frP b) = true := by unfold refA frP; simp
    have wJ : ∀ x is, refW x is (frP b) = (laidI x (frP b), true, 0) := fun x is => by
     unfold refW
     rw [show (frP b).gone = false from hg, show (frP b).pl = b.pl from rfl]; simp only [Bool.false_eq_true, if_false]; rw [if_neg h2, if_pos h3]
    have wA : refW it0 false a = (it0, false, 0) := by unfold refW; rw [hga]; rfl
    have e : laidI it0 (frP b) = laidI it0 b := by unfold laidI frP; dsimp only; rw [show it0.bytes = zeroC from rfl, lay_frP]
    rw [aft_over rj, aft_over ra, wJ, wA]
    cases hbf : b.pt.fresh
    ·rw [aft_on (by rw [rb]; exact hbf) rfl, wB, e]
    ·rw [aft_over (by rw [rb]; exact hbf), wB, e]
   rw [hga] at ca
   simp only [Bool.false_eq_true, if_false] at ca ⊢
   rw [if_neg n1a, if_neg n2a] at ca
   obtain ⟨s1, s2⟩ := dat_trim ca
   have hfa : a.fresh = false := by rw [s2]; rfl
   have ra : refA a = a.pt.fresh := by unfold refA; rw [hga, hfa, b2a]; simp
   have wA : ∀ x is, refW x is a = (laidI x a, true, 0) := fun x is => by unfold refW; rw [hga]; simp only [Bool.false_eq_true, if_false]; rw [if_neg n2a, if_pos h3a]
   have wJ : ∀ x is, refW x is (joC a b) = (laidI x (joC a b), true, 0) := fun x is => by
    unfold refW
    rw [show (joC a b).gone = false from hg, show (joC a b).pl = b.pl from rfl]; simp only [Bool.false_eq_true, if_false]; rw [if_neg h2, if_pos h3]
   have rj : refA (joC a b) = (b.pt.fresh || a.pt.fresh) := by
    unfold refA
    rw [show (joC a b).gone = false from hg, show (joC a b).fresh = false from hfb, show (joC a b).pl = b.pl from rfl, b2, show (joC a b).pt = joinP a.pt b.pt from rfl]
    unfold joinP
    cases hbf : b.pt.fresh
    ·simp
    ·simp [trimP, hbf]
   have lJ : ∀ x, laidI x (joC a b) = laidI (laidI x a) b := fun x => by
    unfold laidI
    dsimp only
    rw [show (joC a b).pt = joinP a.pt b.pt from rfl, lay_join]
   cases hbf : b.pt.fresh
   case true =>
    have e : laidI it0 (joC a b) = laidI it0 b := by rw [lJ]; unfold laidI; dsimp only; rw [lay_fresh hbf, lay_fresh (x := it0.bytes) hbf]
    rw [aft_over (by rw [rj, hbf]; rfl), aft_over (v := aft v a) (by rw [rb]; exact hbf), wJ, wB, e]
   rw [hbf] at rj rb
   cases haf : a.pt.fresh
   case true =>
    rw [haf] at rj ra
    rw [aft_over rj, aft_over ra, wJ, wA, aft_on rb rfl, wB, lJ]
   rw [haf] at rj ra
   by_cases he : v.2.2 = 0
   ·rw [aft_on rj he, aft_on ra he, wJ, wA, aft_on rb rfl, wB, lJ]
   ·rw [aft_err rj he, aft_err ra he, aft_err rb (by exact he)]

/-- What a view tells behind a change that was put in. -/
theorem vg_put (l : List (ByteArray × ByteArray)) {d : Dl} (hd : DlOk d) (hc : CksOk d) {c : Cg} (hcg : CgOk c) (h0 : (putX d c).2 = 0) (q : Pl) : vgR l (putS d c) q = if plEq c.pl q = true then aft (vgR l d c.pl) c else vgR l d q := by
 have hL : (putS d c).L = setL d.L (putX d c).1 := by unfold putS; rw [if_pos h0]
 have hpl := putX_pl h0
 have hok := putX_ok hd hcg
 have hg := getL_set hd.L hok q
 rw [hpl] at hg
 have hst : (stE l c.pl = 0 ∨ stI l c.pl = it0) := by
  by_cases he : stE l c.pl = 0
  ·exact .inl he
  ·right
   unfold stI
   have : stB l c.pl = false := by
    cases hB : stB l c.pl with
    | false => rfl
    | true =>
     exfalso
     unfold stB at hB
     simp only [Bool.and_eq_true, decide_eq_true_eq] at hB
     apply he
     unfold stE
     rw [hB.1.1, hB.1.2, if_pos rfl, if_pos rfl]
     exact hB.2
   rw [this]; rfl
 cases hq : plEq c.pl q
 ·rw [if_neg (by decide)]
  rw [hq, if_neg (by decide)] at hg
  unfold vgR isX wasX
  rw [hL, hg]
 ·rw [if_pos rfl]
  rw [hq, if_pos rfl] at hg
  have eq := plEq_iff.1 hq
  subst eq
  have hi' : isX (putS d c) c.pl = true := by unfold isX; rw [hL, hg]; rfl
  have hw' : wasX (putS d c) c.pl = (putX d c).1 := by unfold wasX; rw [hL, hg]; rfl
  have hck : ckOk (putX d c).1 = true := by
   have := hc.put c
   refine this _ ?_
   rw [hL]
   exact setL_mem.2 (.inl rfl)
  have hv : vgR l (putS d c) c.pl = aft (stI l c.pl, stB l c.pl, stE l c.pl) (putX d c).1 := by
   unfold vgR
   rw [hi', hw', if_pos rfl, ch_aft l hck, hpl]
  rw [hv]
  unfold putX behX at h0 ⊢
  cases hco : ckOk c
  ·rw [hco] at h0; cases h0
  rw [hco] at h0
  simp only [if_true] at h0 ⊢
  cases hi : isX d c.pl
  ·rw [hi] at h0
   simp only [Bool.false_eq_true, if_false] at h0 ⊢
   split at h0
   ·cases h0
   ·rename_i hm
    rw [if_neg hm]
    have : vgR l d c.pl = (stI l c.pl, stB l c.pl, stE l c.pl) := by unfold vgR; rw [hi]; rfl
    rw [this]
  ·rw [hi] at h0
   simp only [if_true] at h0 ⊢
   have hwp := was_pl hd hi
   have : vgR l d c.pl = aft (stI l c.pl, stB l c.pl, stE l c.pl) (wasX d c.pl) := by
    unfold vgR
    rw [hi, if_pos rfl, ch_aft l (is_ck hc hi), hwp]
   rw [this]
   exact aft_join _ hst h0

set_option maxRecDepth 100000

/-- Whether what is found may be. -/
def FdOk (F : In4 × Int) : Prop := F.2 = 0 → inoOk F.1.k F.1.m F.1.l F.1.s = true
structure Iv (s : Sg) : Prop where
 d : DlOk s.d
 c : CksOk s.d
 ok : ∀ ino, FdOk (fdR s ino)
theorem fd_none {s : Sg} {ino : Int} (h : (fdR s ino).2 ≠ 0) : (fdR s ino).1 = in0 := by
 unfold fdR fdF at *
 split
 ·rfl
 split
 ·rfl
 split
 ·rename_i a b c
  rw [if_neg a, if_neg b, if_pos c] at h
  exact absurd rfl h
 ·rfl
theorem Iv.dir {s : Sg} (h : Iv s) (ino : Int) : (fdR s ino).1.k ≠ 1 → (fdR s ino).1.s = 0 := fun hk => by
 by_cases he : (fdR s ino).2 = 0
 ·obtain ⟨_, h3⟩ := ino_iff.1 (h.ok ino he)
  rcases h3 with ⟨e, _⟩ | ⟨_, _, e⟩
  ·exact absurd e hk
  ·exact e
 ·rw [fd_none he]; rfl
theorem Iv.same {s t : Sg} (h : Iv s) (hl : t.l = s.l) (hd : t.d = s.d) : Iv t := ⟨by rw [hd]; exact h.d, by rw [hd]; exact h.c, fun ino => by rw [fd_same hl hd ino]; exact h.ok ino⟩
theorem Iv.put {s : Sg} (h : Iv s) {c : Cg} (hc : CgOk c) (hr : ∀ ino, c.pl = recP ino → FdOk (fdF ino (aft (vgR s.l s.d c.pl) c))) : Iv { s with d := putS s.d c } := by
 refine ⟨putS_ok h.d hc, h.c.put c, fun ino => ?_⟩
 by_cases h0 : (putX s.d c).2 = 0
 case neg =>
  have e : putS s.d c = s.d := by unfold putS; rw [if_neg h0]
  show FdOk (fdR { s with d := putS s.d c } ino)
  rw [e]
  exact h.ok ino
 show FdOk (fdF ino (vgR s.l (putS s.d c) (recP ino)))
 rw [vg_put s.l h.d h.c hc h0]
 cases hp : plEq c.pl (recP ino) with
 | true => rw [if_pos rfl]; exact hr ino (plEq_iff.1 hp)
 | false => rw [if_neg (by simp)]; exact h.ok ino
theorem fd_gone (ino : Int) (v : It × Bool × Int) (p : Pl) : FdOk (fdF ino (aft v (goneC p))) := fun he => by
 exfalso
 have e : aft v (goneC p) = (it0, false, 0) := rfl
 rw [e] at he
 unfold fdF at he
 split at he
 ·cases he
 split at he
 ·rename_i h; exact h rfl
 split at he
 ·rename_i h; cases h
 ·cases he
theorem fd_fresh (ino : Int) (v : It × Bool × Int) (n kind mode : Int) (h : inoOk kind mode 1 0 = true) : FdOk (fdF ino (aft v (freshC (recP n) kind mode 1 0))) := fun he => by
 have e : aft v (freshC (recP n) kind mode 1 0) = (freshI (freshC (recP n) kind mode 1 0), true, 0) := rfl
 rw [e] at he ⊢
 unfold fdF at he ⊢
 by_cases hi : ino = 0
 ·rw [if_pos hi] at he; cases he
 rw [if_neg hi, if_neg (by simp), if_pos rfl]
 exact h
theorem fd_fields {ino : Int} {v : It × Bool × Int} {sum : Int} {j : In4} (h : (fdF ino v).2 = 0 → inoOk (mixI (fdF ino v).1 j sum).k (mixI (fdF ino v).1 j sum).m (mixI (fdF ino v).1 j sum).l (mixI (fdF ino v).1 j sum).s = true) :
  FdOk (fdF ino (aft v (fieldsC (recP ino) sum j.k j.m j.l j.s))) := fun he => by
 have hA : refA (fieldsC (recP ino) sum j.k j.m j.l j.s) = false := rfl
 by_cases hv : v.2.2 = 0
 case neg =>
  rw [aft_err hA hv] at he
  unfold fdF at he
  by_cases hi : ino = 0
  ·rw [if_pos hi] at he; cases he
  ·rw [if_neg hi, if_pos hv] at he; exact absurd he hv
 rw [aft_on hA hv] at he ⊢
 by_cases hi : ino = 0
 ·unfold fdF at he; rw [if_pos hi] at he; cases he
 cases hb : v.2.1 with
 | false =>
  have e : refW v.1 v.2.1 (fieldsC (recP ino) sum j.k j.m j.l j.s) = (it0, false, 3) := by rw [hb]; rfl
  rw [e] at he
  unfold fdF at he
  rw [if_neg hi, if_pos (by decide)] at he
  cases he
 | true =>
  have e : refW v.1 true (fieldsC (recP ino) sum j.k j.m j.l j.s) = (⟨v.1.kind, wM (fieldsC (recP ino) sum j.k j.m j.l j.s) v.1.mode, wL (fieldsC (recP ino) sum j.k j.m j.l j.s) v.1.links, wS (fieldsC (recP ino) sum j.k j.m j.l j.s) v.1.size, v.1.lead, v.1.bytes⟩, true, 0) := rfl
  have hF : fdF ino v = (⟨v.1.kind, v.1.mode, v.1.links, v.1.size⟩, 0) := by
   unfold fdF
   rw [if_neg hi, if_neg (by simpa using hv), if_pos hb]
  rw [hF] at h
  rw [e]
  unfold fdF
  rw [if_neg hi, if_neg (by simp), if_pos rfl]
  exact h rfl
theorem Iv.start (l : List (ByteArray × ByteArray)) (most nx : Int) (hm : most ≤ 9223372036854775807) : Iv (sg0 l most nx) := by
 refine ⟨newS_ok hm, (fun c hc => absurd hc (by simp [sg0, newS])), fun ino he => ?_⟩
 unfold fdR at he ⊢
 have e : vgR (sg0 l most nx).l (sg0 l most nx).d (recP ino) = (stI l (recP ino), stB l (recP ino), stE l (recP ino)) := vg_new l most (recP ino)
 rw [e] at he ⊢
 unfold fdF at he ⊢
 by_cases hi : ino = 0
 ·rw [if_pos hi] at he; cases he
 rw [if_neg hi] at he ⊢
 by_cases h2 : stE l (recP ino) = 0
 case neg => rw [if_pos h2] at he; exact absurd he h2
 rw [if_neg (by simpa using h2)] at he ⊢
 cases hb : stB l (recP ino) with
 | false => rw [hb, if_neg (by simp)] at he; cases he
 | true => rw [if_pos rfl]; exact st_ok rfl hb
theorem Iv.make {s : Sg} (h : Iv s) (hn0 : 0 ≤ s.n) (hn1 : s.n ≤ 4294967295) (kind mode : Int) : Iv (makR s kind mode).1 := by
 unfold makR
 split
 ·exact h
 ·rename_i hok
  have hok : inoOk kind mode 1 0 = true := by simpa using hok
  have hm : Iv (makS s kind mode) := by
   have := h.put (makC_ok hn0 hn1 hok) (fun ino e => fd_fresh ino _ s.n kind mode hok)
   exact this.same rfl rfl
  split
  ·exact hm
  ·exact hm
theorem Iv.set {s : Sg} (h : Iv s) (ino : Int) (h0 : 0 ≤ ino) (h1 : ino ≤ 4294967295) (fs : List (Int × Int)) (hf : fiOk fs) : Iv (setR s ino fs).1 := by
 unfold setR setF
 by_cases he : (fdR s ino).2 = 0
 case neg => rw [if_pos he]; exact h
 rw [if_neg (by simpa using he)]
 cases hw : (wfR (fdR s ino).1 fs).2.2 with
 | false => rw [Bool.false_and, if_pos rfl]; exact h
 | true =>
  obtain ⟨j, sum, hS, e1, e2, e3⟩ := wfR_mix hw
  have hok := wfR_ok (i := in0) hf (by exact in0_ok)
  rw [e1] at hok
  rw [e1, e2]
  dsimp only
  cases ho : inoOk (mixI (fdR s ino).1 j sum).k (mixI (fdR s ino).1 j sum).m (mixI (fdR s ino).1 j sum).l (mixI (fdR s ino).1 j sum).s with
  | false => rw [Bool.true_and, if_pos rfl]; exact h
  | true =>
   rw [if_neg (by simp)]
   split
   ·exact h
   have hp : Iv { s with d := putS s.d (fieldsC (recP ino) sum j.k j.m j.l j.s) } := h.put (fields_ok h0 h1 hok.2 hok.1) (fun i e => by
    have ei : ino = i := congrArg Pl.ino e
    subst ei
    exact fd_fields (fun _ => ho))
   split
   ·exact hp
   ·exact hp.same rfl rfl
theorem Iv.gone {s : Sg} (h : Iv s) : ∀ (ps : List Pl), (∀ p ∈ ps, PlOk p) → Iv (goneL s ps).1
 | [], hp => by unfold goneL; exact h
 | p :: ps, hp => by
  have hg : Iv (gone1 s p) := h.put (gone_ok (hp p List.mem_cons_self)) (fun ino e => fd_gone ino _ p)
  unfold goneL
  split
  ·exact hg
  ·exact Iv.gone hg ps (fun q hq => hp q (List.mem_cons_of_mem _ hq))
theorem rmE_st (g : Sg × Int) (ino : Int) : (rmE g ino).1.l = g.1.l ∧ (rmE g ino).1.d = g.1.d := by
 unfold rmE
 split <;> exact ⟨rfl, rfl⟩
theorem Iv.rm {s : Sg} (h : Iv s) (ino : Int) (h0 : 0 ≤ ino) (h1 : ino ≤ 4294967295) : Iv (rmR s ino).1 := by
 have hb := fd_bd h.d h.c ino
 unfold rmR rmF
 split
 ·exact h
 have hB : Iv (rmB s ino (fdR s ino).1) := by
  unfold rmB
  split
  ·exact h.same rfl rfl
  ·exact h
 have hg := hB.gone (placesL ino (fdR s ino).1) (placesL_ok h0 h1 hb.s1)
 obtain ⟨e1, e2⟩ := rmE_st (goneL (rmB s ino (fdR s ino).1) (placesL ino (fdR s ino).1)) ino
 exact hg.same e1 e2
theorem lkE_st (g : Sg × Int) (n : Int) : (lkE g n).1 = g.1 := by
 unfold lkE
 split <;> rfl
theorem Iv.link {s : Sg} (h : Iv s) (ino : Int) (h0 : 0 ≤ ino) (h1 : ino ≤ 4294967295) (y : Int) : Iv (lkR s ino y).1 := by
 have hb := fd_bd h.d h.c ino
 have hl0 := hb.l0
 have hl1 := hb.l1
 unfold lkR
 split
 ·exact h
 split
 ·exact h
 have hR : Iv { s with R := addK s.R ino [2] } := h.same rfl rfl
 generalize ({ s with R := addK s.R ino [2] } : Sg) = t at *
 unfold lkB
 split
 ·exact hR
 split
 ·rw [lkE_st]; exact hR.rm ino h0 h1
 split
 ·exact hR
 ·rw [lkE_st]
  exact hR.set ino h0 h1 _ (by intro f hf; simp at hf; subst hf; dsimp only; omega)
theorem Iv.stat {s : Sg} (h : Iv s) (ino : Int) : Iv (statR s ino).1 := by
 unfold statR
 split
 ·exact h
 ·exact h.same rfl rfl
theorem Iv.size {s : Sg} (h : Iv s) (ino : Int) : Iv (sizeR s ino).1 := by
 unfold sizeR
 split
 ·exact h
 ·exact h.same rfl rfl

open Go.RowKit Go.Maps
set_option maxRecDepth 100000

theorem PrAt.c0 {w : World} {pp x : Nat} {a : Sa} (h : PrAt w pp a x) : w.cell? ⟨pp, 0, none⟩ = some (.pointer (some ⟨a.s, 0, none⟩)) := by rw [cell_of_row _ _ _ _ _ (0, 0) h]; rfl
theorem PrAt.c1 {w : World} {pp x : Nat} {a : Sa} (h : PrAt w pp a x) : w.cell? ⟨pp, 1, none⟩ = some (.pointer (some ⟨a.p, 0, none⟩)) := by rw [cell_of_row _ _ _ _ _ (0, 0) h]; rfl
theorem PrAt.c2 {w : World} {pp x : Nat} {a : Sa} (h : PrAt w pp a x) : w.cell? ⟨pp, 2, none⟩ = some (.pointer (some ⟨x, 0, none⟩)) := by rw [cell_of_row _ _ _ _ _ (0, 0) h]; rfl
theorem PrAt.c3 {w : World} {pp x : Nat} {a : Sa} (h : PrAt w pp a x) : w.cell? ⟨pp, 3, none⟩ = some (.pointer (some ⟨a.g, 0, none⟩)) := by rw [cell_of_row _ _ _ _ _ (0, 0) h]; rfl
theorem SgIn.not_pair {B : Nat} {w : World} {a : Sa} {X : List Nat} {s : Sg} (h : SgIn B w a X s) {pp x : Nat} {a' : Sa} (hp : PrAt w pp a' x) : pp ∉ X := by
 obtain ⟨vd, vr, vu, h, rfl⟩ := h
 exact h.other hp (by decide) (by decide) (by decide) (by decide) (by decide)

/-- A pair, in a statement: what lies below B stays, but for the sight's own blocks, which lie above. -/
structure Pr (B : Nat) (w0 w : World) (pp : Nat) (a : Sa) (s : Sg) : Prop where
 ex : ∃ X x, PrAt w pp a x ∧ SgIn B w a X s
 bel : Below B w0 w
 B : B ≤ w0.heap.size
theorem Pr.c0 {B : Nat} {w0 w : World} {pp : Nat} {a : Sa} {s : Sg} (h : Pr B w0 w pp a s) : w.cell? ⟨pp, 0, none⟩ = some (.pointer (some ⟨a.s, 0, none⟩)) := by
 obtain ⟨X, x, h1, _⟩ := h.ex
 exact h1.c0
theorem Pr.below {B : Nat} {w0 w w' : World} {pp : Nat} {a : Sa} {s : Sg} (h : Pr B w0 w pp a s) (hb : Below w.heap.size w w') : Pr B w0 w' pp a s := by
 obtain ⟨X, x, h1, h2⟩ := h.ex
 exact ⟨⟨X, x, (hb.block _ (lt_of_row h1)).trans h1, h2.below hb⟩, h.bel.trans (hb.mono (Nat.le_trans h.B h.bel.size)), h.B⟩
theorem SgIn.ge {B : Nat} {w : World} {a : Sa} {X : List Nat} {s : Sg} (h : SgIn B w a X s) : ∀ k ∈ X, B ≤ k := by
 obtain ⟨vd, vr, vu, h, rfl⟩ := h
 exact h.ge
theorem Sole.belowX {X : List Nat} {B : Nat} {w w' : World} (h : Sole X w w') (hX : ∀ k ∈ X, B ≤ k) (hB : B ≤ w.heap.size) : Below B w w' :=
 ⟨h.os, h.tape, h.output, h.size, fun k hk => h.block k (by omega) (fun e => by have := hX k e; omega)⟩
/-- What a call on the sight leaves of the pair. -/
theorem Pr.out {B : Nat} {w0 w w' : World} {pp : Nat} {a : Sa} {s s' : Sg} (h : Pr B w0 w pp a s) (ho : ∀ X, SgIn B w a X s → SgOut B w a X s' w') : Pr B w0 w' pp a s' := by
 obtain ⟨X, x, h1, h2⟩ := h.ex
 obtain ⟨X', k1, k2, k3⟩ := ho X h2
 exact ⟨⟨X', x, k2.row h1 (h2.not_pair h1), k1⟩, h.bel.trans (k2.belowX h2.ge (Nat.le_trans h.B h.bel.size)), h.B⟩
theorem Pr.of {w : World} {ad : Option Addr} {n cap : Nat} {l : List (ByteArray × ByteArray)} {most nx : Int} {e : Ending} {w' : World} {B : Nat} (h : BgOut B w ad n cap l most nx e w') (hB : B ≤ w.heap.size) : ∃ pp a, e = .returned (.pointer (some ⟨pp, 0, none⟩)) ∧ Pr B w w' pp a (sg0 l most nx) := by
 obtain ⟨pp, a, x, X, rv, q, rfl, h1, h2, _, _, h4, _⟩ := h
 exact ⟨pp, a, rfl, ⟨X, x, h1, h2⟩, h4.mono hB, hB⟩

theorem Pr.set {B : Nat} {w0 w : World} {pp : Nat} {a : Sa} {s : Sg} (h : Pr B w0 w pp a s) (ino : Int) (h0 : 0 ≤ ino) (h1 : ino ≤ 4294967295) (fa : Option Addr) (fn fc : Nat) (fs : List (Int × Int)) (hr : RdZ 2 fiE w (.slice fa fn fc) fs) (hn : fn ≤ 1000) (hf : fiOk fs) {N : Nat} (hk : Sk s N) (hN : N ≤ 3800) :
  Calls Tryz.prog 45 #[.pointer (some ⟨a.s, 0, none⟩), .int .u32 ino, .slice fa fn fc] w fun e w' => e = .returned (.int .i64 (setR s ino fs).2) ∧ Pr B w0 w' pp a (setR s ino fs).1 := by
 obtain ⟨X, x, p1, p2⟩ := h.ex
 refine (set_in p2 ino h0 h1 fa fn fc fs hr hn hf (Nat.le_trans hk.L (by omega)) (Nat.le_trans hk.P (by omega)) (Nat.le_trans hk.U (by omega))).mono ?_
 rintro e w' ⟨rfl, ho⟩
 obtain ⟨X', k1, k2, k3⟩ := ho
 exact ⟨rfl, ⟨X', x, k2.row p1 (p2.not_pair p1), k1⟩, h.bel.trans (k2.belowX p2.ge (Nat.le_trans h.B h.bel.size)), h.B⟩
theorem Pr.make {B : Nat} {w0 w : World} {pp : Nat} {a : Sa} {s : Sg} (h : Pr B w0 w pp a s) (kind mode : Int) {N : Nat} (hk : Sk s N) (hN : N ≤ 3800) :
  Calls Tryz.prog 32 #[.pointer (some ⟨a.s, 0, none⟩), .int .i64 kind, .int .i64 mode] w fun e w' => e = .returned (.tuple #[.int .u32 (makR s kind mode).2.1, .int .i64 (makR s kind mode).2.2]) ∧ Pr B w0 w' pp a (makR s kind mode).1 := by
 obtain ⟨X, x, p1, p2⟩ := h.ex
 refine (make_in p2 kind mode (Nat.le_trans hk.L (by omega)) (Nat.le_trans hk.P (by omega))).mono ?_
 rintro e w' ⟨rfl, ho⟩
 obtain ⟨X', k1, k2, k3⟩ := ho
 exact ⟨rfl, ⟨X', x, k2.row p1 (p2.not_pair p1), k1⟩, h.bel.trans (k2.belowX p2.ge (Nat.le_trans h.B h.bel.size)), h.B⟩
theorem Pr.kind {B : Nat} {w0 w : World} {pp : Nat} {a : Sa} {s : Sg} (h : Pr B w0 w pp a s) (ino : Int) (h0 : 0 ≤ ino) (h1 : ino ≤ 4294967295) :
  Calls Tryz.prog 25 #[.pointer (some ⟨a.s, 0, none⟩), .int .u32 ino] w fun e w' => e = .returned (.tuple #[.int .i64 (fdR s ino).1.k, .int .i64 (fdR s ino).2]) ∧ Pr B w0 w' pp a s := by
 obtain ⟨X, x, p1, p2⟩ := h.ex
 refine (kind_in p2 ino h0 h1).mono ?_
 rintro e w' ⟨rfl, hb⟩
 exact ⟨rfl, h.below hb⟩
theorem Pr.stat {B : Nat} {w0 w : World} {pp : Nat} {a : Sa} {s : Sg} (h : Pr B w0 w pp a s) (ino : Int) (h0 : 0 ≤ ino) (h1 : ino ≤ 4294967295) {N : Nat} (hk : Sk s N) (hN : N ≤ 3800) :
  Calls Tryz.prog 41 #[.pointer (some ⟨a.s, 0, none⟩), .int .u32 ino] w fun e w' => e = .returned (.tuple #[inV (statR s ino).2.1, .int .i64 (statR s ino).2.2]) ∧ Pr B w0 w' pp a (statR s ino).1 := by
 obtain ⟨X, x, p1, p2⟩ := h.ex
 refine (stat_in p2 ino h0 h1 (Nat.le_trans hk.R (by omega))).mono ?_
 rintro e w' ⟨rfl, ho⟩
 obtain ⟨X', k1, k2, k3⟩ := ho
 exact ⟨rfl, ⟨X', x, k2.row p1 (p2.not_pair p1), k1⟩, h.bel.trans (k2.belowX p2.ge (Nat.le_trans h.B h.bel.size)), h.B⟩
theorem Pr.link {B : Nat} {w0 w : World} {pp : Nat} {a : Sa} {s : Sg} (h : Pr B w0 w pp a s) (ino : Int) (h0 : 0 ≤ ino) (h1 : ino ≤ 4294967295) (y : Int) (hy0 : -9223372036854775808 ≤ y) (hy1 : y ≤ 9223372036854775807) {N : Nat} (hk : Sk s N) (hN : N ≤ 3800) :
  Calls Tryz.prog 33 #[.pointer (some ⟨a.s, 0, none⟩), .int .u32 ino, .int .i64 y] w fun e w' => e = .returned (.tuple #[.int .i64 (lkR s ino y).2.1, .int .i64 (lkR s ino y).2.2]) ∧ Pr B w0 w' pp a (lkR s ino y).1 := by
 obtain ⟨X, x, p1, p2⟩ := h.ex
 refine (link_in p2 ino h0 h1 y hy0 hy1 hk (by omega) (Nat.le_trans hk.R (by omega)) (Nat.le_trans hk.U (by omega))).mono ?_
 rintro e w' ⟨rfl, ho⟩
 obtain ⟨X', k1, k2, k3⟩ := ho
 exact ⟨rfl, ⟨X', x, k2.row p1 (p2.not_pair p1), k1⟩, h.bel.trans (k2.belowX p2.ge (Nat.le_trans h.B h.bel.size)), h.B⟩
theorem Pr.rm {B : Nat} {w0 w : World} {pp : Nat} {a : Sa} {s : Sg} (h : Pr B w0 w pp a s) (ino : Int) (h0 : 0 ≤ ino) (h1 : ino ≤ 4294967295) {N : Nat} (hk : Sk s N) (hN : N ≤ 3800) :
  Calls Tryz.prog 48 #[.pointer (some ⟨a.s, 0, none⟩), .int .u32 ino] w fun e w' => e = .returned (.int .i64 (rmR s ino).2) ∧ Pr B w0 w' pp a (rmR s ino).1 := by
 obtain ⟨X, x, p1, p2⟩ := h.ex
 refine (rm_in p2 ino h0 h1 hk (by omega) (Nat.le_trans hk.R (by omega)) (Nat.le_trans hk.U (by omega))).mono ?_
 rintro e w' ⟨rfl, ho⟩
 obtain ⟨X', k1, k2, k3⟩ := ho
 exact ⟨rfl, ⟨X', x, k2.row p1 (p2.not_pair p1), k1⟩, h.bel.trans (k2.belowX p2.ge (Nat.le_trans h.B h.bel.size)), h.B⟩

/-! ### How much is held -/

theorem sk0 (l : List (ByteArray × ByteArray)) (most nx : Int) : Sk (sg0 l most nx) 0 := ⟨(fun c hc => absurd hc (by simp [sg0, newS])), Nat.le_refl _, Nat.le_refl _, Nat.le_refl _, Nat.le_refl _⟩
theorem Sk.make {s : Sg} {n : Nat} (h : Sk s n) (kind mode : Int) : Sk (makR s kind mode).1 (n + 1) := by
 have hm : Sk (makS s kind mode) (n + 1) := by
  obtain ⟨h1, h2, h3, h4, h5⟩ := h.put (makC s kind mode)
  exact ⟨h1, h2, h3, h4, h5⟩
 unfold makR
 split
 ·exact h.mono (by omega)
 split
 ·exact hm
 ·exact hm
theorem goneL_sk : ∀ (ps : List Pl) {s : Sg} {n : Nat}, Sk s n → Sk (goneL s ps).1 (n + ps.length)
 | [], s, n, h => h
 | p :: ps, s, n, h => by
  unfold goneL
  have h1 : Sk (gone1 s p) (n + 1) := h.put (goneC p)
  split
  ·exact h1.mono (by simp)
  ·exact (goneL_sk ps h1).mono (by simp; omega)
theorem Sk.rm {s : Sg} {n : Nat} (h : Sk s n) (hd : DlOk s.d) (ino : Int) : Sk (rmR s ino).1 (n + 20) := by
 have hb := fd_bd hd h.ck ino
 unfold rmR rmF
 split
 ·exact h.mono (by omega)
 ·have h1 : Sk (rmB s ino (fdR s ino).1) (n + 1) := by
   unfold rmB
   split
   ·exact (h.read ino [3])
   ·exact h.mono (by omega)
  have h2 := goneL_sk (placesL ino (fdR s ino).1) h1
  have hl := placesL_len (ino := ino) hb.s1
  unfold rmE
  split
  ·exact h2.mono (by omega)
  ·exact (h2.wrote ino [7]).mono (by simp; omega)
theorem Sk.link {s : Sg} {n : Nat} (h : Sk s n) (hd : DlOk s.d) (ino y : Int) : Sk (lkR s ino y).1 (n + 30) := by
 have h1 := h.read ino [2]
 simp only [List.length_singleton] at h1
 unfold lkR
 split
 ·exact h.mono (by omega)
 split
 ·exact h.mono (by omega)
 ·unfold lkB
  split
  ·exact h1.mono (by omega)
  split
  ·unfold lkE
   have h2 := Sk.rm (s := { s with R := addK s.R ino [2] }) h1 hd ino
   split
   ·exact h2.mono (by omega)
   ·exact h2.mono (by omega)
  split
  ·exact h1.mono (by omega)
  ·unfold lkE
   have h2 := h1.set ino [(2, (fdR s ino).1.l + y)]
   split
   ·exact h2.mono (by omega)
   ·exact h2.mono (by omega)
theorem Sk.stat {s : Sg} {n : Nat} (h : Sk s n) (ino : Int) : Sk (statR s ino).1 (n + 3) := by
 unfold statR
 split
 ·exact h.mono (by omega)
 ·exact h.read ino [1, 2, 3]

/-! ### live -/

def v0 : Sg := sg0 [] 60 2
def v1 : Sg := (makR v0 1 6).1
def v2 : Sg := (lkR v1 2 1).1
def v3 : Sg := (lkR v2 2 (-2)).1
theorem lv_1 : (makR v0 1 6).2 = (2, 0) := by kernel_rfl
theorem lv_2 : (lkR v1 2 1).2 = (2, 0) := by kernel_rfl
theorem lv_3 : (lkR v2 2 (-2)).2 = (0, 0) := by kernel_rfl
theorem lv_4 : (fdR v3 2).2 = 220 := by kernel_rfl
theorem Pr.dl {B : Nat} {w0 w : World} {pp : Nat} {a : Sa} {s : Sg} (h : Pr B w0 w pp a s) : DlOk s.d := by
 obtain ⟨X, x, p1, p2⟩ := h.ex
 exact sg_ok p2

set_option maxHeartbeats 4000000 in
theorem live_any (w : World) : Calls Tryz.prog 9 #[] w fun e w' => e = .returned (.bool true) ∧ Below w.heap.size w w' := by
 have cb := begin_in w none 0 0 [] ⟨rfl, Nat.le_refl _, Nat.zero_le _, fun h => by omega⟩ (Nat.le_refl _) (fun q h => by omega) 60 (by decide) 2 (by decide) (by decide)
 go_enter Tryz.func9, Tryz.ntmps9
 go_wp2_with fail
 refine cb.mono ?_
 intro e w1 hbg
 obtain ⟨pp, a, rfl, hp1⟩ := Pr.of hbg (Nat.le_refl _)
 clear cb hbg
 have hp1 : Pr w.heap.size w w1 pp a v0 := hp1
 have k0 : Sk v0 0 := sk0 _ _ _
 have q1 := hp1.c0
 have cm := hp1.make 1 6 k0 (by decide)
 rw [lv_1] at cm
 have K1 : Hid (Sk v1 1) := k0.make 1 6
 clear hp1 k0
 go_wp2_with fail
 refine cm.mono ?_
 rintro e w2 ⟨rfl, hp2⟩
 clear cm q1
 have hp2 : Pr w.heap.size w w2 pp a v1 := hp2
 have q2 := hp2.c0
 have cl := hp2.link 2 (by decide) (by decide) 1 (by decide) (by decide) K1.out (by decide)
 rw [lv_2] at cl
 have K2 : Hid (Sk v2 31) := K1.out.link hp2.dl 2 1
 clear hp2
 go_wp2_with fail
 refine cl.mono ?_
 rintro e w3 ⟨rfl, hp3⟩
 clear cl q2
 have hp3 : Pr w.heap.size w w3 pp a v2 := hp3
 have q3 := hp3.c0
 have cl := hp3.link 2 (by decide) (by decide) (-2) (by decide) (by decide) K2.out (by decide)
 rw [lv_3] at cl
 clear hp3
 go_wp2_with fail
 refine cl.mono ?_
 rintro e w4 ⟨rfl, hp4⟩
 clear cl q3
 have hp4 : Pr w.heap.size w w4 pp a v3 := hp4
 have q4 := hp4.c0
 have ck := hp4.kind 2 (by decide) (by decide)
 rw [lv_4] at ck
 generalize (fdR v3 2).1.k = kk at *
 clear hp4
 go_wp2_with fail
 refine ck.mono ?_
 rintro e w5 ⟨rfl, hp5⟩
 clear ck q4
 have HB : Hid (Below w.heap.size w w5) := hp5.bel
 clear hp5
 go_wp2
 go_ret
 exact ⟨rfl, HB.out⟩

open Go.RowKit Go.Maps
set_option maxRecDepth 100000

/-- Both lie there, apart; Z: other blocks, which no call on either of them turns. -/
structure Bo (B : Nat) (w0 w : World) (pp : Nat) (a : Sa) (x : Nat) (Z : List Nat) (s t : Sg) : Prop where
 ex : ∃ X Y, PrAt w pp a x ∧ SgIn B w a X s ∧ XsIn B w x Y t ∧ (∀ k ∈ X, k ∉ Y) ∧ ∀ k ∈ pp :: a.s :: a.v :: a.g :: Z, k ∉ X ∧ k ∉ Y ∧ k < w.heap.size
 bel : Below B w0 w
 B : B ≤ w0.heap.size
/-- The blocks of Z are as they were. -/
def KeepZ (Z : List Nat) (w w' : World) : Prop := ∀ k ∈ Z, w'.heap[k]? = w.heap[k]?
theorem Bo.c0 {B : Nat} {w0 w : World} {pp : Nat} {a : Sa} {x : Nat} {Z : List Nat} {s t : Sg} (h : Bo B w0 w pp a x Z s t) : w.cell? ⟨pp, 0, none⟩ = some (.pointer (some ⟨a.s, 0, none⟩)) := by
 obtain ⟨X, Y, p, _⟩ := h.ex
 exact p.c0
theorem Bo.row {B : Nat} {w0 w : World} {pp : Nat} {a : Sa} {x : Nat} {Z : List Nat} {s t : Sg} (h : Bo B w0 w pp a x Z s t) : PrAt w pp a x := by
 obtain ⟨X, Y, p, _⟩ := h.ex
 exact p
theorem Bo.c1 {B : Nat} {w0 w : World} {pp : Nat} {a : Sa} {x : Nat} {Z : List Nat} {s t : Sg} (h : Bo B w0 w pp a x Z s t) : w.cell? ⟨pp, 1, none⟩ = some (.pointer (some ⟨a.p, 0, none⟩)) := by
 rw [cell_of_row _ _ _ _ _ (0, 0) h.row]; rfl
theorem Bo.c2 {B : Nat} {w0 w : World} {pp : Nat} {a : Sa} {x : Nat} {Z : List Nat} {s t : Sg} (h : Bo B w0 w pp a x Z s t) : w.cell? ⟨pp, 2, none⟩ = some (.pointer (some ⟨x, 0, none⟩)) := by
 rw [cell_of_row _ _ _ _ _ (0, 0) h.row]; rfl
theorem Bo.below {B : Nat} {w0 w w' : World} {pp : Nat} {a : Sa} {x : Nat} {Z : List Nat} {s t : Sg} (h : Bo B w0 w pp a x Z s t) (hb : Below w.heap.size w w') : Bo B w0 w' pp a x Z s t := by
 obtain ⟨X, Y, p, g1, g2, hd, hz⟩ := h.ex
 exact ⟨⟨X, Y, (hb.block _ (lt_of_row p)).trans p, g1.below hb, g2.below hb, hd, fun k hk => ⟨(hz k hk).1, (hz k hk).2.1, Nat.lt_of_lt_of_le (hz k hk).2.2 hb.size⟩⟩, h.bel.trans (hb.mono (Nat.le_trans h.B h.bel.size)), h.B⟩
theorem Bo.sub {B : Nat} {w0 w : World} {pp : Nat} {a : Sa} {x : Nat} {Z Z' : List Nat} {s t : Sg} (h : Bo B w0 w pp a x Z s t) (hs : ∀ k ∈ Z', k ∈ Z) : Bo B w0 w pp a x Z' s t := by
 obtain ⟨X, Y, p, g1, g2, hd, hz⟩ := h.ex
 exact ⟨⟨X, Y, p, g1, g2, hd, fun k hk => hz k (by
  simp only [List.mem_cons] at hk ⊢
  rcases hk with e | e | e | e | e
  ·exact .inl e
  ·exact .inr (.inl e)
  ·exact .inr (.inr (.inl e))
  ·exact .inr (.inr (.inr (.inl e)))
  ·exact .inr (.inr (.inr (.inr (hs k e)))))⟩, h.bel, h.B⟩
/-- Blocks that are laid behind it are others. -/
theorem Bo.add {B : Nat} {w0 w w' : World} {pp : Nat} {a : Sa} {x : Nat} {Z : List Nat} {s t : Sg} (h : Bo B w0 w pp a x Z s t) (hb : Below w.heap.size w w') {g : Nat} (hg : w.heap.size ≤ g) (hg' : g < w'.heap.size) : Bo B w0 w' pp a x (g :: Z) s t := by
 obtain ⟨X, Y, p, g1, g2, hd, hz⟩ := (h.below hb).ex
 obtain ⟨X0, Y0, q, f1, f2, fd, fz⟩ := h.ex
 refine ⟨⟨X0, Y0, (hb.block _ (lt_of_row q)).trans q, f1.below hb, f2.below hb, fd, fun k hk => ?_⟩, (h.below hb).bel, h.B⟩
 simp only [List.mem_cons] at hk
 have old : k ∈ pp :: a.s :: a.v :: a.g :: Z → k ∉ X0 ∧ k ∉ Y0 ∧ k < w'.heap.size := fun hk => ⟨(fz k hk).1, (fz k hk).2.1, Nat.lt_of_lt_of_le (fz k hk).2.2 hb.size⟩
 rcases hk with e | e | e | e | e | e
 ·exact old (by simp [e])
 ·exact old (by simp [e])
 ·exact old (by simp [e])
 ·exact old (by simp [e])
 ·subst e
  exact ⟨fun hm => by have := f1.lt _ hm; omega, fun hm => by have := (f2.lt _ hm).1; omega, hg'⟩
 ·exact old (by simp [e])
/-- A call on the program's sight. -/
theorem Bo.callS {B : Nat} {w0 w : World} {pp : Nat} {a : Sa} {x : Nat} {Z : List Nat} {s t s' : Sg} (h : Bo B w0 w pp a x Z s t) {f : FuncId} {args : Array Value} {R : Ending → Prop} (hc : ∀ X, SgIn B w a X s → Calls Tryz.prog f args w fun e w' => R e ∧ SgOut B w a X s' w') :
  Calls Tryz.prog f args w fun e w' => R e ∧ Bo B w0 w' pp a x Z s' t ∧ KeepZ Z w w' := by
 obtain ⟨X, Y, p, g1, g2, hd, hz⟩ := h.ex
 refine (hc X g1).mono ?_
 rintro e w' ⟨hR, X', k1, k2, k3⟩
 refine ⟨hR, ⟨⟨X', Y, k2.row p (hz pp (by simp)).1, k1, g2.keep k2.size (fun k hk hh => k2.block k hk (fun hx => ?_)), fun k hk hy => ?_, fun k hk => ?_⟩, h.bel.trans (k2.belowX g1.ge (Nat.le_trans h.B h.bel.size)), h.B⟩, fun k hk => ?_⟩
 ·rcases hh with e | e
  ·have := g1.ge k hx; omega
  ·exact hd k hx e
 ·rcases k3 k hk with e | e
  ·exact hd k e hy
  ·have := (g2.lt k hy).1; omega
 ·obtain ⟨z1, z2, z3⟩ := hz k hk
  refine ⟨fun hm => ?_, z2, Nat.lt_of_lt_of_le z3 k2.size⟩
  rcases k3 k hm with e | e
  ·exact z1 e
  ·omega
 ·obtain ⟨z1, z2, z3⟩ := hz k (by simp [hk])
  exact k2.block k z3 z1
/-- A call on the document's sight. -/
theorem Bo.callX {B : Nat} {w0 w : World} {pp : Nat} {a : Sa} {x : Nat} {Z : List Nat} {s t t' : Sg} (h : Bo B w0 w pp a x Z s t) {f : FuncId} {args : Array Value} {R : Ending → Prop} (hc : ∀ Y, XsIn B w x Y t → (∀ k ∈ Z, k ∉ Y) → Calls Tryz.prog f args w fun e w' => R e ∧ XsOut B w x Y t' w') :
  Calls Tryz.prog f args w fun e w' => R e ∧ Bo B w0 w' pp a x Z s t' ∧ KeepZ Z w w' := by
 obtain ⟨X, Y, p, g1, g2, hd, hz⟩ := h.ex
 refine (hc Y g2 (fun k hk => (hz k (by simp [hk])).2.1)).mono ?_
 rintro e w' ⟨hR, Y', k1, k2, k3⟩
 refine ⟨hR, ⟨⟨X, Y', k2.row p (hz pp (by simp)).2.1, g1.keep k2.size (fun k hk hh => k2.block k hk (fun hx => ?_)), k1, fun k hk hy => ?_, fun k hk => ?_⟩, h.bel.trans (k2.belowX (fun k hk => (g2.lt k hk).2) (Nat.le_trans h.B h.bel.size)), h.B⟩, fun k hk => ?_⟩
 ·rcases hh with e | e | e | e | e
  ·have := (g2.lt k hx).2; omega
  ·exact hd k e hx
  ·exact (hz a.s (by simp)).2.1 (e ▸ hx)
  ·exact (hz a.v (by simp)).2.1 (e ▸ hx)
  ·exact (hz a.g (by simp)).2.1 (e ▸ hx)
 ·rcases k3 k hy with e | e
  ·exact hd k hk e
  ·have := g1.lt k hk; omega
 ·obtain ⟨z1, z2, z3⟩ := hz k hk
  refine ⟨z1, fun hm => ?_, Nat.lt_of_lt_of_le z3 k2.size⟩
  rcases k3 k hm with e | e
  ·exact z2 e
  ·omega
 ·obtain ⟨z1, z2, z3⟩ := hz k (by simp [hk])
  exact k2.block k z3 z2
theorem not_row {w : World} {i j : Nat} {cs cs' : Array Value} {T T' : TypeId} {fr fr' : Nat × Nat} (h : w.heap[i]? = some (.cells cs T fr)) (h' : w.heap[j]? = some (.cells cs' T' fr')) (ht : T ≠ T') : i ≠ j := fun e => by
 subst e
 rw [h] at h'
 simp only [Option.some.injEq, Obj.cells.injEq] at h'
 exact ht h'.2.1
/-- What Begin makes. -/
theorem Bo.of {w : World} {ad : Option Addr} {n cap : Nat} {l : List (ByteArray × ByteArray)} {most nx : Int} {e : Ending} {w' : World} {B : Nat} (h : BgOut B w ad n cap l most nx e w') (hB : B ≤ w.heap.size) (hl : RdK w ad n cap l) (hlB : ∀ q, 0 < n → ad = some q → q.block < B) (hm : most ≤ 9223372036854775807) (h0 : 0 ≤ nx) (h1 : nx ≤ 4294967295) :
  ∃ pp a x, e = .returned (.pointer (some ⟨pp, 0, none⟩)) ∧ Bo B w w' pp a x [] (sg0 l most nx) (sg0 l most nx) := by
 obtain ⟨pp, a, x, X, rv, q, rfl, p, g, hX, hr, hb, b1, b2, b3, b4, b5, b6, b7⟩ := h
 have hx : XsIn B w' x [x, rv, q] (sg0 l most nx) := by
  refine ⟨rv, q, .slice none 0 0, .slice none 0 0, .slice none 0 0, ⟨hr.x, ⟨ad, n, cap, ⟨hr.v⟩, hl.below hb, hlB⟩, ⟨[], ⟨⟨hr.q, ⟨rfl, .inl ⟨rfl, rfl⟩⟩, by simp⟩, Rel.new _, newS_ok hm⟩⟩, RdZ.nil _ _ _, RdZ.nil _ _ _, h0, h1, fun k e => ?_, ⟨by omega, by omega, by omega⟩⟩, rfl⟩
  rcases e with e | e | e <;> cases e
 have hnx : ∀ {k : Nat} {cs : Array Value} {T : TypeId} {fr : Nat × Nat}, w'.heap[k]? = some (.cells cs T fr) → T ≠ 140 → T ≠ 208 → T ≠ 153 → T ≠ 73 → T ≠ 23 → k ∉ X := fun hk t1 t2 t3 t4 t5 => by
  obtain ⟨vd, vr, vu, g, rfl⟩ := g
  exact g.other hk t1 t2 t3 t4 t5
 have hny : ∀ {k : Nat} {cs : Array Value} {T : TypeId} {fr : Nat × Nat}, w'.heap[k]? = some (.cells cs T fr) → T ≠ 111 → T ≠ 108 → T ≠ 179 → k ∉ [x, rv, q] := fun hk t1 t2 t3 hm => by
  simp only [List.mem_cons, List.not_mem_nil, or_false] at hm
  rcases hm with e | e | e
  ·exact not_row hk hr.x t1 e
  ·exact not_row hk hr.v t2 e
  ·exact not_row hk hr.q t3 e
 obtain ⟨vd, vr, vu, g', eX⟩ := g
 obtain ⟨ad', n', cap', hS, _⟩ := g'.so
 have rs := g'.sr
 have rv' := g'.vw.row
 have rg := hS.row
 refine ⟨pp, a, x, rfl, ⟨X, [x, rv, q], p, ⟨vd, vr, vu, g', eX⟩, hx, fun k hk hy => ?_, fun k hk => ?_⟩, hb.mono hB, hB⟩
 ·simp only [List.mem_cons, List.not_mem_nil, or_false] at hy
  rcases hy with e | e | e
  ·subst e; exact hnx hr.x (by decide) (by decide) (by decide) (by decide) (by decide) hk
  ·subst e; exact hnx hr.v (by decide) (by decide) (by decide) (by decide) (by decide) hk
  ·subst e; exact hnx hr.q (by decide) (by decide) (by decide) (by decide) (by decide) hk
 ·simp only [List.mem_cons, List.not_mem_nil, or_false] at hk
  rcases hk with rfl | rfl | rfl | rfl
  ·exact ⟨hnx p (by decide) (by decide) (by decide) (by decide) (by decide), hny p (by decide) (by decide) (by decide), lt_of_row p⟩
  ·exact ⟨hnx rs (by decide) (by decide) (by decide) (by decide) (by decide), hny rs (by decide) (by decide) (by decide), lt_of_row rs⟩
  ·exact ⟨hnx rv' (by decide) (by decide) (by decide) (by decide) (by decide), hny rv' (by decide) (by decide) (by decide), lt_of_row rv'⟩
  ·exact ⟨hnx rg (by decide) (by decide) (by decide) (by decide) (by decide), hny rg (by decide) (by decide) (by decide), lt_of_row rg⟩

open Go.RowKit Go.Maps
set_option maxRecDepth 100000

set_option maxHeartbeats 8000000 in
theorem touches_same (w : World) (a a' : Option Addr) (n c c' : Nat) (L : List Tc) (h : RdZ 5 tcE w (.slice a n c) L) (h' : RdZ 5 tcE w (.slice a' n c') L) (hn : n ≤ 100000) : Calls Tryz.prog 52 #[.slice a n c, .slice a' n c'] w fun e w' => e = .returned (.bool true) ∧ Below w.heap.size w w' := by
 have HL : Hid (L.length = n) := h.len.1
 have HR : Hid (RdZ 5 tcE w (.slice a n c) L) := h
 have HR' : Hid (RdZ 5 tcE w (.slice a' n c') L) := h'
 have HN : Hid (n ≤ 100000) := hn
 clear h h' hn
 go_enter Tryz.func52, Tryz.ntmps52
 go_wp2
 go_loopg [5, 13] n (fun kx s5 s13 wr => ∃ i : Nat, s13 = .int .i64 i ∧ i ≤ n ∧ n - i ≤ kx ∧ Hid (Below w.heap.size w wr))
 case atStart => exact ⟨0, rfl, Nat.zero_le _, by omega, Below.refl _ _⟩
 case round =>
  obtain ⟨i, rfl, hin, hkx, HW⟩ := hrel
  by_cases hlt : i < n
  ·obtain ⟨x, hx⟩ : ∃ x, L[i]? = some x := ⟨_, List.getElem?_eq_getElem (by have := HL.out; omega)⟩
   obtain ⟨b6, o6, rfl, d0, d1, d2, d3, d4⟩ := tc_cells (HR.out.below HW.out) hx
   obtain ⟨b11, o11, rfl, f0, f1, f2, f3, f4⟩ := tc_cells (HR'.out.below HW.out) hx
   have heq := fun W => neq_tc W x x
   rw [tcEq_self] at heq
   unfold tcC at heq
   have hiI : (i : Int) < (n : Int) := by omega
   have hib : (i : Int) + 1 ≤ 9223372036854775807 := by have := HN.out; unfold Hid at this; omega
   clear hx
   go_wp2
   go_quiet (fail)
   go_wp2
   go_roundg (n - (i + 1))
   case measure => omega
   case rel => exact ⟨i + 1, by rw [show ((i : Int) + 1) = ((i + 1 : Nat) : Int) by omega], by omega, by omega, thenB HW.out (belowQ _ _ _)⟩
  ·obtain rfl : n = i := by omega
   go_wp2
   go_ret
   exact ⟨rfl, HW.out⟩

set_option maxRecDepth 100000

/-- Rows that are handed in, whatever their elements. -/
theorem rows_of {H : Type} {enc : TypeId × Value → H} {W : World} {base : Nat} {held : Bool} {fuel : Nat} {a : Option Addr} {len cap : Nat} {x : DataW H × List MemPlace} {t e : TypeId} {α : Type} (k : Nat) (ec : α → List Value) (P : α → Prop) (d : α) (hk : 0 < k)
  (ht : Tryz.prog.underlying t = some (.slice e)) (hc : Tryz.prog.cellsOf e = k) (hl : ∀ x, (ec x).length = k)
  (one : ∀ (l : List Value) (n : Nat) (y : DataW H × List MemPlace), l.length = k → DataW.trod enc Tryz.prog W base (fun _ => true) held n e l = some y → ∃ p : α, P p ∧ l = ec p)
  (h : DataW.trod enc Tryz.prog W base (fun _ => true) held fuel t [.slice a len cap] = some x) : ∃ os : List α, RdZ k ec W (.slice a len cap) os ∧ ∀ o ∈ os, P o := by
 rcases Deep.open_slice ht h with ⟨hcs, _⟩ | ⟨a', l, c, m, n, D, Pl, hcs, hb, hll, hm, hmm, _, hx⟩
 ·simp at hcs
  obtain ⟨rfl, rfl, rfl⟩ := hcs
  exact ⟨[], RdZ.nil _ _ _, by simp⟩
 ·simp at hcs
  obtain ⟨rfl, rfl, rfl⟩ := hcs
  have each : ∀ i, i < len → ∃ o : α, P o ∧ ∀ j u, (ec o)[j]? = some u → W.cell? (a'.add (i * k + j)) = some u := by
   intro i hi
   obtain ⟨cs', h1, h2⟩ := hx i (by rw [hmm]; simp; omega)
   rw [hc] at h1
   obtain ⟨_, hlen, hcell⟩ := World.cells?_some h1
   obtain ⟨c, hc, er⟩ := one cs' n _ hlen h2
   refine ⟨c, hc, fun j u hu => ?_⟩
   have hj : j < k := by
    have := (List.getElem?_eq_some_iff.1 hu).1
    rw [hl] at this; exact this
   have q := hcell j hj
   rw [Deep.add_add] at q
   rw [q, er]
   exact hu
  have hin : Inhabited α := ⟨d⟩
  obtain ⟨f, hf⟩ := Deep.choose_lt each
  refine ⟨(List.range len).map f, ⟨⟨some a', cap, by simp, by simpa using hll, hm, fun hne => ?_⟩, fun c hv => by cases hv⟩, fun o ho => ?_⟩
  ·have hp : 0 < len := by
    rcases Nat.eq_zero_or_pos len with h0 | h0
    ·subst h0; simp at hne
    ·exact h0
   obtain ⟨b, off, spot⟩ := a'
   obtain ⟨u0, hu0⟩ : ∃ u0, (ec (f 0))[0]? = some u0 := ⟨_, List.getElem?_eq_getElem (by rw [hl]; exact hk)⟩
   have q0 := (hf 0 hp).2 0 _ hu0
   have hspot : spot = none := by simpa [Addr.add] using World.cell?_spot q0
   subst hspot
   have hadd : ∀ j, (⟨b, off, none⟩ : Addr).add j = ⟨b, off + j, none⟩ := fun j => by unfold Addr.add; split <;> simp_all
   rw [hadd] at q0
   refine ⟨b, off, rfl, World.block_lt_of_cell? _ _ q0, fun i x j u hi hj => ?_⟩
   have hil : i < len := by have := (List.getElem?_eq_some_iff.1 hi).1; simpa using this
   rw [List.getElem?_map, List.getElem?_range hil] at hi
   simp only [Option.map_some, Option.some.injEq] at hi
   subst hi
   have q := (hf i hil).2 j u hj
   rw [hadd, ← Nat.add_assoc] at q
   exact q
  ·obtain ⟨i, hi, rfl⟩ := List.mem_map.1 ho
   exact (hf i (List.mem_range.1 hi)).1

theorem fi_ofL {H : Type} {enc : TypeId × Value → H} {W : World} {base : Nat} {held : Bool} {fuel : Nat} {l : List Value} {x : DataW H × List MemPlace} (hlen : l.length = 2)
  (h : DataW.trod enc Tryz.prog W base (fun _ => true) held fuel 97 l = some x) : ∃ p : Int × Int, (-9223372036854775808 ≤ p.2 ∧ p.2 ≤ 9223372036854775807) ∧ l = fiE p := by
 obtain ⟨xs, k, hk, hxy, _, hxl, hf⟩ := DataW.trod_struct Tryz.underlying97 h
 have hxl : xs.length = 2 := hxl
 clear hxy hk h
 match xs, hxl, l, hlen with
 | [y0, y1], _, [v0, v1], _ =>
  have g0 : DataW.trod enc Tryz.prog W base (fun _ => true) held k 3 (([v0, v1].drop 0).take (Tryz.prog.cellsOf 3)) = some y0 := hf 0 _ rfl
  have g1 : DataW.trod enc Tryz.prog W base (fun _ => true) held k 3 (([v0, v1].drop 1).take (Tryz.prog.cellsOf 3)) = some y1 := hf 1 _ rfl
  rw [show Tryz.prog.cellsOf 3 = 1 from by kernel_rfl] at g0 g1
  simp only [List.drop_zero, List.drop_succ_cons, List.take_succ_cons, List.take_zero] at g0 g1
  obtain ⟨z0, e0, _, w0⟩ := DataW.trod_int Tryz.underlying3 g0
  obtain ⟨z1, e1, _, w1⟩ := DataW.trod_int Tryz.underlying3 g1
  simp only [List.cons.injEq, and_true] at e0 e1
  subst e0 e1
  obtain ⟨b0, b1⟩ := bounds_i64 w1
  exact ⟨(z0, z1), ⟨b0, b1⟩, rfl⟩
theorem fis_of {H : Type} {enc : TypeId × Value → H} {W : World} {base : Nat} {held : Bool} {fuel : Nat} {a : Option Addr} {len cap : Nat} {x : DataW H × List MemPlace}
  (h : DataW.trod enc Tryz.prog W base (fun _ => true) held fuel 29 [.slice a len cap] = some x) : ∃ os : List (Int × Int), RdZ 2 fiE W (.slice a len cap) os ∧ fiOk os :=
 rows_of 2 fiE (fun p => -9223372036854775808 ≤ p.2 ∧ p.2 ≤ 9223372036854775807) (0, 0) (by decide) Tryz.underlying29 (by kernel_rfl) fi_len (fun l n y hl hy => fi_ofL hl hy) h

set_option maxRecDepth 100000

/-- A call, in plain words (its fields apart). -/
structure IOp where
 d : Int
 a : Int
 b : Int
 ino : Int
structure IOpOk (o : IOp) : Prop where
 d0 : -9223372036854775808 ≤ o.d
 d1 : o.d ≤ 9223372036854775807
 a0 : -9223372036854775808 ≤ o.a
 a1 : o.a ≤ 9223372036854775807
 b0 : -9223372036854775808 ≤ o.b
 b1 : o.b ≤ 9223372036854775807
 i0 : 0 ≤ o.ino
 i1 : o.ino ≤ 4294967295
def iopC (o : IOp) (fa : Option Addr) (fn fc : Nat) : Array Value := #[.int .i64 o.d, .int .i64 o.a, .int .i64 o.b, .int .u32 o.ino, .slice fa fn fc]
structure IOpAt (w : World) (g : Nat) (o : IOp) (fa : Option Addr) (fn fc : Nat) : Prop where
 row : w.heap[g]? = some (.cells (iopC o fa fn fc) 31 (0, 0))
theorem IOpAt.below {w w' : World} {g : Nat} {o : IOp} {fa : Option Addr} {fn fc : Nat} (h : IOpAt w g o fa fn fc) (hb : Below w.heap.size w w') : IOpAt w' g o fa fn fc := ⟨(hb.block _ (lt_of_row h.row)).trans h.row⟩
theorem IOpAt.cell {w : World} {g : Nat} {o : IOp} {fa : Option Addr} {fn fc : Nat} (h : IOpAt w g o fa fn fc) (j : Nat) (v : Value) (hv : (iopC o fa fn fc)[j]? = some v) : w.cell? ⟨g, j, none⟩ = some v := by
 rw [cell_of_row _ _ _ _ _ (0, 0) h.row]; exact hv
theorem IOpAt.load {w : World} {g : Nat} {o : IOp} {fa : Option Addr} {fn fc : Nat} (h : IOpAt w g o fa fn fc) : (Instr.loadAt 31 (.pointer (some ⟨g, 0, none⟩))).run Tryz.prog w = .ok (.agg (iopC o fa fn fc)) w := by
 have := run_loadAt_mid (P := Tryz.prog) w g 0 31 (iopC o fa fn fc).toList _ (fun j u hu => by rw [cell_of_row _ _ _ _ _ (0, 0) h.row, Nat.zero_add, ← Array.getElem?_toList]; exact hu) Tryz.underlying31 rfl (by kernel_rfl)
 simpa using this

theorem iop_of {H : Type} {enc : TypeId × Value → H} {W : World} {base : Nat} {held : Bool} {fuel : Nat} {cs : Array Value} {x : DataW H × List MemPlace} (hc : cs.size = Tryz.prog.cellsOf 31)
  (h : DataW.trod enc Tryz.prog W base (fun _ => true) held fuel 31 (Value.agg cs).cells.toList = some x) : ∃ (o : IOp) (fa : Option Addr) (fn fc : Nat) (fs : List (Int × Int)), cs = iopC o fa fn fc ∧ IOpOk o ∧ RdZ 2 fiE W (.slice fa fn fc) fs ∧ fiOk fs := by
 have hlen : cs.toList.length = 5 := by rw [Array.length_toList, hc]; kernel_rfl
 have h' : DataW.trod enc Tryz.prog W base (fun _ => true) held fuel 31 cs.toList = some x := h
 obtain ⟨l⟩ := cs
 dsimp only at hlen h'
 clear h hc
 obtain ⟨xs, k, hk, hxy, _, hxl, hf⟩ := DataW.trod_struct Tryz.underlying31 h'
 have hxl : xs.length = 5 := hxl
 clear hxy hk h'
 match xs, hxl, l, hlen with
 | [y0, y1, y2, y3, y4], _, [v0, v1, v2, v3, v4], _ =>
  have g0 : DataW.trod enc Tryz.prog W base (fun _ => true) held k 3 (([v0, v1, v2, v3, v4].drop 0).take (Tryz.prog.cellsOf 3)) = some y0 := hf 0 _ rfl
  have g1 : DataW.trod enc Tryz.prog W base (fun _ => true) held k 3 (([v0, v1, v2, v3, v4].drop 1).take (Tryz.prog.cellsOf 3)) = some y1 := hf 1 _ rfl
  have g2 : DataW.trod enc Tryz.prog W base (fun _ => true) held k 3 (([v0, v1, v2, v3, v4].drop 2).take (Tryz.prog.cellsOf 3)) = some y2 := hf 2 _ rfl
  have g3 : DataW.trod enc Tryz.prog W base (fun _ => true) held k 23 (([v0, v1, v2, v3, v4].drop 3).take (Tryz.prog.cellsOf 23)) = some y3 := hf 3 _ rfl
  have g4 : DataW.trod enc Tryz.prog W base (fun _ => true) held k 29 (([v0, v1, v2, v3, v4].drop 4).take (Tryz.prog.cellsOf 29)) = some y4 := hf 4 _ rfl
  rw [show Tryz.prog.cellsOf 3 = 1 from by kernel_rfl] at g0 g1 g2
  rw [show Tryz.prog.cellsOf 23 = 1 from by kernel_rfl] at g3
  rw [show Tryz.prog.cellsOf 29 = 1 from by kernel_rfl] at g4
  simp only [List.drop_zero, List.drop_succ_cons, List.take_succ_cons, List.take_zero] at g0 g1 g2 g3 g4
  obtain ⟨z0, e0, _, w0⟩ := DataW.trod_int Tryz.underlying3 g0
  obtain ⟨z1, e1, _, w1⟩ := DataW.trod_int Tryz.underlying3 g1
  obtain ⟨z2, e2, _, w2⟩ := DataW.trod_int Tryz.underlying3 g2
  obtain ⟨z3, e3, _, w3⟩ := DataW.trod_int Tryz.underlying23 g3
  simp only [List.cons.injEq, and_true] at e0 e1 e2 e3
  subst e0 e1 e2 e3
  obtain ⟨b0, b0'⟩ := bounds_i64 w0
  obtain ⟨b1, b1'⟩ := bounds_i64 w1
  obtain ⟨b2, b2'⟩ := bounds_i64 w2
  obtain ⟨b3, b3'⟩ := bounds_u32 w3
  obtain ⟨fa, fn, fc, rfl⟩ : ∃ fa fn fc, v4 = .slice fa fn fc := by
   rcases Deep.open_slice Tryz.underlying29 g4 with ⟨hcs, _⟩ | ⟨a', l, c, m, n, D, Pl, hcs, _⟩
   ·simp at hcs; exact ⟨_, _, _, hcs⟩
   ·simp at hcs; exact ⟨_, _, _, hcs⟩
  obtain ⟨fs, f1, f2⟩ := fis_of g4
  exact ⟨⟨z0, z1, z2, z3⟩, fa, fn, fc, fs, rfl, ⟨b0, b0', b1, b1', b2, b2', b3, b3'⟩, f1, f2⟩
theorem IOpAt.c1 {w : World} {g : Nat} {d a b ino : Int} {fa : Option Addr} {fn fc : Nat} (h : IOpAt w g ⟨d, a, b, ino⟩ fa fn fc) : w.cell? ⟨g, 1, none⟩ = some (.int .i64 a) := h.cell 1 _ rfl
theorem IOpAt.c2 {w : World} {g : Nat} {d a b ino : Int} {fa : Option Addr} {fn fc : Nat} (h : IOpAt w g ⟨d, a, b, ino⟩ fa fn fc) : w.cell? ⟨g, 2, none⟩ = some (.int .i64 b) := h.cell 2 _ rfl
theorem IOpAt.c3 {w : World} {g : Nat} {d a b ino : Int} {fa : Option Addr} {fn fc : Nat} (h : IOpAt w g ⟨d, a, b, ino⟩ fa fn fc) : w.cell? ⟨g, 3, none⟩ = some (.int .u32 ino) := h.cell 3 _ rfl
theorem IOpAt.c4 {w : World} {g : Nat} {d a b ino : Int} {fa : Option Addr} {fn fc : Nat} (h : IOpAt w g ⟨d, a, b, ino⟩ fa fn fc) : w.cell? ⟨g, 4, none⟩ = some (.slice fa fn fc) := h.cell 4 _ rfl

end Go.Proofs.YtiplhhaehbjghaaGreat
