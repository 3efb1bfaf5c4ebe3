/- InLk, InN, InG, InIv, InH, InBo, InTo, InArg, InOp: in one text. -/
import Derived.Test.YtiplhhaehbjghaaGreatIX
import Derived.Test.YtiplhhaehbjghaaGreatInSx
import Derived.Test.YtiplhhaehbjghaaGreatEF
import Derived.Test.YtiplhhaehbjghaaGreatS2
import Derived.Test.YtiplhhaehbjghaaGreatVR
import Derived.Test.YtiplhhaehbjghaaGreatXV
import Derived.BigQuiet
import Derived.Deep.QuietTactic
import Derived.Test.YtiplhhaehbjghaaGreatS1
import Derived.Lib.SmallJoins
import Derived.Deep.Slices
namespace Go.Proofs.YtiplhhaehbjghaaGreat
open Go.RowKit
set_option linter.unusedVariables false
set_option maxHeartbeats 32000000
set_option maxRecDepth 100000
set_option linter.unusedSimpArgs false
open Go.RowKit Go.Maps
def mixI (i j : In4) (sum : Int) : In4 := ⟨i.k, if bF sum 1 then j.m else i.m, if bF sum 2 then j.l else i.l, if bF sum 4 then j.s else i.s⟩
def Sums (x : Int) : Prop := x = 0 ∨ x = 1 ∨ x = 2 ∨ x = 3 ∨ x = 4 ∨ x = 5 ∨ x = 6 ∨ x = 7
theorem mix0 (i j : In4) : mixI i j 0 = i := by unfold mixI; rw [if_neg (by decide), if_neg (by decide), if_neg (by decide)]
theorem wf1_mix {i n j : In4} {sum : Int} {f : Int × Int} {n' : In4} {s' : Int} (hs : Sums sum) (hn : n = mixI i j sum) (h : wf1 (some (n, sum)) f = some (n', s')) : ∃ j', wf1 (some (j, sum)) f = some (j', s') ∧ n' = mixI i j' s' ∧ Sums s' ∧ j'.k = j.k := by
 unfold wf1 at h ⊢
 dsimp only at h ⊢
 cases ha : (bits .and .i64 sum f.1 != 0) with
 | true => rw [ha] at h; cases h
 | false =>
  rw [ha] at h
  simp only [Bool.false_eq_true, if_false] at h ⊢
  have hb : ∀ m, m = f.1 → bF sum m = false := fun m e => by unfold bF; rw [e]; exact ha
  by_cases h1 : f.1 = 1
  ·rw [if_pos h1] at h ⊢
   cases h
   refine ⟨_, rfl, ?_, ?_, rfl⟩
   ·have b := hb 1 h1.symm
    subst hn
    rcases hs with rfl | rfl | rfl | rfl | rfl | rfl | rfl | rfl
    all_goals first | (exact absurd b (by decide)) | (unfold mixI; simp [show bF 0 1 = false by decide, show bF 0 2 = false by decide, show bF 0 4 = false by decide, show bF 2 1 = false by decide, show bF 2 2 = true by decide, show bF 2 4 = false by decide, show bF 4 1 = false by decide, show bF 4 2 = false by decide, show bF 4 4 = true by decide, show bF 6 1 = false by decide, show bF 6 2 = true by decide, show bF 6 4 = true by decide, show bits BinOp.or .i64 0 1 = 1 by decide, show bits BinOp.or .i64 2 1 = 3 by decide, show bits BinOp.or .i64 4 1 = 5 by decide, show bits BinOp.or .i64 6 1 = 7 by decide, show bF 1 1 = true by decide, show bF 1 2 = false by decide, show bF 1 4 = false by decide, show bF 3 1 = true by decide, show bF 3 2 = true by decide, show bF 3 4 = false by decide, show bF 5 1 = true by decide, show bF 5 2 = false by decide, show bF 5 4 = true by decide, show bF 7 1 = true by decide, show bF 7 2 = true by decide, show bF 7 4 = true by decide]; done)
   ·rcases hs with rfl | rfl | rfl | rfl | rfl | rfl | rfl | rfl <;> (unfold Sums; decide)
  rw [if_neg h1] at h ⊢
  by_cases h2 : f.1 = 2
  ·rw [if_pos h2] at h ⊢
   cases h
   refine ⟨_, rfl, ?_, ?_, rfl⟩
   ·have b := hb 2 h2.symm
    subst hn
    rcases hs with rfl | rfl | rfl | rfl | rfl | rfl | rfl | rfl
    all_goals first | (exact absurd b (by decide)) | (unfold mixI; simp [show bF 0 1 = false by decide, show bF 0 2 = false by decide, show bF 0 4 = false by decide, show bF 1 1 = true by decide, show bF 1 2 = false by decide, show bF 1 4 = false by decide, show bF 4 1 = false by decide, show bF 4 2 = false by decide, show bF 4 4 = true by decide, show bF 5 1 = true by decide, show bF 5 2 = false by decide, show bF 5 4 = true by decide, show bits BinOp.or .i64 0 2 = 2 by decide, show bits BinOp.or .i64 1 2 = 3 by decide, show bits BinOp.or .i64 4 2 = 6 by decide, show bits BinOp.or .i64 5 2 = 7 by decide, show bF 2 1 = false by decide, show bF 2 2 = true by decide, show bF 2 4 = false by decide, show bF 3 1 = true by decide, show bF 3 2 = true by decide, show bF 3 4 = false by decide, show bF 6 1 = false by decide, show bF 6 2 = true by decide, show bF 6 4 = true by decide, show bF 7 1 = true by decide, show bF 7 2 = true by decide, show bF 7 4 = true by decide]; done)
   ·rcases hs with rfl | rfl | rfl | rfl | rfl | rfl | rfl | rfl <;> (unfold Sums; decide)
  rw [if_neg h2] at h ⊢
  by_cases h4 : f.1 = 4
  ·rw [if_pos h4] at h ⊢
   cases h
   refine ⟨_, rfl, ?_, ?_, rfl⟩
   ·have b := hb 4 h4.symm
    subst hn
    rcases hs with rfl | rfl | rfl | rfl | rfl | rfl | rfl | rfl
    all_goals first | (exact absurd b (by decide)) | (unfold mixI; simp [show bF 0 1 = false by decide, show bF 0 2 = false by decide, show bF 0 4 = false by decide, show bF 1 1 = true by decide, show bF 1 2 = false by decide, show bF 1 4 = false by decide, show bF 2 1 = false by decide, show bF 2 2 = true by decide, show bF 2 4 = false by decide, show bF 3 1 = true by decide, show bF 3 2 = true by decide, show bF 3 4 = false by decide, show bits BinOp.or .i64 0 4 = 4 by decide, show bits BinOp.or .i64 1 4 = 5 by decide, show bits BinOp.or .i64 2 4 = 6 by decide, show bits BinOp.or .i64 3 4 = 7 by decide, show bF 4 1 = false by decide, show bF 4 2 = false by decide, show bF 4 4 = true by decide, show bF 5 1 = true by decide, show bF 5 2 = false by decide, show bF 5 4 = true by decide, show bF 6 1 = false by decide, show bF 6 2 = true by decide, show bF 6 4 = true by decide, show bF 7 1 = true by decide, show bF 7 2 = true by decide, show bF 7 4 = true by decide]; done)
   ·rcases hs with rfl | rfl | rfl | rfl | rfl | rfl | rfl | rfl <;> (unfold Sums; decide)
  rw [if_neg h4] at h
  cases h
theorem wf_mix {i : In4} : ∀ (fs : List (Int × Int)) {n j : In4} {sum : Int}, Sums sum → n = mixI i j sum → ∀ {n' s'}, fs.foldl wf1 (some (n, sum)) = some (n', s') → ∃ j', fs.foldl wf1 (some (j, sum)) = some (j', s') ∧ n' = mixI i j' s' ∧ Sums s' ∧ j'.k = j.k
 | [], n, j, sum, hs, hn, n', s', h => by cases h; exact ⟨j, rfl, hn, hs, rfl⟩
 | f :: fs, n, j, sum, hs, hn, n', s', h => by
  rw [List.foldl_cons] at h
  cases h1 : wf1 (some (n, sum)) f with
  | none => rw [h1, wf_none] at h; cases h
  | some p =>
   obtain ⟨n1, s1⟩ := p
   obtain ⟨j1, e1, e2, e3, e4⟩ := wf1_mix hs hn h1
   rw [h1] at h
   obtain ⟨j', a1, a2, a3, a4⟩ := wf_mix fs e3 e2 h
   exact ⟨j', by rw [List.foldl_cons, e1]; exact a1, a2, a3, a4.trans e4⟩
theorem wfR_mix {i : In4} {fs : List (Int × Int)} (h : (wfR i fs).2.2 = true) : ∃ j sum, Sums sum ∧ wfR in0 fs = (j, sum, true) ∧ wfR i fs = (mixI i j sum, sum, true) ∧ j.k = 0 := by
 unfold wfR at h ⊢
 cases h1 : wfL i fs with
 | none => rw [h1] at h; cases h
 | some p =>
  obtain ⟨n, sum⟩ := p
  obtain ⟨j, e1, e2, e3, e4⟩ := wf_mix (i := i) fs (j := in0) (.inl rfl) (mix0 i in0).symm (n := i) h1
  unfold wfL
  rw [e1]
  exact ⟨j, sum, e3, rfl, by rw [e2], e4⟩
theorem fd_same {s t : Sg} (hl : t.l = s.l) (hd : t.d = s.d) (ino : Int) : fdR t ino = fdR s ino := by unfold fdR; rw [hl, hd]
open Go.RowKit Go.Maps
structure RsAt (w : World) (x rv q : Nat) (vr vu vq : Value) (ad : Option Addr) (n cap : Nat) (M nx : Int) : Prop where
 x : w.heap[x]? = some (.cells #[.pointer (some ⟨rv, 0, none⟩), vr, vu, .int .u32 nx] 111 (0, 0))
 v : w.heap[rv]? = some (.cells #[.slice ad n cap, .pointer (some ⟨q, 0, none⟩)] 108 (0, 0))
 q : w.heap[q]? = some (.cells #[vq, .int .i64 M] 179 (0, 0))
theorem RsAt.below {w w' : World} {x rv q : Nat} {vr vu vq : Value} {ad : Option Addr} {n cap : Nat} {M nx : Int} (h : RsAt w x rv q vr vu vq ad n cap M nx) (hb : Below w.heap.size w w') : RsAt w' x rv q vr vu vq ad n cap M nx :=
 ⟨(hb.block _ (lt_of_row h.x)).trans h.x, (hb.block _ (lt_of_row h.v)).trans h.v, (hb.block _ (lt_of_row h.q)).trans h.q⟩
theorem rdnew_any (w : World) (m : Int) (hm : m ≤ 9223372036854775807) : Calls Tryz.prog 88 #[.int .i64 m] w fun e w' => e = .returned (.pointer (some ⟨w.heap.size, 0, none⟩)) ∧ w' = w.alloc (.cells #[.slice none 0 0, .int .i64 (newS m).most] 179) := by
 by_cases h0 : m < 0
 ·have hx : (newS m).most = 0 := by unfold newS; rw [show max m 0 = 0 by omega]
  rw [hx]
  go_enter Tryz.func88, Tryz.ntmps88
  go_wp2
  go_ret
  first | exact ⟨rfl, rfl⟩ | exact ⟨rfl, by rw [show max m 0 = 0 by omega]⟩
 ·have hx : (newS m).most = m := by unfold newS; rw [show max m 0 = m by omega]
  have h0' : 0 ≤ m := by omega
  rw [hx]
  clear hx
  go_enter Tryz.func88, Tryz.ntmps88
  go_wp2
  go_ret
  first | exact ⟨rfl, rfl⟩ | exact ⟨rfl, by rw [show max m 0 = m by omega]⟩
theorem rsnew_any (w : World) (ad : Option Addr) (n cap : Nat) (m : Int) (hm : m ≤ 9223372036854775807) (nx : Int) : Calls Tryz.prog 35 #[.slice ad n cap, .int .i64 m, .int .u32 nx] w fun e w' =>
  ∃ x rv q, e = .returned (.pointer (some ⟨x, 0, none⟩)) ∧ RsAt w' x rv q (.slice none 0 0) (.slice none 0 0) (.slice none 0 0) ad n cap (newS m).most nx ∧ Below w.heap.size w w' ∧ w.heap.size ≤ x ∧ w.heap.size ≤ rv ∧ w.heap.size ≤ q := by
 have cd := rdnew_any w m hm
 generalize (newS m).most = M at *
 go_enter Tryz.func35, Tryz.ntmps35
 go_wp2_with fail
 refine cd.mono ?_
 rintro e w1 ⟨rfl, rfl⟩
 clear cd
 have r1 := heap_alloc_new w (.cells #[.slice none 0 0, .int .i64 M] 179)
 have b1 := bel1 w (.cells #[.slice none 0 0, .int .i64 M] 179)
 obtain ⟨w1, hw1⟩ : ∃ w1, w.alloc (.cells #[.slice none 0 0, .int .i64 M] 179) = w1 := ⟨_, rfl⟩
 rw [hw1] at r1 b1 ⊢
 clear hw1
 have r2 := heap_alloc_new w1 (.cells #[.slice ad n cap, .pointer (some ⟨w.heap.size, 0, none⟩)] 108)
 have b2 := bel1 w1 (.cells #[.slice ad n cap, .pointer (some ⟨w.heap.size, 0, none⟩)] 108)
 obtain ⟨w2, hw2⟩ : ∃ w2, w1.alloc (.cells #[.slice ad n cap, .pointer (some ⟨w.heap.size, 0, none⟩)] 108) = w2 := ⟨_, rfl⟩
 rw [hw2] at r2 b2
 have r3 := heap_alloc_new w2 (.cells #[.pointer (some ⟨w1.heap.size, 0, none⟩), .slice none 0 0, .slice none 0 0, .int .u32 nx] 111)
 have b3 := bel1 w2 (.cells #[.pointer (some ⟨w1.heap.size, 0, none⟩), .slice none 0 0, .slice none 0 0, .int .u32 nx] 111)
 obtain ⟨w3, hw3⟩ : ∃ w3, w2.alloc (.cells #[.pointer (some ⟨w1.heap.size, 0, none⟩), .slice none 0 0, .slice none 0 0, .int .u32 nx] 111) = w3 := ⟨_, rfl⟩
 rw [hw3] at r3 b3
 have HR : Hid (RsAt w3 w2.heap.size w1.heap.size w.heap.size (.slice none 0 0) (.slice none 0 0) (.slice none 0 0) ad n cap M nx) :=
  ⟨r3, (b3.block _ (lt_of_row r2)).trans r2, ((thenB b2 b3).block _ (lt_of_row r1)).trans r1⟩
 have HB : Hid (Below w.heap.size w w3) := thenB b1 (thenB b2 b3)
 have HS : Hid (w.heap.size ≤ w1.heap.size ∧ w1.heap.size ≤ w2.heap.size) := ⟨b1.size, b2.size⟩
 clear r1 r2 r3 b1 b2 b3
 go_wp2
 go_ret
 exact ⟨_, _, _, rfl, HR.out, HB.out, Nat.le_trans HS.out.1 HS.out.2, HS.out.1, Nat.le_refl _⟩
def PrAt (w : World) (pp : Nat) (a : Sa) (x : Nat) : Prop := w.heap[pp]? = some (.cells #[.pointer (some ⟨a.s, 0, none⟩), .pointer (some ⟨a.p, 0, none⟩), .pointer (some ⟨x, 0, none⟩), .pointer (some ⟨a.g, 0, none⟩)] 51 (0, 0))
def sg0 (l : List (ByteArray × ByteArray)) (most nx : Int) : Sg := ⟨l, newS most, [], [], nx⟩
def BgOut (B : Nat) (w : World) (ad : Option Addr) (n cap : Nat) (l : List (ByteArray × ByteArray)) (most nx : Int) (e : Ending) (w' : World) : Prop :=
 ∃ pp a x X rv q, e = .returned (.pointer (some ⟨pp, 0, none⟩)) ∧ PrAt w' pp a x ∧ SgIn B w' a X (sg0 l most nx) ∧ (∀ k ∈ X, w.heap.size ≤ k) ∧ RsAt w' x rv q (.slice none 0 0) (.slice none 0 0) (.slice none 0 0) ad n cap (newS most).most nx ∧ Below w.heap.size w w' ∧
  (w.heap.size ≤ pp ∧ w.heap.size ≤ a.s ∧ w.heap.size ≤ a.v ∧ w.heap.size ≤ a.g ∧ w.heap.size ≤ x ∧ w.heap.size ≤ rv ∧ w.heap.size ≤ q)
theorem begin_in (w : World) (ad : Option Addr) (n cap : Nat) (l : List (ByteArray × ByteArray)) (hl : RdK w ad n cap l) {B : Nat} (hB : B ≤ w.heap.size) (hlB : ∀ q, 0 < n → ad = some q → q.block < B) (most : Int) (hm : most ≤ 9223372036854775807) (nx : Int) (h0 : 0 ≤ nx) (h1 : nx ≤ 4294967295) :
  Calls Tryz.prog 11 #[.slice ad n cap, .int .i64 most, .int .u32 nx] w fun e w' => BgOut B w ad n cap l most nx e w' := by
 have cd := dnew_any w most hm
 have HLB : Hid (∀ q, 0 < n → ad = some q → q.block < B) := hlB
 have HLL : Hid (RdK w ad n cap l) := hl
 clear hl
 go_enter Tryz.func11, Tryz.ntmps11
 go_wp2_with fail
 refine cd.mono ?_
 rintro e w1 ⟨rfl, hd1, hb1⟩
 clear cd
 have hb2 := bel1 w1 (.cells #[.slice ad n cap, .int .i64 (-1)] 77)
 have hs2 : SoAt (w1.alloc (.cells #[.slice ad n cap, .int .i64 (-1)] 77)) w1.heap.size ad n cap l := ⟨heap_alloc_new w1 _, (HLL.out.below hb1).below hb2⟩
 obtain ⟨w2, hw2⟩ : ∃ w2, w1.alloc (.cells #[.slice ad n cap, .int .i64 (-1)] 77) = w2 := ⟨_, rfl⟩
 rw [hw2] at hb2 hs2
 have HS2 : Hid _ := hs2
 have cx := rsnew_any w2 ad n cap most hm nx
 have HD1 : Hid (DlAt w1 (w.heap.size + 1) w.heap.size (.slice none 0 0) (newS most)) := hd1
 have HB1 : Hid (Below w.heap.size w w1) := hb1
 have HB2 : Hid (Below w1.heap.size w1 w2) := hb2
 obtain ⟨D, hD⟩ : ∃ D, newS most = D := ⟨_, rfl⟩
 rw [hD] at cx HD1
 have HDD : Hid (newS most = D) := hD
 clear hd1 hb1 hb2 hs2 hD
 go_wp2_with fail
 refine cx.mono ?_
 rintro e w3 ⟨x, rv, q, rfl, hx3, hb3, hxx⟩
 clear cx
 have HX3 : Hid _ := hx3
 have HB3 : Hid (Below w2.heap.size w2 w3) := hb3
 have HXX : Hid (w2.heap.size ≤ x ∧ w2.heap.size ≤ rv ∧ w2.heap.size ≤ q) := hxx
 clear hx3 hb3 hxx
 have cv := vnew_any w3 w1.heap.size (w.heap.size + 1)
 unfold baV at cv
 go_wp2_with fail
 refine cv.mono ?_
 rintro e w4 ⟨rfl, hv4, hb4⟩
 clear cv
 have HV4 : Hid (VwAt w4 w3.heap.size w1.heap.size (w.heap.size + 1)) := hv4
 have HB4 : Hid (Below w3.heap.size w3 w4) := hb4
 clear hv4 hb4
 have cr := new_any w4
 unfold ptr at cr
 go_wp2_with fail
 refine cr.mono ?_
 rintro e w5 ⟨rfl, hr5, hb5⟩
 clear cr
 have HR5 : Hid (SetAt w5 (w4.heap.size + 1) w4.heap.size (.slice none 0 0) []) := hr5
 have HB5 : Hid (Below w4.heap.size w4 w5) := hb5
 clear hr5 hb5
 have cu := new_any w5
 unfold ptr at cu
 go_wp2_with fail
 refine cu.mono ?_
 rintro e w6 ⟨rfl, hu6, hb6⟩
 clear cu
 have HU6 : Hid (SetAt w6 (w5.heap.size + 1) w5.heap.size (.slice none 0 0) []) := hu6
 have HB6 : Hid (Below w5.heap.size w5 w6) := hb6
 clear hu6 hb6
 have r7 := heap_alloc_new w6 (.cells #[.int .u32 nx] 23)
 have b7 := bel1 w6 (.cells #[.int .u32 nx] 23)
 obtain ⟨w7, hw7⟩ : ∃ w7, w6.alloc (.cells #[.int .u32 nx] 23) = w7 := ⟨_, rfl⟩
 rw [hw7] at r7 b7
 have HR7 : Hid _ := r7
 have HB7 : Hid _ := b7
 clear r7 b7
 go_wp2_with fail
 have r8 := heap_alloc_new w7 (.cells #[.pointer (some ⟨w3.heap.size, 0, none⟩), .pointer (some ⟨w4.heap.size + 1, 0, none⟩), .pointer (some ⟨w5.heap.size + 1, 0, none⟩), .func (.func 38) #[] #[.pointer (some ⟨w6.heap.size, 0, none⟩)]] 68)
 have b8 := bel1 w7 (.cells #[.pointer (some ⟨w3.heap.size, 0, none⟩), .pointer (some ⟨w4.heap.size + 1, 0, none⟩), .pointer (some ⟨w5.heap.size + 1, 0, none⟩), .func (.func 38) #[] #[.pointer (some ⟨w6.heap.size, 0, none⟩)]] 68)
 have z8 := World.size_alloc w7 (.cells #[.pointer (some ⟨w3.heap.size, 0, none⟩), .pointer (some ⟨w4.heap.size + 1, 0, none⟩), .pointer (some ⟨w5.heap.size + 1, 0, none⟩), .func (.func 38) #[] #[.pointer (some ⟨w6.heap.size, 0, none⟩)]] 68)
 obtain ⟨w8, hw8⟩ : ∃ w8, w7.alloc (.cells #[.pointer (some ⟨w3.heap.size, 0, none⟩), .pointer (some ⟨w4.heap.size + 1, 0, none⟩), .pointer (some ⟨w5.heap.size + 1, 0, none⟩), .func (.func 38) #[] #[.pointer (some ⟨w6.heap.size, 0, none⟩)]] 68) = w8 := ⟨_, rfl⟩
 rw [hw8] at r8 b8 z8 ⊢
 have r9 := heap_alloc_new w8 (.cells #[.pointer (some ⟨w7.heap.size, 0, none⟩), .pointer (some ⟨w.heap.size + 1, 0, none⟩), .pointer (some ⟨x, 0, none⟩), .pointer (some ⟨w1.heap.size, 0, none⟩)] 51)
 have b9 := bel1 w8 (.cells #[.pointer (some ⟨w7.heap.size, 0, none⟩), .pointer (some ⟨w.heap.size + 1, 0, none⟩), .pointer (some ⟨x, 0, none⟩), .pointer (some ⟨w1.heap.size, 0, none⟩)] 51)
 obtain ⟨w9, hw9⟩ : ∃ w9, w8.alloc (.cells #[.pointer (some ⟨w7.heap.size, 0, none⟩), .pointer (some ⟨w.heap.size + 1, 0, none⟩), .pointer (some ⟨x, 0, none⟩), .pointer (some ⟨w1.heap.size, 0, none⟩)] 51) = w9 := ⟨_, rfl⟩
 rw [hw9] at r9 b9 ⊢
 clear hw9 hw8 hw7 hw2
 go_ret
 have hb1 := HB1.out
 have hb2 := HB2.out
 have hb3 := HB3.out
 have hb4 := HB4.out
 have hb5 := HB5.out
 have hb6 := HB6.out
 have hb7 := HB7.out
 have b79 := thenB b8 b9
 have b69 := thenB hb7 b79
 have b59 := thenB hb6 b69
 have b49 := thenB hb5 b59
 have b39 := thenB hb4 b49
 have b29 := thenB hb3 b39
 have b19 := thenB hb2 b29
 have b09 := thenB hb1 b19
 have s1 := hb1.size
 have s2 := hb2.size
 have s3 := hb3.size
 have s4 := hb4.size
 have s5 := hb5.size
 have s6 := hb6.size
 have s7 := hb7.size
 have s8 := b8.size
 have s9 := b9.size
 have l5 := HR5.out.lt
 have l6 := HU6.out.lt
 have l1 := HD1.out.lt
 have l7 := lt_of_row HR7.out
 obtain ⟨x1, x2, x3⟩ := HXX.out
 refine ⟨w8.heap.size, ⟨w7.heap.size, w3.heap.size, w1.heap.size, w.heap.size + 1, w.heap.size, w4.heap.size + 1, w4.heap.size, w5.heap.size + 1, w5.heap.size, w6.heap.size⟩, x, _, rv, q, by rw [z8]; first | done | rfl, r9, ⟨.slice none 0 0, .slice none 0 0, .slice none 0 0, ?_, rfl⟩, ?_, ?_, b09, ?_⟩
 ·unfold sg0
  rw [HDD.out]
  refine ⟨(b9.block _ (lt_of_row r8)).trans r8, HV4.out.below b49, ⟨ad, n, cap, HS2.out.below b29, HLB.out⟩, HD1.out.below b19, HR5.out.below b59, HU6.out.below b69, (b79.block _ l7).trans HR7.out, h0, h1, ?_, ?_, ?_, ?_, ?_, ?_, Nat.le_trans hB b09.size⟩
  ·dsimp only; omega
  ·dsimp only; omega
  ·dsimp only; omega
  ·dsimp only; omega
  ·intro k hk; cases hk
  ·intro k hk
   rcases mine_iff.1 hk with e | e | e | e | e | e | e | e | e | e
   all_goals first | (dsimp only at e; omega) | (cases e)
 ·intro k hk
  rcases mine_iff.1 hk with e | e | e | e | e | e | e | e | e | e
  all_goals first | (dsimp only at e; omega) | (cases e)
 ·rw [HDD.out]; exact HX3.out.below b39
 ·dsimp only; omega
def FdOk (F : In4 × Int) : Prop := F.2 = 0 → inoOk F.1.k F.1.m F.1.l F.1.s = true
structure Iv (s : Sg) : Prop where
 d : DlOk s.d
 c : CksOk s.d
 ok : ∀ ino, FdOk (fdR s ino)
theorem Iv.same {s t : Sg} (h : Iv s) (hl : t.l = s.l) (hd : t.d = s.d) : Iv t := ⟨by rw [hd]; exact h.d, by rw [hd]; exact h.c, fun ino => by rw [fd_same hl hd ino]; exact h.ok ino⟩
theorem Iv.put {s : Sg} (h : Iv s) {c : Cg} (hc : CgOk c) (hr : ∀ ino, c.pl = recP ino → FdOk (fdF ino (aft (vgR s.l s.d c.pl) c))) : Iv { s with d := putS s.d c } := by
 refine ⟨putS_ok h.d hc, h.c.put c, fun ino => ?_⟩
 by_cases h0 : (putX s.d c).2 = 0
 case neg =>
  have e : putS s.d c = s.d := by unfold putS; rw [if_neg h0]
  show FdOk (fdR { s with d := putS s.d c } ino)
  rw [e]
  exact h.ok ino
 show FdOk (fdF ino (vgR s.l (putS s.d c) (recP ino)))
 rw [vg_put s.l h.d h.c hc h0]
 cases hp : plEq c.pl (recP ino) with
 | true => rw [if_pos rfl]; exact hr ino (plEq_iff.1 hp)
 | false => rw [if_neg (by simp)]; exact h.ok ino
theorem fd_gone (ino : Int) (v : It × Bool × Int) (p : Pl) : FdOk (fdF ino (aft v (goneC p))) := fun he => by
 exfalso
 have e : aft v (goneC p) = (it0, false, 0) := rfl
 rw [e] at he
 unfold fdF at he
 split at he
 ·cases he
 split at he
 ·rename_i h; exact h rfl
 split at he
 ·rename_i h; cases h
 ·cases he
theorem fd_fields {ino : Int} {v : It × Bool × Int} {sum : Int} {j : In4} (h : (fdF ino v).2 = 0 → inoOk (mixI (fdF ino v).1 j sum).k (mixI (fdF ino v).1 j sum).m (mixI (fdF ino v).1 j sum).l (mixI (fdF ino v).1 j sum).s = true) :
  FdOk (fdF ino (aft v (fieldsC (recP ino) sum j.k j.m j.l j.s))) := fun he => by
 have hA : refA (fieldsC (recP ino) sum j.k j.m j.l j.s) = false := rfl
 by_cases hv : v.2.2 = 0
 case neg =>
  rw [aft_err hA hv] at he
  unfold fdF at he
  by_cases hi : ino = 0
  ·rw [if_pos hi] at he; cases he
  ·rw [if_neg hi, if_pos hv] at he; exact absurd he hv
 rw [aft_on hA hv] at he ⊢
 by_cases hi : ino = 0
 ·unfold fdF at he; rw [if_pos hi] at he; cases he
 cases hb : v.2.1 with
 | false =>
  have e : refW v.1 v.2.1 (fieldsC (recP ino) sum j.k j.m j.l j.s) = (it0, false, 3) := by rw [hb]; rfl
  rw [e] at he
  unfold fdF at he
  rw [if_neg hi, if_pos (by decide)] at he
  cases he
 | true =>
  have e : refW v.1 true (fieldsC (recP ino) sum j.k j.m j.l j.s) = (⟨v.1.kind, wM (fieldsC (recP ino) sum j.k j.m j.l j.s) v.1.mode, wL (fieldsC (recP ino) sum j.k j.m j.l j.s) v.1.links, wS (fieldsC (recP ino) sum j.k j.m j.l j.s) v.1.size, v.1.lead, v.1.bytes⟩, true, 0) := rfl
  have hF : fdF ino v = (⟨v.1.kind, v.1.mode, v.1.links, v.1.size⟩, 0) := by
   unfold fdF
   rw [if_neg hi, if_neg (by simpa using hv), if_pos hb]
  rw [hF] at h
  rw [e]
  unfold fdF
  rw [if_neg hi, if_neg (by simp), if_pos rfl]
  exact h rfl
theorem Iv.start (l : List (ByteArray × ByteArray)) (most nx : Int) (hm : most ≤ 9223372036854775807) : Iv (sg0 l most nx) := by
 refine ⟨newS_ok hm, (fun c hc => absurd hc (by simp [sg0, newS])), fun ino he => ?_⟩
 unfold fdR at he ⊢
 have e : vgR (sg0 l most nx).l (sg0 l most nx).d (recP ino) = (stI l (recP ino), stB l (recP ino), stE l (recP ino)) := vg_new l most (recP ino)
 rw [e] at he ⊢
 unfold fdF at he ⊢
 by_cases hi : ino = 0
 ·rw [if_pos hi] at he; cases he
 rw [if_neg hi] at he ⊢
 by_cases h2 : stE l (recP ino) = 0
 case neg => rw [if_pos h2] at he; exact absurd he h2
 rw [if_neg (by simpa using h2)] at he ⊢
 cases hb : stB l (recP ino) with
 | false => rw [hb, if_neg (by simp)] at he; cases he
 | true => rw [if_pos rfl]; exact st_ok rfl hb
theorem Iv.set {s : Sg} (h : Iv s) (ino : Int) (h0 : 0 ≤ ino) (h1 : ino ≤ 4294967295) (fs : List (Int × Int)) (hf : fiOk fs) : Iv (setR s ino fs).1 := by
 unfold setR setF
 by_cases he : (fdR s ino).2 = 0
 case neg => rw [if_pos he]; exact h
 rw [if_neg (by simpa using he)]
 cases hw : (wfR (fdR s ino).1 fs).2.2 with
 | false => rw [Bool.false_and, if_pos rfl]; exact h
 | true =>
  obtain ⟨j, sum, hS, e1, e2, e3⟩ := wfR_mix hw
  have hok := wfR_ok (i := in0) hf (by exact in0_ok)
  rw [e1] at hok
  rw [e1, e2]
  dsimp only
  cases ho : inoOk (mixI (fdR s ino).1 j sum).k (mixI (fdR s ino).1 j sum).m (mixI (fdR s ino).1 j sum).l (mixI (fdR s ino).1 j sum).s with
  | false => rw [Bool.true_and, if_pos rfl]; exact h
  | true =>
   rw [if_neg (by simp)]
   split
   ·exact h
   have hp : Iv { s with d := putS s.d (fieldsC (recP ino) sum j.k j.m j.l j.s) } := h.put (fields_ok h0 h1 hok.2 hok.1) (fun i e => by
    have ei : ino = i := congrArg Pl.ino e
    subst ei
    exact fd_fields (fun _ => ho))
   split
   ·exact hp
   ·exact hp.same rfl rfl
theorem Iv.gone {s : Sg} (h : Iv s) : ∀ (ps : List Pl), (∀ p ∈ ps, PlOk p) → Iv (goneL s ps).1
 | [], hp => by unfold goneL; exact h
 | p :: ps, hp => by
  have hg : Iv (gone1 s p) := h.put (gone_ok (hp p List.mem_cons_self)) (fun ino e => fd_gone ino _ p)
  unfold goneL
  split
  ·exact hg
  ·exact Iv.gone hg ps (fun q hq => hp q (List.mem_cons_of_mem _ hq))
theorem Iv.size {s : Sg} (h : Iv s) (ino : Int) : Iv (sizeR s ino).1 := by
 unfold sizeR
 split
 ·exact h
 ·exact h.same rfl rfl
open Go.RowKit Go.Maps
theorem PrAt.c0 {w : World} {pp x : Nat} {a : Sa} (h : PrAt w pp a x) : w.cell? ⟨pp, 0, none⟩ = some (.pointer (some ⟨a.s, 0, none⟩)) := by rw [cell_of_row _ _ _ _ _ (0, 0) h]; rfl
theorem PrAt.c1 {w : World} {pp x : Nat} {a : Sa} (h : PrAt w pp a x) : w.cell? ⟨pp, 1, none⟩ = some (.pointer (some ⟨a.p, 0, none⟩)) := by rw [cell_of_row _ _ _ _ _ (0, 0) h]; rfl
theorem PrAt.c2 {w : World} {pp x : Nat} {a : Sa} (h : PrAt w pp a x) : w.cell? ⟨pp, 2, none⟩ = some (.pointer (some ⟨x, 0, none⟩)) := by rw [cell_of_row _ _ _ _ _ (0, 0) h]; rfl
theorem PrAt.c3 {w : World} {pp x : Nat} {a : Sa} (h : PrAt w pp a x) : w.cell? ⟨pp, 3, none⟩ = some (.pointer (some ⟨a.g, 0, none⟩)) := by rw [cell_of_row _ _ _ _ _ (0, 0) h]; rfl
theorem SgIn.not_pair {B : Nat} {w : World} {a : Sa} {X : List Nat} {s : Sg} (h : SgIn B w a X s) {pp x : Nat} {a' : Sa} (hp : PrAt w pp a' x) : pp ∉ X := by
 obtain ⟨vd, vr, vu, h, rfl⟩ := h
 exact h.other hp (by decide) (by decide) (by decide) (by decide) (by decide)
structure Pr (B : Nat) (w0 w : World) (pp : Nat) (a : Sa) (s : Sg) : Prop where
 ex : ∃ X x, PrAt w pp a x ∧ SgIn B w a X s
 bel : Below B w0 w
 B : B ≤ w0.heap.size
theorem Pr.c0 {B : Nat} {w0 w : World} {pp : Nat} {a : Sa} {s : Sg} (h : Pr B w0 w pp a s) : w.cell? ⟨pp, 0, none⟩ = some (.pointer (some ⟨a.s, 0, none⟩)) := by
 obtain ⟨X, x, h1, _⟩ := h.ex
 exact h1.c0
theorem Pr.below {B : Nat} {w0 w w' : World} {pp : Nat} {a : Sa} {s : Sg} (h : Pr B w0 w pp a s) (hb : Below w.heap.size w w') : Pr B w0 w' pp a s := by
 obtain ⟨X, x, h1, h2⟩ := h.ex
 exact ⟨⟨X, x, (hb.block _ (lt_of_row h1)).trans h1, h2.below hb⟩, h.bel.trans (hb.mono (Nat.le_trans h.B h.bel.size)), h.B⟩
theorem SgIn.ge {B : Nat} {w : World} {a : Sa} {X : List Nat} {s : Sg} (h : SgIn B w a X s) : ∀ k ∈ X, B ≤ k := by
 obtain ⟨vd, vr, vu, h, rfl⟩ := h
 exact h.ge
theorem Sole.belowX {X : List Nat} {B : Nat} {w w' : World} (h : Sole X w w') (hX : ∀ k ∈ X, B ≤ k) (hB : B ≤ w.heap.size) : Below B w w' :=
 ⟨h.os, h.tape, h.output, h.size, fun k hk => h.block k (by omega) (fun e => by have := hX k e; omega)⟩
theorem Pr.out {B : Nat} {w0 w w' : World} {pp : Nat} {a : Sa} {s s' : Sg} (h : Pr B w0 w pp a s) (ho : ∀ X, SgIn B w a X s → SgOut B w a X s' w') : Pr B w0 w' pp a s' := by
 obtain ⟨X, x, h1, h2⟩ := h.ex
 obtain ⟨X', k1, k2, k3⟩ := ho X h2
 exact ⟨⟨X', x, k2.row h1 (h2.not_pair h1), k1⟩, h.bel.trans (k2.belowX h2.ge (Nat.le_trans h.B h.bel.size)), h.B⟩
theorem Pr.of {w : World} {ad : Option Addr} {n cap : Nat} {l : List (ByteArray × ByteArray)} {most nx : Int} {e : Ending} {w' : World} {B : Nat} (h : BgOut B w ad n cap l most nx e w') (hB : B ≤ w.heap.size) : ∃ pp a, e = .returned (.pointer (some ⟨pp, 0, none⟩)) ∧ Pr B w w' pp a (sg0 l most nx) := by
 obtain ⟨pp, a, x, X, rv, q, rfl, h1, h2, _, _, h4, _⟩ := h
 exact ⟨pp, a, rfl, ⟨X, x, h1, h2⟩, h4.mono hB, hB⟩
theorem Pr.set {B : Nat} {w0 w : World} {pp : Nat} {a : Sa} {s : Sg} (h : Pr B w0 w pp a s) (ino : Int) (h0 : 0 ≤ ino) (h1 : ino ≤ 4294967295) (fa : Option Addr) (fn fc : Nat) (fs : List (Int × Int)) (hr : RdZ 2 fiE w (.slice fa fn fc) fs) (hn : fn ≤ 1000) (hf : fiOk fs) {N : Nat} (hk : Sk s N) (hN : N ≤ 3800) :
  Calls Tryz.prog 45 #[.pointer (some ⟨a.s, 0, none⟩), .int .u32 ino, .slice fa fn fc] w fun e w' => e = .returned (.int .i64 (setR s ino fs).2) ∧ Pr B w0 w' pp a (setR s ino fs).1 := by
 obtain ⟨X, x, p1, p2⟩ := h.ex
 refine (set_in p2 ino h0 h1 fa fn fc fs hr hn hf (Nat.le_trans hk.L (by omega)) (Nat.le_trans hk.P (by omega)) (Nat.le_trans hk.U (by omega))).mono ?_
 rintro e w' ⟨rfl, ho⟩
 obtain ⟨X', k1, k2, k3⟩ := ho
 exact ⟨rfl, ⟨X', x, k2.row p1 (p2.not_pair p1), k1⟩, h.bel.trans (k2.belowX p2.ge (Nat.le_trans h.B h.bel.size)), h.B⟩
theorem Pr.kind {B : Nat} {w0 w : World} {pp : Nat} {a : Sa} {s : Sg} (h : Pr B w0 w pp a s) (ino : Int) (h0 : 0 ≤ ino) (h1 : ino ≤ 4294967295) :
  Calls Tryz.prog 25 #[.pointer (some ⟨a.s, 0, none⟩), .int .u32 ino] w fun e w' => e = .returned (.tuple #[.int .i64 (fdR s ino).1.k, .int .i64 (fdR s ino).2]) ∧ Pr B w0 w' pp a s := by
 obtain ⟨X, x, p1, p2⟩ := h.ex
 refine (kind_in p2 ino h0 h1).mono ?_
 rintro e w' ⟨rfl, hb⟩
 exact ⟨rfl, h.below hb⟩
theorem sk0 (l : List (ByteArray × ByteArray)) (most nx : Int) : Sk (sg0 l most nx) 0 := ⟨(fun c hc => absurd hc (by simp [sg0, newS])), Nat.le_refl _, Nat.le_refl _, Nat.le_refl _, Nat.le_refl _⟩
def v0 : Sg := sg0 [] 60 2
def v1 : Sg := (makR v0 1 6).1
def v2 : Sg := (lkR v1 2 1).1
def v3 : Sg := (lkR v2 2 (-2)).1
open Go.RowKit Go.Maps
structure Bo (B : Nat) (w0 w : World) (pp : Nat) (a : Sa) (x : Nat) (Z : List Nat) (s t : Sg) : Prop where
 ex : ∃ X Y, PrAt w pp a x ∧ SgIn B w a X s ∧ XsIn B w x Y t ∧ (∀ k ∈ X, k ∉ Y) ∧ ∀ k ∈ pp :: a.s :: a.v :: a.g :: Z, k ∉ X ∧ k ∉ Y ∧ k < w.heap.size
 bel : Below B w0 w
 B : B ≤ w0.heap.size
def KeepZ (Z : List Nat) (w w' : World) : Prop := ∀ k ∈ Z, w'.heap[k]? = w.heap[k]?
theorem Bo.c0 {B : Nat} {w0 w : World} {pp : Nat} {a : Sa} {x : Nat} {Z : List Nat} {s t : Sg} (h : Bo B w0 w pp a x Z s t) : w.cell? ⟨pp, 0, none⟩ = some (.pointer (some ⟨a.s, 0, none⟩)) := by
 obtain ⟨X, Y, p, _⟩ := h.ex
 exact p.c0
theorem Bo.row {B : Nat} {w0 w : World} {pp : Nat} {a : Sa} {x : Nat} {Z : List Nat} {s t : Sg} (h : Bo B w0 w pp a x Z s t) : PrAt w pp a x := by
 obtain ⟨X, Y, p, _⟩ := h.ex
 exact p
theorem Bo.c1 {B : Nat} {w0 w : World} {pp : Nat} {a : Sa} {x : Nat} {Z : List Nat} {s t : Sg} (h : Bo B w0 w pp a x Z s t) : w.cell? ⟨pp, 1, none⟩ = some (.pointer (some ⟨a.p, 0, none⟩)) := by
 rw [cell_of_row _ _ _ _ _ (0, 0) h.row]; rfl
theorem Bo.c2 {B : Nat} {w0 w : World} {pp : Nat} {a : Sa} {x : Nat} {Z : List Nat} {s t : Sg} (h : Bo B w0 w pp a x Z s t) : w.cell? ⟨pp, 2, none⟩ = some (.pointer (some ⟨x, 0, none⟩)) := by
 rw [cell_of_row _ _ _ _ _ (0, 0) h.row]; rfl
theorem Bo.below {B : Nat} {w0 w w' : World} {pp : Nat} {a : Sa} {x : Nat} {Z : List Nat} {s t : Sg} (h : Bo B w0 w pp a x Z s t) (hb : Below w.heap.size w w') : Bo B w0 w' pp a x Z s t := by
 obtain ⟨X, Y, p, g1, g2, hd, hz⟩ := h.ex
 exact ⟨⟨X, Y, (hb.block _ (lt_of_row p)).trans p, g1.below hb, g2.below hb, hd, fun k hk => ⟨(hz k hk).1, (hz k hk).2.1, Nat.lt_of_lt_of_le (hz k hk).2.2 hb.size⟩⟩, h.bel.trans (hb.mono (Nat.le_trans h.B h.bel.size)), h.B⟩
theorem Bo.sub {B : Nat} {w0 w : World} {pp : Nat} {a : Sa} {x : Nat} {Z Z' : List Nat} {s t : Sg} (h : Bo B w0 w pp a x Z s t) (hs : ∀ k ∈ Z', k ∈ Z) : Bo B w0 w pp a x Z' s t := by
 obtain ⟨X, Y, p, g1, g2, hd, hz⟩ := h.ex
 exact ⟨⟨X, Y, p, g1, g2, hd, fun k hk => hz k (by
  simp only [List.mem_cons] at hk ⊢
  rcases hk with e | e | e | e | e
  ·exact .inl e
  ·exact .inr (.inl e)
  ·exact .inr (.inr (.inl e))
  ·exact .inr (.inr (.inr (.inl e)))
  ·exact .inr (.inr (.inr (.inr (hs k e)))))⟩, h.bel, h.B⟩
theorem Bo.add {B : Nat} {w0 w w' : World} {pp : Nat} {a : Sa} {x : Nat} {Z : List Nat} {s t : Sg} (h : Bo B w0 w pp a x Z s t) (hb : Below w.heap.size w w') {g : Nat} (hg : w.heap.size ≤ g) (hg' : g < w'.heap.size) : Bo B w0 w' pp a x (g :: Z) s t := by
 obtain ⟨X, Y, p, g1, g2, hd, hz⟩ := (h.below hb).ex
 obtain ⟨X0, Y0, q, f1, f2, fd, fz⟩ := h.ex
 refine ⟨⟨X0, Y0, (hb.block _ (lt_of_row q)).trans q, f1.below hb, f2.below hb, fd, fun k hk => ?_⟩, (h.below hb).bel, h.B⟩
 simp only [List.mem_cons] at hk
 have old : k ∈ pp :: a.s :: a.v :: a.g :: Z → k ∉ X0 ∧ k ∉ Y0 ∧ k < w'.heap.size := fun hk => ⟨(fz k hk).1, (fz k hk).2.1, Nat.lt_of_lt_of_le (fz k hk).2.2 hb.size⟩
 rcases hk with e | e | e | e | e | e
 ·exact old (by simp [e])
 ·exact old (by simp [e])
 ·exact old (by simp [e])
 ·exact old (by simp [e])
 ·subst e
  exact ⟨fun hm => by have := f1.lt _ hm; omega, fun hm => by have := (f2.lt _ hm).1; omega, hg'⟩
 ·exact old (by simp [e])
theorem Bo.callS {B : Nat} {w0 w : World} {pp : Nat} {a : Sa} {x : Nat} {Z : List Nat} {s t s' : Sg} (h : Bo B w0 w pp a x Z s t) {f : FuncId} {args : Array Value} {R : Ending → Prop} (hc : ∀ X, SgIn B w a X s → Calls Tryz.prog f args w fun e w' => R e ∧ SgOut B w a X s' w') :
  Calls Tryz.prog f args w fun e w' => R e ∧ Bo B w0 w' pp a x Z s' t ∧ KeepZ Z w w' := by
 obtain ⟨X, Y, p, g1, g2, hd, hz⟩ := h.ex
 refine (hc X g1).mono ?_
 rintro e w' ⟨hR, X', k1, k2, k3⟩
 refine ⟨hR, ⟨⟨X', Y, k2.row p (hz pp (by simp)).1, k1, g2.keep k2.size (fun k hk hh => k2.block k hk (fun hx => ?_)), fun k hk hy => ?_, fun k hk => ?_⟩, h.bel.trans (k2.belowX g1.ge (Nat.le_trans h.B h.bel.size)), h.B⟩, fun k hk => ?_⟩
 ·rcases hh with e | e
  ·have := g1.ge k hx; omega
  ·exact hd k hx e
 ·rcases k3 k hk with e | e
  ·exact hd k e hy
  ·have := (g2.lt k hy).1; omega
 ·obtain ⟨z1, z2, z3⟩ := hz k hk
  refine ⟨fun hm => ?_, z2, Nat.lt_of_lt_of_le z3 k2.size⟩
  rcases k3 k hm with e | e
  ·exact z1 e
  ·omega
 ·obtain ⟨z1, z2, z3⟩ := hz k (by simp [hk])
  exact k2.block k z3 z1
theorem Bo.callX {B : Nat} {w0 w : World} {pp : Nat} {a : Sa} {x : Nat} {Z : List Nat} {s t t' : Sg} (h : Bo B w0 w pp a x Z s t) {f : FuncId} {args : Array Value} {R : Ending → Prop} (hc : ∀ Y, XsIn B w x Y t → (∀ k ∈ Z, k ∉ Y) → Calls Tryz.prog f args w fun e w' => R e ∧ XsOut B w x Y t' w') :
  Calls Tryz.prog f args w fun e w' => R e ∧ Bo B w0 w' pp a x Z s t' ∧ KeepZ Z w w' := by
 obtain ⟨X, Y, p, g1, g2, hd, hz⟩ := h.ex
 refine (hc Y g2 (fun k hk => (hz k (by simp [hk])).2.1)).mono ?_
 rintro e w' ⟨hR, Y', k1, k2, k3⟩
 refine ⟨hR, ⟨⟨X, Y', k2.row p (hz pp (by simp)).2.1, g1.keep k2.size (fun k hk hh => k2.block k hk (fun hx => ?_)), k1, fun k hk hy => ?_, fun k hk => ?_⟩, h.bel.trans (k2.belowX (fun k hk => (g2.lt k hk).2) (Nat.le_trans h.B h.bel.size)), h.B⟩, fun k hk => ?_⟩
 ·rcases hh with e | e | e | e | e
  ·have := (g2.lt k hx).2; omega
  ·exact hd k e hx
  ·exact (hz a.s (by simp)).2.1 (e ▸ hx)
  ·exact (hz a.v (by simp)).2.1 (e ▸ hx)
  ·exact (hz a.g (by simp)).2.1 (e ▸ hx)
 ·rcases k3 k hy with e | e
  ·exact hd k hk e
  ·have := g1.lt k hk; omega
 ·obtain ⟨z1, z2, z3⟩ := hz k hk
  refine ⟨z1, fun hm => ?_, Nat.lt_of_lt_of_le z3 k2.size⟩
  rcases k3 k hm with e | e
  ·exact z2 e
  ·omega
 ·obtain ⟨z1, z2, z3⟩ := hz k (by simp [hk])
  exact k2.block k z3 z2
theorem not_row {w : World} {i j : Nat} {cs cs' : Array Value} {T T' : TypeId} {fr fr' : Nat × Nat} (h : w.heap[i]? = some (.cells cs T fr)) (h' : w.heap[j]? = some (.cells cs' T' fr')) (ht : T ≠ T') : i ≠ j := fun e => by
 subst e
 rw [h] at h'
 simp only [Option.some.injEq, Obj.cells.injEq] at h'
 exact ht h'.2.1
theorem Bo.of {w : World} {ad : Option Addr} {n cap : Nat} {l : List (ByteArray × ByteArray)} {most nx : Int} {e : Ending} {w' : World} {B : Nat} (h : BgOut B w ad n cap l most nx e w') (hB : B ≤ w.heap.size) (hl : RdK w ad n cap l) (hlB : ∀ q, 0 < n → ad = some q → q.block < B) (hm : most ≤ 9223372036854775807) (h0 : 0 ≤ nx) (h1 : nx ≤ 4294967295) :
  ∃ pp a x, e = .returned (.pointer (some ⟨pp, 0, none⟩)) ∧ Bo B w w' pp a x [] (sg0 l most nx) (sg0 l most nx) := by
 obtain ⟨pp, a, x, X, rv, q, rfl, p, g, hX, hr, hb, b1, b2, b3, b4, b5, b6, b7⟩ := h
 have hx : XsIn B w' x [x, rv, q] (sg0 l most nx) := by
  refine ⟨rv, q, .slice none 0 0, .slice none 0 0, .slice none 0 0, ⟨hr.x, ⟨ad, n, cap, ⟨hr.v⟩, hl.below hb, hlB⟩, ⟨[], ⟨⟨hr.q, ⟨rfl, .inl ⟨rfl, rfl⟩⟩, by simp⟩, Rel.new _, newS_ok hm⟩⟩, RdZ.nil _ _ _, RdZ.nil _ _ _, h0, h1, fun k e => ?_, ⟨by omega, by omega, by omega⟩⟩, rfl⟩
  rcases e with e | e | e <;> cases e
 have hnx : ∀ {k : Nat} {cs : Array Value} {T : TypeId} {fr : Nat × Nat}, w'.heap[k]? = some (.cells cs T fr) → T ≠ 140 → T ≠ 208 → T ≠ 153 → T ≠ 73 → T ≠ 23 → k ∉ X := fun hk t1 t2 t3 t4 t5 => by
  obtain ⟨vd, vr, vu, g, rfl⟩ := g
  exact g.other hk t1 t2 t3 t4 t5
 have hny : ∀ {k : Nat} {cs : Array Value} {T : TypeId} {fr : Nat × Nat}, w'.heap[k]? = some (.cells cs T fr) → T ≠ 111 → T ≠ 108 → T ≠ 179 → k ∉ [x, rv, q] := fun hk t1 t2 t3 hm => by
  simp only [List.mem_cons, List.not_mem_nil, or_false] at hm
  rcases hm with e | e | e
  ·exact not_row hk hr.x t1 e
  ·exact not_row hk hr.v t2 e
  ·exact not_row hk hr.q t3 e
 obtain ⟨vd, vr, vu, g', eX⟩ := g
 obtain ⟨ad', n', cap', hS, _⟩ := g'.so
 have rs := g'.sr
 have rv' := g'.vw.row
 have rg := hS.row
 refine ⟨pp, a, x, rfl, ⟨X, [x, rv, q], p, ⟨vd, vr, vu, g', eX⟩, hx, fun k hk hy => ?_, fun k hk => ?_⟩, hb.mono hB, hB⟩
 ·simp only [List.mem_cons, List.not_mem_nil, or_false] at hy
  rcases hy with e | e | e
  ·subst e; exact hnx hr.x (by decide) (by decide) (by decide) (by decide) (by decide) hk
  ·subst e; exact hnx hr.v (by decide) (by decide) (by decide) (by decide) (by decide) hk
  ·subst e; exact hnx hr.q (by decide) (by decide) (by decide) (by decide) (by decide) hk
 ·simp only [List.mem_cons, List.not_mem_nil, or_false] at hk
  rcases hk with rfl | rfl | rfl | rfl
  ·exact ⟨hnx p (by decide) (by decide) (by decide) (by decide) (by decide), hny p (by decide) (by decide) (by decide), lt_of_row p⟩
  ·exact ⟨hnx rs (by decide) (by decide) (by decide) (by decide) (by decide), hny rs (by decide) (by decide) (by decide), lt_of_row rs⟩
  ·exact ⟨hnx rv' (by decide) (by decide) (by decide) (by decide) (by decide), hny rv' (by decide) (by decide) (by decide), lt_of_row rv'⟩
  ·exact ⟨hnx rg (by decide) (by decide) (by decide) (by decide) (by decide), hny rg (by decide) (by decide) (by decide), lt_of_row rg⟩
open Go.RowKit Go.Maps
theorem touches_same (w : World) (a a' : Option Addr) (n c c' : Nat) (L : List Tc) (h : RdZ 5 tcE w (.slice a n c) L) (h' : RdZ 5 tcE w (.slice a' n c') L) (hn : n ≤ 100000) : Calls Tryz.prog 52 #[.slice a n c, .slice a' n c'] w fun e w' => e = .returned (.bool true) ∧ Below w.heap.size w w' := by
 have HL : Hid (L.length = n) := h.len.1
 have HR : Hid (RdZ 5 tcE w (.slice a n c) L) := h
 have HR' : Hid (RdZ 5 tcE w (.slice a' n c') L) := h'
 have HN : Hid (n ≤ 100000) := hn
 clear h h' hn
 go_enter Tryz.func52, Tryz.ntmps52
 go_wp2
 go_loopg [5, 13] n (fun kx s5 s13 wr => ∃ i : Nat, s13 = .int .i64 i ∧ i ≤ n ∧ n - i ≤ kx ∧ Hid (Below w.heap.size w wr))
 case atStart => exact ⟨0, rfl, Nat.zero_le _, by omega, Below.refl _ _⟩
 case round =>
  obtain ⟨i, rfl, hin, hkx, HW⟩ := hrel
  by_cases hlt : i < n
  ·obtain ⟨x, hx⟩ : ∃ x, L[i]? = some x := ⟨_, List.getElem?_eq_getElem (by have := HL.out; omega)⟩
   obtain ⟨b6, o6, rfl, d0, d1, d2, d3, d4⟩ := tc_cells (HR.out.below HW.out) hx
   obtain ⟨b11, o11, rfl, f0, f1, f2, f3, f4⟩ := tc_cells (HR'.out.below HW.out) hx
   have heq := fun W => neq_tc W x x
   rw [tcEq_self] at heq
   unfold tcC at heq
   have hiI : (i : Int) < (n : Int) := by omega
   have hib : (i : Int) + 1 ≤ 9223372036854775807 := by have := HN.out; unfold Hid at this; omega
   clear hx
   go_wp2
   go_quiet (fail)
   go_wp2
   go_roundg (n - (i + 1))
   case measure => omega
   case rel => exact ⟨i + 1, by rw [show ((i : Int) + 1) = ((i + 1 : Nat) : Int) by omega], by omega, by omega, thenB HW.out (belowQ _ _ _)⟩
  ·obtain rfl : n = i := by omega
   go_wp2
   go_ret
   exact ⟨rfl, HW.out⟩
structure IOp where
 d : Int
 a : Int
 b : Int
 ino : Int
structure IOpOk (o : IOp) : Prop where
 d0 : -9223372036854775808 ≤ o.d
 d1 : o.d ≤ 9223372036854775807
 a0 : -9223372036854775808 ≤ o.a
 a1 : o.a ≤ 9223372036854775807
 b0 : -9223372036854775808 ≤ o.b
 b1 : o.b ≤ 9223372036854775807
 i0 : 0 ≤ o.ino
 i1 : o.ino ≤ 4294967295
def iopC (o : IOp) (fa : Option Addr) (fn fc : Nat) : Array Value := #[.int .i64 o.d, .int .i64 o.a, .int .i64 o.b, .int .u32 o.ino, .slice fa fn fc]
structure IOpAt (w : World) (g : Nat) (o : IOp) (fa : Option Addr) (fn fc : Nat) : Prop where
 row : w.heap[g]? = some (.cells (iopC o fa fn fc) 31 (0, 0))
theorem IOpAt.below {w w' : World} {g : Nat} {o : IOp} {fa : Option Addr} {fn fc : Nat} (h : IOpAt w g o fa fn fc) (hb : Below w.heap.size w w') : IOpAt w' g o fa fn fc := ⟨(hb.block _ (lt_of_row h.row)).trans h.row⟩
theorem IOpAt.cell {w : World} {g : Nat} {o : IOp} {fa : Option Addr} {fn fc : Nat} (h : IOpAt w g o fa fn fc) (j : Nat) (v : Value) (hv : (iopC o fa fn fc)[j]? = some v) : w.cell? ⟨g, j, none⟩ = some v := by
 rw [cell_of_row _ _ _ _ _ (0, 0) h.row]; exact hv
theorem IOpAt.load {w : World} {g : Nat} {o : IOp} {fa : Option Addr} {fn fc : Nat} (h : IOpAt w g o fa fn fc) : (Instr.loadAt 31 (.pointer (some ⟨g, 0, none⟩))).run Tryz.prog w = .ok (.agg (iopC o fa fn fc)) w := by
 have := run_loadAt_mid (P := Tryz.prog) w g 0 31 (iopC o fa fn fc).toList _ (fun j u hu => by rw [cell_of_row _ _ _ _ _ (0, 0) h.row, Nat.zero_add, ← Array.getElem?_toList]; exact hu) Tryz.underlying31 rfl (by kernel_rfl)
 simpa using this
theorem IOpAt.c1 {w : World} {g : Nat} {d a b ino : Int} {fa : Option Addr} {fn fc : Nat} (h : IOpAt w g ⟨d, a, b, ino⟩ fa fn fc) : w.cell? ⟨g, 1, none⟩ = some (.int .i64 a) := h.cell 1 _ rfl
theorem IOpAt.c2 {w : World} {g : Nat} {d a b ino : Int} {fa : Option Addr} {fn fc : Nat} (h : IOpAt w g ⟨d, a, b, ino⟩ fa fn fc) : w.cell? ⟨g, 2, none⟩ = some (.int .i64 b) := h.cell 2 _ rfl
theorem IOpAt.c3 {w : World} {g : Nat} {d a b ino : Int} {fa : Option Addr} {fn fc : Nat} (h : IOpAt w g ⟨d, a, b, ino⟩ fa fn fc) : w.cell? ⟨g, 3, none⟩ = some (.int .u32 ino) := h.cell 3 _ rfl
theorem IOpAt.c4 {w : World} {g : Nat} {d a b ino : Int} {fa : Option Addr} {fn fc : Nat} (h : IOpAt w g ⟨d, a, b, ino⟩ fa fn fc) : w.cell? ⟨g, 4, none⟩ = some (.slice fa fn fc) := h.cell 4 _ rfl
end Go.Proofs.YtiplhhaehbjghaaGreat
