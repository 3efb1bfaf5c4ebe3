/- Proved: an inode whose size is another one tells the same of all but its size, and Kind reads nothing. -/
import Derived.Test.YtkmckipfjahlcaaGreatInT
import Derived.Test.YtkmckipfjahlcaaGreatInN
import Derived.Test.YtkmckipfjahlcaaGreatVwRis
import Derived.Test.YtkmckipfjahlcaaGreatVwArg
import Derived.Deep.RegionHeld3
import Derived.BigQuiet
import Derived.Deep.QuietTactic
import Derived.WalkSmall
import Derived.ProofKit
import Derived.OpenShut
import Derived.ShutString
import Derived.ChangeOld
import Derived.Below
import Derived.Carry
import Derived.Deep.CutRange
import Derived.Deep.CutBlock
namespace Go.Proofs.YtkmckipfjahlcaaGreat.inodeReads
open Go.ChangeShapes Go.WideShapes Go.ChangeAt Go.RowKit
open Go.ChangeMaps (open_string shut_string)
set_option linter.unusedVariables false
set_option linter.unusedSimpArgs false

theorem own : ownKnob Tryz.prog.godebug = none := by kernel_rfl
theorem laidOut : laidOutB Tryz.prog = true := by kernel_rfl

set_option maxRecDepth 100000 in
set_option maxHeartbeats 16000000 in
theorem walk (ad : Option Addr) (len cap : Nat) (l : List (ByteArray × ByteArray)) (ino z : Int) (w : World) (hl : RdK w ad len cap l) (hlo : KvsOk l) (hi : (Lit.int .u32 ino).wf = true) (hz : (Lit.int .i64 z).wf = true) : Calls Tryz.prog 4 #[.slice ad len cap, .int .u32 ino, .int .i64 z] w fun e w' => e = .returned (.bool true) ∧ Below w.heap.size w w' := by
  obtain ⟨i0, i1⟩ := bounds_u32 hi
  obtain ⟨z0, z1⟩ := bounds_i64 hz
  clear hi hz hlo
  have HLB : Hid (∀ q, 0 < len → ad = some q → q.block < w.heap.size) := fun q hp e => by
    obtain ⟨b, off, e', hlt, _⟩ := hl.2.2.2 hp
    rw [e] at e'; cases e'; exact hlt
  have HL : Hid (RdK w ad len cap l) := hl
  clear hl
  go_enter Tryz.func4, Tryz.ntmps4
  have cv := live_any w
  go_wp2_with fail
  refine cv.mono ?_
  rintro e w1 ⟨rfl, hb1⟩
  clear cv
  have cr := rising_any w1 ad len cap l (HL.out.below hb1)
  have HB1 : Hid (Below w.heap.size w w1) := hb1
  clear hb1
  go_wp2_with fail
  refine cr.mono ?_
  rintro e w2 ⟨rv, rfl, ⟨rb, rfl, hris⟩, hb2⟩
  clear cr
  have HB2 : Hid (Below w.heap.size w w2) := thenB HB1.out hb2
  clear hris hb2
  cases rb
  · go_wp2
    go_ret
    exact ⟨rfl, HB2.out⟩
  have cb := begin_in w2 ad len cap l (HL.out.below HB2.out) (B := w.heap.size) HB2.out.size HLB.out 64 (by decide) 100 (by decide) (by decide)
  go_wp2_with fail
  refine cb.mono ?_
  intro e w3 hbg
  have hbb : Below w2.heap.size w2 w3 := by obtain ⟨pp, a, x, X, rv, q, _, _, _, _, _, hb, _⟩ := hbg; exact hb
  obtain ⟨pp, a, rfl, hp3⟩ := Pr.of hbg HB2.out.size
  have HB3 : Hid (Below w.heap.size w w3) := thenB HB2.out hbb
  have HP3 : Hid (Pr w.heap.size w2 w3 pp a (sg0 l 64 100)) := hp3
  clear cb hbg hbb hp3
  have cb := begin_in w3 ad len cap l (HL.out.below HB3.out) (B := w.heap.size) HB3.out.size HLB.out 64 (by decide) 100 (by decide) (by decide)
  go_wp2_with fail
  refine cb.mono ?_
  intro e w4 hbg
  obtain ⟨pq, b, rfl, hT⟩ := Tw.of HP3.out hbg
  have HT4 : Hid (Tw w.heap.size w2 w4 pp a (sg0 l 64 100) pq b (sg0 l 64 100)) := hT
  obtain ⟨S, hS⟩ : ∃ S, sg0 l 64 100 = S := ⟨_, rfl⟩
  have HK : Hid (Sk S 0) := by unfold Hid; rw [← hS]; exact sk0 _ _ _
  have HSE : Hid (S.d.L = [] ∧ S.R = []) := by unfold Hid; rw [← hS]; exact ⟨rfl, rfl⟩
  rw [hS] at HT4
  clear cb hbg hT HP3 HB3 hS
  have hb5 := bel1 w4 (.cells #[.int .i64 4, .int .i64 z] 43)
  have hr5 := rd_fi w4 (4, z)
  obtain ⟨w5, hw5⟩ : ∃ w5, w4.alloc (.cells #[.int .i64 4, .int .i64 z] 43) = w5 := ⟨_, rfl⟩
  dsimp only at hr5
  rw [hw5] at hb5 hr5
  have hT5 := (HT4.out.below hb5).swap
  have cs := hT5.call (s' := (setR S ino [(4, z)]).1) (R := fun e => e = .returned (.int .i64 (setR S ino [(4, z)]).2)) (fun X g => set_in g ino i0 i1 _ _ _ [(4, z)] hr5 (by decide) (by intro f hf; simp at hf; subst hf; dsimp only; omega) (by have := HK.out.L; omega) (by have := HK.out.P; omega) (by have := HK.out.U; omega))
  have q0 := HT4.out.swap.c0
  clear hb5 hr5 hT5 HT4
  go_wp2_with fail
  refine cs.mono ?_
  rintro e w6 ⟨rfl, hT6⟩
  clear cs q0
  obtain ⟨k, m, ln, sz, sz', er, hF, hG, hTR, hcase⟩ := size_first HSE.out.1 HSE.out.2 ino z
  have HKT : Hid (Sk (setR S ino [(4, z)]).1 4) := HK.out.set ino _
  have HSR : Hid (S.R = []) := HSE.out.2
  generalize hTT : setR S ino [(4, z)] = TT at *
  obtain ⟨T, f⟩ := TT
  dsimp only at hT6 hG hTR hcase HKT ⊢
  have HTR : Hid (T.R = []) := hTR
  have HT6 : Hid (Tw w.heap.size w2 w6 pq b T pp a S) := hT6
  have HF : Hid (fdR S ino = (⟨k, m, ln, sz⟩, er)) := hF
  have HG : Hid (fdR T ino = (⟨k, m, ln, sz'⟩, er)) := hG
  have HC : Hid ((f ≠ 0 ∧ sz' = sz) ∨ (f = 0 ∧ sz' = z ∧ er = 0)) := hcase
  have ck := HT6.out.swap.tell (R := fun e => e = .returned (.tuple #[.int .i64 (fdR S ino).1.k, .int .i64 (fdR S ino).2])) (fun X g => kind_in g ino i0 i1)
  rw [hF] at ck
  have q0 := HT6.out.swap.c0
  clear hTT hT6 hF hG hTR hcase HSE HK
  go_wp2_with fail
  refine ck.mono ?_
  rintro e w7 ⟨rfl, hT7⟩
  clear ck q0
  have HT7 : Hid (Tw w.heap.size w2 w7 pp a S pq b T) := hT7
  have ck := HT7.out.swap.tell (R := fun e => e = .returned (.tuple #[.int .i64 (fdR T ino).1.k, .int .i64 (fdR T ino).2])) (fun X g => kind_in g ino i0 i1)
  rw [HG.out] at ck
  have q0 := HT7.out.swap.c0
  clear hT7
  go_wp2_with fail
  refine ck.mono ?_
  rintro e w8 ⟨rfl, hT8⟩
  clear ck q0 HT7 HT6
  have HT8 : Hid (Tw w.heap.size w2 w8 pp a S pq b T) := hT8.swap
  have hT8' := HT8.out.drew
  clear hT8
  have u1 : ∀ W, Tw w.heap.size w2 W pp a S pq b T → W.cell? ⟨pp, 0, none⟩ = some (.pointer (some ⟨a.s, 0, none⟩)) := fun W h => h.c0
  have u2 : ∀ W, Tw w.heap.size w2 W pp a S pq b T → W.cell? ⟨pq, 0, none⟩ = some (.pointer (some ⟨b.s, 0, none⟩)) := fun W h => h.swap.c0
  have u3 : ∀ W, Tw w.heap.size w2 W pp a S pq b T → W.cell? ⟨a.s, 1, none⟩ = some (.pointer (some ⟨a.r, 0, none⟩)) := fun W h => h.r1
  have u4 : ∀ W, Tw w.heap.size w2 W pp a S pq b T → W.cell? ⟨b.s, 1, none⟩ = some (.pointer (some ⟨b.r, 0, none⟩)) := fun W h => h.swap.r1
  have m1 : ∀ W, Tw w.heap.size w2 W pp a S pq b T → Calls Tryz.prog 15 #[.pointer (some ⟨a.r, 0, none⟩)] W fun e w' => e = .returned (.int .i64 0) ∧ W = w' := fun W h => by have := h.mark; rw [HSR.out] at this; exact this
  have m2 : ∀ W, Tw w.heap.size w2 W pp a S pq b T → Calls Tryz.prog 15 #[.pointer (some ⟨b.r, 0, none⟩)] W fun e w' => e = .returned (.int .i64 0) ∧ W = w' := fun W h => by have := h.swap.mark; rw [HTR.out] at this; exact this
  go_wp2_with fail
  refine wp_region_noPanic ?_
  go_region_held (fun W => Tw w.heap.size w2 W pp a S pq b T) (first | assumption | exact Tw.drew (by assumption))
    (first | (go_at_call 15; refine (m1 _ (by assumption)).mono ?_; rintro e w9 ⟨rfl, rfl⟩) | (go_at_call 15; refine (m2 _ (by assumption)).mono ?_; rintro e w9 ⟨rfl, rfl⟩))
  refine NoPanic.normal ?_
  clear u1 u2 u3 u4 m1 m2 hT8'
  have hT9 : Tw w.heap.size w2 w8.drew pp a S pq b T := HT8.out.drew
  obtain ⟨w9, hw9⟩ : ∃ w9, w8.drew = w9 := ⟨_, rfl⟩
  rw [hw9] at hT9 ⊢
  have HT9 : Hid (Tw w.heap.size w2 w9 pp a S pq b T) := hT9
  clear hw9 HT8 hT9
  by_cases he : er = 0
  · subst he
    have hst : statR S ino = ({ S with R := addK S.R ino [1, 2, 3] }, ⟨k, m, ln, sz⟩, 0) := by unfold statR; rw [HF.out, if_neg (by simp)]
    have htt : statR T ino = ({ T with R := addK T.R ino [1, 2, 3] }, ⟨k, m, ln, sz'⟩, 0) := by unfold statR; rw [HG.out, if_neg (by simp)]
    have cs := HT9.out.call (s' := (statR S ino).1) (R := fun e => e = .returned (.tuple #[inV (statR S ino).2.1, .int .i64 (statR S ino).2.2])) (fun X g => stat_in g ino i0 i1 (by rw [HSR.out]; decide))
    rw [hst] at cs
    unfold inV at cs
    dsimp only at cs
    have q0 := HT9.out.c0
    have HTT : Hid _ := htt
    clear hst htt
    go_wp2_with fail
    refine cs.mono ?_
    rintro e w10 ⟨rfl, hT10⟩
    clear cs q0 HT9
    have hb11 := bel1 w10 (.cells #[.int .i64 k, .int .i64 m, .int .i64 ln, .int .i64 sz] 53)
    have hi11 : InRow (w10.alloc (.cells #[.int .i64 k, .int .i64 m, .int .i64 ln, .int .i64 sz] 53)) w10.heap.size k m ln sz := ⟨heap_alloc_new w10 _⟩
    obtain ⟨w11, hw11⟩ : ∃ w11, w10.alloc (.cells #[.int .i64 k, .int .i64 m, .int .i64 ln, .int .i64 sz] 53) = w11 := ⟨_, rfl⟩
    rw [hw11] at hb11 hi11
    have HT11 : Hid (Tw w.heap.size w2 w11 pp a { S with R := addK S.R ino [1, 2, 3] } pq b T) := hT10.below hb11
    have HI11 : Hid (InRow w11 w10.heap.size k m ln sz) := hi11
    have ct := HT11.out.swap.callI (s' := (statR T ino).1) (R := fun e => e = .returned (.tuple #[inV (statR T ino).2.1, .int .i64 (statR T ino).2.2])) (fun X g => stat_in g ino i0 i1 (by rw [HTR.out]; decide))
    rw [HTT.out] at ct
    unfold inV at ct
    dsimp only at ct
    have q0 := HT11.out.swap.c0
    clear hb11 hi11 hT10
    go_wp2_with fail
    refine ct.mono ?_
    rintro e w12 ⟨rfl, hT12, hK12⟩
    clear ct q0
    have hb13 := bel1 w12 (.cells #[.int .i64 k, .int .i64 m, .int .i64 ln, .int .i64 sz'] 53)
    have hi13 : InRow (w12.alloc (.cells #[.int .i64 k, .int .i64 m, .int .i64 ln, .int .i64 sz'] 53)) w12.heap.size k m ln sz' := ⟨heap_alloc_new w12 _⟩
    have hj13 := (HI11.out.keepI hK12).below hb13
    have hT13 := hT12.swap.below hb13
    obtain ⟨w13, hw13⟩ : ∃ w13, w12.alloc (.cells #[.int .i64 k, .int .i64 m, .int .i64 ln, .int .i64 sz'] 53) = w13 := ⟨_, rfl⟩
    rw [hw13] at hi13 hj13 hT13
    have HB13 : Hid (Below w.heap.size w w13) := HB2.out.trans hT13.bel
    have cm := hT13.mark
    dsimp only at cm
    rw [HSR.out, addK3 (fd_ino (s := S) (by rw [HF.out]))] at cm
    simp only [List.length_cons, List.length_nil] at cm
    have q0 := hT13.c0
    have q1 := hT13.r1
    have x0 := hj13.cell 0 _ rfl
    have x1 := hj13.cell 1 _ rfl
    have x2 := hj13.cell 2 _ rfl
    have y0 := hi13.cell 0 _ rfl
    have y1 := hi13.cell 1 _ rfl
    have y2 := hi13.cell 2 _ rfl
    have y3 := hi13.cell 3 _ rfl
    have lx : Hid _ := hj13.load
    have ly : Hid _ := hi13.load
    have heq : ∀ W, (binOp .eql 53 (.agg #[.int .i64 k, .int .i64 m, .int .i64 ln, .int .i64 sz']) (.agg #[.int .i64 k, .int .i64 m, .int .i64 ln, .int .i64 sz])).run Tryz.prog W = .ok (.bool (inoEq k m ln sz' k m ln sz)) W := fun W => eq_inodes W _ _ _ _ _ _ _ _
    clear hT12 hK12 hb13 hi13 hj13 hT13 HT11 HI11 HTT HF HG HKT HSR HTR
    go_wp2_with fail
    refine cm.mono ?_
    rintro e w14 ⟨rfl, rfl⟩
    clear cm q0 q1
    rcases HC.out with ⟨hf, hs⟩ | ⟨hf, hs, _⟩
    · subst hs
      have hfb : (f != 0) = true := by simpa using hf
      have hfc : (f == 0) = false := by simpa using hf
      have hie : inoEq k m ln sz' k m ln sz' = true := inoEq_iff.2 ⟨rfl, rfl, rfl, rfl⟩
      rw [hie] at heq
      clear HC hie
      go_wp2_with (refine wpList_loadG rfl 53 _ rfl _ rfl _ (by first | exact lx.out | exact ly.out) ?_)
      go_ret
      exact ⟨rfl, HB13.out⟩
    · subst hs
      subst hf
      clear HC heq
      go_wp2_with (refine wpList_loadG rfl 53 _ rfl _ rfl _ (by first | exact lx.out | exact ly.out) ?_)
      go_ret
      exact ⟨rfl, HB13.out⟩
  · have heb : (er != 0) = true := by simpa using he
    have hec : (er == 0) = false := by simpa using he
    have hst : statR S ino = (S, in0, er) := by unfold statR; rw [HF.out, if_pos he]
    have htt : statR T ino = (T, in0, er) := by unfold statR; rw [HG.out, if_pos he]
    have HFN : Hid (f ≠ 0) := by
      rcases HC.out with ⟨hf, _⟩ | ⟨_, _, hf⟩
      · exact hf
      · exact absurd hf he
    have cs := HT9.out.call (s' := (statR S ino).1) (R := fun e => e = .returned (.tuple #[inV (statR S ino).2.1, .int .i64 (statR S ino).2.2])) (fun X g => stat_in g ino i0 i1 (by rw [HSR.out]; decide))
    rw [hst] at cs
    unfold inV in0 at cs
    dsimp only at cs
    have q0 := HT9.out.c0
    have HTT : Hid _ := htt
    clear hst htt HC he
    go_wp2_with fail
    refine cs.mono ?_
    rintro e w10 ⟨rfl, hT10⟩
    clear cs q0 HT9
    have hb11 := bel1 w10 (.cells #[.int .i64 0, .int .i64 0, .int .i64 0, .int .i64 0] 53)
    have hi11 : InRow (w10.alloc (.cells #[.int .i64 0, .int .i64 0, .int .i64 0, .int .i64 0] 53)) w10.heap.size 0 0 0 0 := ⟨heap_alloc_new w10 _⟩
    have HT11 : Hid (Tw w.heap.size w2 (w10.alloc (.cells #[.int .i64 0, .int .i64 0, .int .i64 0, .int .i64 0] 53)) pp a S pq b T) := hT10.below hb11
    have HI11 : Hid (InRow (w10.alloc (.cells #[.int .i64 0, .int .i64 0, .int .i64 0, .int .i64 0] 53)) w10.heap.size 0 0 0 0) := hi11
    have ct := HT11.out.swap.callI (s' := (statR T ino).1) (R := fun e => e = .returned (.tuple #[inV (statR T ino).2.1, .int .i64 (statR T ino).2.2])) (fun X g => stat_in g ino i0 i1 (by rw [HTR.out]; decide))
    rw [HTT.out] at ct
    unfold inV in0 at ct
    dsimp only at ct
    have q0 := HT11.out.swap.c0
    clear hb11 hi11 hT10
    go_wp2_with fail
    refine ct.mono ?_
    rintro e w12 ⟨rfl, hT12, hK12⟩
    clear ct q0
    have hb13 := bel1 w12 (.cells #[.int .i64 0, .int .i64 0, .int .i64 0, .int .i64 0] 53)
    have hi13 : InRow (w12.alloc (.cells #[.int .i64 0, .int .i64 0, .int .i64 0, .int .i64 0] 53)) w12.heap.size 0 0 0 0 := ⟨heap_alloc_new w12 _⟩
    have hj13 := (HI11.out.keepI hK12).below hb13
    have hT13 := hT12.swap.below hb13
    have HB13 : Hid (Below w.heap.size w (w12.alloc (.cells #[.int .i64 0, .int .i64 0, .int .i64 0, .int .i64 0] 53))) := HB2.out.trans hT13.bel
    have cm := hT13.mark
    rw [HSR.out] at cm
    simp only [List.length_nil] at cm
    have q0 := hT13.c0
    have q1 := hT13.r1
    have x0 := hj13.cell 0 _ rfl
    have x1 := hj13.cell 1 _ rfl
    have x2 := hj13.cell 2 _ rfl
    have y0 := hi13.cell 0 _ rfl
    have y1 := hi13.cell 1 _ rfl
    have y2 := hi13.cell 2 _ rfl
    have y3 := hi13.cell 3 _ rfl
    have lx : Hid _ := hj13.load
    have ly : Hid _ := hi13.load
    have heq : ∀ W, (binOp .eql 53 (.agg #[.int .i64 0, .int .i64 0, .int .i64 0, .int .i64 0]) (.agg #[.int .i64 0, .int .i64 0, .int .i64 0, .int .i64 0])).run Tryz.prog W = .ok (.bool true) W := fun W => eq_inodes W _ _ _ _ _ _ _ _
    clear hT12 hK12 hb13 hi13 hj13 hT13 HT11 HI11 HTT HF HG HKT HSR HTR
    go_wp2_with fail
    refine cm.mono ?_
    rintro e w14 ⟨rfl, rfl⟩
    clear cm q0 q1
    have hfb : (f != 0) = true := by simpa using HFN.out
    have hfc : (f == 0) = false := by simpa using HFN.out
    clear HFN
    go_wp2_with (refine wpList_loadG rfl 53 _ rfl _ rfl _ (by first | exact lx.out | exact ly.out) ?_)
    go_ret
    exact ⟨rfl, HB13.out⟩

/-! ### The row -/
set_option maxRecDepth 100000 in
theorem lifted (os : Os) (started : os.Started) (H : Type) (enc : TypeId × Value → H) :
    ReturnsInHanded {} Tryz.checked os 4 .any (Rows.inodeReadsSpec.pre6 enc Tryz.prog Tryz.f4 Rows.inodeReadsRow.domain false) (Rows.inodeReadsSpec.post enc Tryz.prog Tryz.f4 false true false false) := by
  refine returnsInHanded_of_change (C := Tryz.checked) own started (by kernel_rfl) Tryz.func4
    (ChangeSpec.witness6 (enc := enc) (C := Tryz.checked) false ⟨#[], #[.slice none 0 0, .int .u32 0, .int .i64 0], []⟩ 8 (by kernel_rfl) (by kernel_rfl) (by kernel_rfl) (by kernel_rfl)) ?_
  intro W base args ds gs before hval0 hW hcnd _
  have hval : ∀ (j : Nat) t v, Tryz.f4.params[j]? = some t → args[j]? = some v → Value.okWide Tryz.prog W .any base t v := hval0
  have hW' := hW
  obtain ⟨p, q, hA0, hV, rfl, hfz, hnd⟩ := hW
  have hA : DataW.TrodAll enc Tryz.prog W 0 (fun _ => true) true Tryz.f4.params.toList args.toList ds p := hA0
  rw [Tryz.params4] at hA hval
  obtain ⟨v0, vs0, d0, ds0, p0, q0, hargs, rfl, rfl, h0, r0⟩ := trodAll_cons hA
  obtain ⟨v1, vs1, d1, ds1, p1, q1, rfl, rfl, rfl, h1, r1⟩ := trodAll_cons r0
  obtain ⟨v2, vs2, d2, ds2, p2, q2, rfl, rfl, rfl, h2, r2⟩ := trodAll_cons r1
  obtain ⟨rfl, rfl, rfl⟩ := trodAll_nil r2
  obtain rfl : args = #[v0, v1, v2] := by cases args; simp_all
  obtain ⟨rfl, rfl⟩ := trodVars_none hV
  obtain ⟨a0, len0, cap0, rfl⟩ := okWide_slice Tryz.underlying22 (hval 0 22 v0 rfl rfl)
  have k0 := h0
  have lt0 : ∀ x ∈ p0, x.block < W.heap.size := by obtain ⟨m, hm⟩ := k0; exact DataW.trod_lt m _ _ _ hm
  obtain ⟨o0, w0, ws0⟩ : ∃ os, RdK W a0 len0 cap0 os ∧ KvsOk os := by
    obtain ⟨fuel, hf⟩ := h0
    exact kvs_of hf
  obtain ⟨a1, rfl, rfl, rfl, w1⟩ := open_int Tryz.underlying23 (hval 1 23 v1 rfl rfl) h1
  obtain ⟨a2, rfl, rfl, rfl, w2⟩ := open_int Tryz.underlying3 (hval 2 3 v2 rfl rfl) h2
  clear hA0 hval0
  refine (walk a0 len0 cap0 o0 a1 a2 W w0 ws0 w1 w2).mono fun e W' ⟨he, bel⟩ => ?_
  subst he
  exact ⟨_, rfl, _, _, _, [], _, [], hW', trodAll_mk1 (shut_bool Tryz.underlying4 _), (trodAll_cons_mk (Below.trod laidOut (by kernel_rfl) (of_decide_eq_true (by kernel_rfl)) k0 bel lt0) (trodAll_cons_mk (shut_int Tryz.underlying23 w1) (trodAll_cons_mk (shut_int Tryz.underlying3 w2) trodAll_mk0))), rfl, bel.frame _, fun h => by cases h⟩

theorem over : Rows.inodeReadsRow.holds Tryz.pinned (OpenSpec.ofChange Rows.inodeReadsSpec) :=
  OpenClaim.holds_of_wide 4 Tryz.f4 rfl rfl rfl rfl rfl rfl rfl ⟨rfl, rfl, rfl, rfl, rfl⟩ rfl rfl rfl rfl rfl (by kernel_rfl) Tryz.func4 (by kernel_rfl)
    (of_decide_eq_true (by kernel_rfl)) (by unfold Func.isWrapper; first | (rw [if_pos (by decide +kernel)]; kernel_rfl) | (rw [if_neg (by decide +kernel)]; exact ⟨rfl, rfl⟩))
    (fun os started H enc _ => lifted os started H enc)

end Go.Proofs.YtkmckipfjahlcaaGreat.inodeReads

namespace Go.Proofs.YtkmckipfjahlcaaGreat
/-- The statement. -/
theorem inodeReads_proved : Rows.InodeReadsSaid := inodeReads.over
#print axioms inodeReads_proved
end Go.Proofs.YtkmckipfjahlcaaGreat
