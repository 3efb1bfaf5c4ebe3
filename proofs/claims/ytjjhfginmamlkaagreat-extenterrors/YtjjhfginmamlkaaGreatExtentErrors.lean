/- Proved: an error of the base is handed on. -/
import Derived.Test.YtjjhfginmamlkaaGreatExY
import Derived.Test.YtjjhfginmamlkaaGreatVA
import Derived.Test.YtjjhfginmamlkaaGreatA1
import Derived.Deep.RegionHeld3
import Derived.BigQuiet
import Derived.Deep.QuietTactic
import Derived.WalkSmall
import Derived.ProofKit
import Derived.OpenShut
import Derived.ShutString
import Derived.ChangeOld
import Derived.Below
import Derived.Carry
import Derived.Deep.CutRange
import Derived.Deep.CutBlock
namespace Go.Proofs.YtjjhfginmamlkaaGreat.extentErrors
open Go.ChangeShapes Go.WideShapes Go.ChangeAt Go.RowKit
open Go.ChangeMaps (open_string shut_string)
set_option linter.unusedVariables false
set_option linter.unusedSimpArgs false

theorem own : ownKnob Tryz.prog.godebug = none := by kernel_rfl
theorem laidOut : laidOutB Tryz.prog = true := by kernel_rfl

set_option maxRecDepth 100000 in
set_option maxHeartbeats 16000000 in
theorem walk (ad : Option Addr) (len cap : Nat) (l : List (ByteArray × ByteArray)) (o : Eop) (z : Int) (w : World) (hl : RdK w ad len cap l) (hlo : KvsOk l) (ho : EopOk o) (hz : (Lit.int .i64 z).wf = true) : Calls Tryz.prog 7 #[.slice ad len cap, .agg (eopC o), .int .i64 z] w fun e w' => e = .returned (.bool true) ∧ Below w.heap.size w w' := by
  obtain ⟨z0, z1⟩ := bounds_i64 hz
  clear hz hlo
  have HO : Hid (EopOk o) := ho
  have HLB : Hid (∀ q, 0 < len → ad = some q → q.block < w.heap.size) := fun q hp e => by
    obtain ⟨b, off, e', hlt, _⟩ := hl.2.2.2 hp
    rw [e] at e'; cases e'; exact hlt
  have HL : Hid (RdK w ad len cap l) := hl
  have hb1 := bel1 w (.cells (eopC o) 30)
  have ho1 : EoRow (w.alloc (.cells (eopC o) 30)) w.heap.size o := heap_alloc_new w _
  obtain ⟨w1, hw1⟩ : ∃ w1, w.alloc (.cells (eopC o) 30) = w1 := ⟨_, rfl⟩
  rw [hw1] at hb1 ho1
  have HO1 : Hid (EoRow w1 w.heap.size o) := ho1
  have HB1 : Hid (Below w.heap.size w w1) := hb1
  have cv := exlive_any w1
  clear hl ho hb1 ho1
  unfold eopC at hw1 ⊢
  go_enter Tryz.func7, Tryz.ntmps7
  go_wp2_with fail
  refine cv.mono ?_
  rintro e w2 ⟨rfl, hb2⟩
  clear cv hw1
  have cr := rising_any w2 ad len cap l (HL.out.below (thenB HB1.out hb2))
  have HB2 : Hid (Below w1.heap.size w1 w2) := hb2
  clear hb2
  go_wp2_with fail
  refine cr.mono ?_
  rintro e w3 ⟨rv, rfl, ⟨rb, rfl, hris⟩, hb3⟩
  clear cr
  have HB3 : Hid (Below w1.heap.size w1 w3) := thenB HB2.out hb3
  have HW3 : Hid (Below w.heap.size w w3) := thenB HB1.out HB3.out
  have HO3 : Hid (EoRow w3 w.heap.size o) := HO1.out.below HB3.out
  clear hris hb3
  cases rb
  · go_wp2
    go_ret
    exact ⟨rfl, HW3.out⟩
  have cb := L.begin_in w3 ad len cap l (HL.out.below HW3.out) (B := w.heap.size) HW3.out.size HLB.out 64 (by decide) 100 (by decide) (by decide)
  go_wp2_with fail
  refine cb.mono ?_
  intro e w4 hbx
  obtain ⟨⟨pp0, rfl⟩, hb4⟩ := L.bg_ret hbx
  have HBX : Hid _ := hbx
  have HW4 : Hid (Below w.heap.size w w4) := thenB HW3.out hb4
  have HO4 : Hid (EoRow w4 w.heap.size o) := HO3.out.below hb4
  clear cb hbx hb4
  have cb := L.begin_in w4 ad len cap l (HL.out.below HW4.out) (B := w.heap.size) HW4.out.size HLB.out 64 (by decide) 100 (by decide) (by decide)
  go_wp2_with fail
  refine cb.mono ?_
  intro e w5 hby
  obtain ⟨pp, a, pq, b, epp, rfl, hT⟩ := L.Tw.of HW3.out.size HBX.out hby
  simp only [Ending.returned.injEq, Value.pointer.injEq, Option.some.injEq, Addr.mk.injEq, and_true] at epp
  subst epp
  obtain ⟨_, hb5⟩ := L.bg_ret hby
  have HO5 : Hid (EoRow w5 w.heap.size o) := HO4.out.below hb5
  obtain ⟨S, hS⟩ : ∃ S, L.sg0 l 64 100 = S := ⟨_, rfl⟩
  have HK : Hid (L.Sk S 0) := by unfold Hid; rw [← hS]; exact L.sk0 _ _ _
  have HSE : Hid (S.lf = -1) := by unfold Hid; rw [← hS]; rfl
  rw [hS] at hT
  have HT5 : Hid (L.Tw w.heap.size w3 w5 pp0 a S pq b S) := hT
  clear cb hby hb5 hT HBX hS
  have q3 := HT5.out.c3
  obtain ⟨g1, gf1⟩ := HT5.out.lf
  have hf9 : (wrap64 (z.tmod 6 + 6)).tmod 6 ≤ 9223372036854775807 := by
    have := Int.tmod_lt_of_pos (wrap64 (z.tmod 6 + 6)) (b := 6) (by decide)
    omega
  obtain ⟨hT6, hk6⟩ := HT5.out.left ((wrap64 (z.tmod 6 + 6)).tmod 6) hf9
  have ho6 : EoRow (w5.setCell ⟨a.g, 1, none⟩ (.int .i64 ((wrap64 (z.tmod 6 + 6)).tmod 6))) w.heap.size o := hk6.2 _ _ _ _ HO5.out (by decide) (by decide) (by decide) (by decide) (by decide) (by decide)
  have HO6 : Hid (EoRow (w5.setCell ⟨a.g, 1, none⟩ (.int .i64 ((wrap64 (z.tmod 6 + 6)).tmod 6))) w.heap.size o) := ho6
  have lO := ho6.load
  unfold eopC at lO
  have LO : Hid _ := lO
  have hks : L.Sk { S with lf := (wrap64 (z.tmod 6 + 6)).tmod 6 } 0 := by
    obtain ⟨a1, a2, a3, a4, a5⟩ := HK.out
    exact ⟨a1, a2, a3, a4, a5⟩
  have cd := hT6.call (s' := (L.didX { S with lf := (wrap64 (z.tmod 6 + 6)).tmod 6 } o).1) (R := fun e => e = .returned (.tuple #[.string (L.didX { S with lf := (wrap64 (z.tmod 6 + 6)).tmod 6 } o).2.1, .int .i64 (L.didX { S with lf := (wrap64 (z.tmod 6 + 6)).tmod 6 } o).2.2])) (fun X x p g => L.did_any p g (N := 0) hks (by decide) HO.out)
  have hlf := L.did_sim (s := { S with lf := (wrap64 (z.tmod 6 + 6)).tmod 6 }) (t := S) ⟨rfl, rfl, rfl, HSE.out⟩ o
  obtain ⟨D1, hD1⟩ : ∃ D, L.didX { S with lf := (wrap64 (z.tmod 6 + 6)).tmod 6 } o = D := ⟨_, rfl⟩
  obtain ⟨D2, hD2⟩ : ∃ D, L.didX S o = D := ⟨_, rfl⟩
  rw [hD1, hD2] at hlf
  rw [hD1] at cd
  obtain ⟨T1, a1, e1⟩ := D1
  dsimp only at cd hlf
  have HLF : Hid _ := hlf
  clear hlf hD1 hks hT6 hk6 ho6 lO hf9
  unfold eopC at cd
  go_wp2_with (refine wpList_loadG rfl 30 _ rfl _ rfl _ LO.out ?_)
  refine cd.mono ?_
  rintro e w7 ⟨rfl, hT7, hk7⟩
  clear cd q3 g1 gf1 LO
  have HO7 : Hid (EoRow w7 w.heap.size o) := hk7.2 _ _ _ _ HO6.out (by decide) (by decide) (by decide) (by decide) (by decide) (by decide)
  have lO := HO7.out.load
  unfold eopC at lO
  have LO : Hid _ := lO
  have cd2 := hT7.swap.call (s' := (L.didX S o).1) (R := fun e => e = .returned (.tuple #[.string (L.didX S o).2.1, .int .i64 (L.didX S o).2.2])) (fun X x p g => L.did_any p g (N := 0) HK.out (by decide) HO.out)
  rw [hD2] at cd2
  obtain ⟨T2, a2, e2⟩ := D2
  unfold eopC at cd2
  dsimp only at cd2
  have hlf := HLF.out
  dsimp only at hlf
  have HLF : Hid _ := hlf
  clear hD2 hk7 HO6 lO hlf
  go_wp2_with (refine wpList_loadG rfl 30 _ rfl _ rfl _ LO.out ?_)
  refine cd2.mono ?_
  rintro e w8 ⟨rfl, hT8, hk8⟩
  clear cd2 LO hk8
  have hT8 := hT8.swap
  have HB8 : Hid (Below w.heap.size w w8) := HW3.out.trans hT8.bel
  have q3 := hT8.c3
  have q4 := hT8.lf.1
  clear hT8 hT7
  have hlf := HLF.out
  clear HLF
  by_cases he : e1 = e2
  · subst he
    cases hab : (a1.toList == a2.toList) with
    | true =>
      clear hlf
      go_wp2_with fail
      go_ret
      exact ⟨rfl, HB8.out⟩
    | false =>
      rcases hlf with h | ⟨h, h0⟩
      · simp only [Prod.mk.injEq, and_true] at h
        subst h
        simp at hab
      simp only [Prod.mk.injEq] at h
      obtain ⟨h1, rfl⟩ := h
      have ha0 : (a1.toList == []) = true := by rw [h1, ByteArray.toList_eq]; rfl
      have ha1 : a1.toList.isEmpty = true := by rw [h1, ByteArray.toList_eq]; rfl
      have ha2 : a1.toList = [] := by rw [h1, ByteArray.toList_eq]
      rw [h0] at q4
      clear h0 h1
      go_wp2_with fail
      all_goals (go_ret; exact ⟨rfl, HB8.out⟩)
  rcases hlf with h | ⟨h, h0⟩
  · simp only [Prod.mk.injEq] at h
    exact absurd h.2 he
  simp only [Prod.mk.injEq] at h
  obtain ⟨h1, rfl⟩ := h
  have he2 : ((70 : Int) == e2) = false := by simpa using he
  have ha0 : (a1.toList == []) = true := by rw [h1, ByteArray.toList_eq]; rfl
  have ha1 : a1.toList.isEmpty = true := by rw [h1, ByteArray.toList_eq]; rfl
  rw [h0] at q4
  clear h0 h1
  go_wp2_with fail
  go_ret
  exact ⟨rfl, HB8.out⟩

/-! ### The row -/
set_option maxRecDepth 100000 in
theorem lifted (os : Os) (started : os.Started) (H : Type) (enc : TypeId × Value → H) :
    ReturnsInHanded {} Tryz.checked os 7 .any (Rows.extentErrorsSpec.pre6 enc Tryz.prog Tryz.f7 Rows.extentErrorsRow.domain false) (Rows.extentErrorsSpec.post enc Tryz.prog Tryz.f7 false true false false) := by
  refine returnsInHanded_of_change (C := Tryz.checked) own started (by kernel_rfl) Tryz.func7
    (ChangeSpec.witness6 (enc := enc) (C := Tryz.checked) false ⟨#[], #[.slice none 0 0, .agg (eopC eop0), .int .i64 0], []⟩ 8 (by kernel_rfl) (by kernel_rfl) (by kernel_rfl) (by kernel_rfl)) ?_
  intro W base args ds gs before hval0 hW hcnd _
  have hval : ∀ (j : Nat) t v, Tryz.f7.params[j]? = some t → args[j]? = some v → Value.okWide Tryz.prog W .any base t v := hval0
  have hW' := hW
  obtain ⟨p, q, hA0, hV, rfl, hfz, hnd⟩ := hW
  have hA : DataW.TrodAll enc Tryz.prog W 0 (fun _ => true) true Tryz.f7.params.toList args.toList ds p := hA0
  rw [Tryz.params7] at hA hval
  obtain ⟨v0, vs0, d0, ds0, p0, q0, hargs, rfl, rfl, h0, r0⟩ := trodAll_cons hA
  obtain ⟨v1, vs1, d1, ds1, p1, q1, rfl, rfl, rfl, h1, r1⟩ := trodAll_cons r0
  obtain ⟨v2, vs2, d2, ds2, p2, q2, rfl, rfl, rfl, h2, r2⟩ := trodAll_cons r1
  obtain ⟨rfl, rfl, rfl⟩ := trodAll_nil r2
  obtain rfl : args = #[v0, v1, v2] := by cases args; simp_all
  obtain ⟨rfl, rfl⟩ := trodVars_none hV
  obtain ⟨a0, len0, cap0, rfl⟩ := okWide_slice Tryz.underlying22 (hval 0 22 v0 rfl rfl)
  have k0 := h0
  have lt0 : ∀ x ∈ p0, x.block < W.heap.size := by obtain ⟨m, hm⟩ := k0; exact DataW.trod_lt m _ _ _ hm
  obtain ⟨o0, w0, ws0⟩ : ∃ os, RdK W a0 len0 cap0 os ∧ KvsOk os := by
    obtain ⟨fuel, hf⟩ := h0
    exact kvs_of hf
  obtain ⟨cs1, rfl, sz1⟩ := okWide_struct Tryz.underlying30 (hval 1 30 v1 rfl rfl)
  have k1 := h1
  have lt1 : ∀ x ∈ p1, x.block < W.heap.size := by obtain ⟨m, hm⟩ := k1; exact DataW.trod_lt m _ _ _ hm
  obtain ⟨a1, w1, rfl⟩ : ∃ q : Eop, EopOk q ∧ cs1 = eopC q := by
    obtain ⟨fuel, hf⟩ := h1
    exact eop_of sz1 hf
  obtain ⟨a2, rfl, rfl, rfl, w2⟩ := open_int Tryz.underlying3 (hval 2 3 v2 rfl rfl) h2
  clear hA0 hval0
  refine (walk a0 len0 cap0 o0 a1 a2 W w0 ws0 w1 w2).mono fun e W' ⟨he, bel⟩ => ?_
  subst he
  exact ⟨_, rfl, _, _, _, [], _, [], hW', trodAll_mk1 (shut_bool Tryz.underlying4 _), (trodAll_cons_mk (Below.trod laidOut (by kernel_rfl) (of_decide_eq_true (by kernel_rfl)) k0 bel lt0) (trodAll_cons_mk (Below.trod laidOut (by kernel_rfl) (of_decide_eq_true (by kernel_rfl)) k1 bel lt1) (trodAll_cons_mk (shut_int Tryz.underlying3 w2) trodAll_mk0))), rfl, bel.frame _, fun h => by cases h⟩

theorem over : Rows.extentErrorsRow.holds Tryz.pinned (OpenSpec.ofChange Rows.extentErrorsSpec) :=
  OpenClaim.holds_of_wide 7 Tryz.f7 rfl rfl rfl rfl rfl rfl rfl ⟨rfl, rfl, rfl, rfl, rfl⟩ rfl rfl rfl rfl rfl (by kernel_rfl) Tryz.func7 (by kernel_rfl)
    (of_decide_eq_true (by kernel_rfl)) (by unfold Func.isWrapper; first | (rw [if_pos (by decide +kernel)]; kernel_rfl) | (rw [if_neg (by decide +kernel)]; exact ⟨rfl, rfl⟩))
    (fun os started H enc _ => lifted os started H enc)

end Go.Proofs.YtjjhfginmamlkaaGreat.extentErrors

namespace Go.Proofs.YtjjhfginmamlkaaGreat
/-- The statement. -/
theorem extentErrors_proved : Rows.ExtentErrorsSaid := extentErrors.over
#print axioms extentErrors_proved
end Go.Proofs.YtjjhfginmamlkaaGreat
