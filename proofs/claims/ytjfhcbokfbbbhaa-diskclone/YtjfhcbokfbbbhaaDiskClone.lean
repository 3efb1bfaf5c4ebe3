/- Proved: DiskClone, for every three slices of calls, with no condition: it answers true, and the slices read as they did. -/
import Derived.Test.YtjfhcbokfbbbhaaPlay
import Derived.WalkSmall
import Derived.ProofKit
import Derived.OpenShut
import Derived.ShutString
import Derived.ChangeOld
import Derived.Below
import Derived.Carry
namespace Go.Proofs.Ytjfhcbokfbbbhaa.diskClone
open Go.ChangeShapes Go.WideShapes Go.ChangeAt Go.RowKit Go.Maps
open Go.ChangeMaps (open_string shut_string)
set_option linter.unusedVariables false

theorem own : ownKnob Try.prog.godebug = none := by kernel_rfl
theorem laidOut : laidOutB Try.prog = true := by kernel_rfl

/-- A read is an error, or the block's bytes. -/
theorem read_any {w : World} {p bs bp : Nat} {s : St} (h : DiskAt w p bs bp s) (i : Int) (h0 : -9223372036854775808 ≤ i) (h1 : i ≤ 9223372036854775807) :
    Calls Try.prog 24 #[ptr p, .int .i64 i] w fun e w' => ∃ v, e = .returned (.tuple #[v, .int .i64 (useErr s i)]) ∧ Rd w' v (if useErr s i = 0 then seen s i else []) ∧ Below w.heap.size w w' := by
  by_cases hu : useErr s i = 0
  · rw [if_pos hu, hu]
    refine (disk_Read_rd h i h0 h1 hu).mono ?_
    rintro e w' ⟨g, rfl, _, _, hr, hb⟩
    exact ⟨_, rfl, hr, hb⟩
  · rw [if_neg hu]
    refine (disk_Read_err h i h0 h1 hu).mono ?_
    rintro e w' ⟨rfl, rfl⟩
    exact ⟨_, rfl, Rd.nil _, Below.refl _ _⟩

set_option maxRecDepth 100000 in
set_option maxHeartbeats 16000000 in
theorem walk (a0 : Option Addr) (len0 cap0 : Nat) (o0 : List OpV) (a1 : Option Addr) (len1 cap1 : Nat) (o1 : List OpV) (a2 : Option Addr) (len2 cap2 : Nat) (o2 : List OpV) (w : World)
    (ho0 : OpsAt w a0 len0 cap0 o0) (ho1 : OpsAt w a1 len1 cap1 o1) (ho2 : OpsAt w a2 len2 cap2 o2) :
    Calls Try.prog 6 #[.slice a0 len0 cap0, .slice a1 len1 cap1, .slice a2 len2 cap2] w fun e w' => e = .returned (.bool true) ∧ Below w.heap.size w w' := by
  have HO0 : Hid (OpsAt w a0 len0 cap0 o0) := ho0
  have HO1 : Hid (OpsAt w a1 len1 cap1 o1) := ho1
  have HO2 : Hid (OpsAt w a2 len2 cap2 o2) := ho2
  clear ho0 ho1 ho2
  go_enter Try.func6, Try.ntmps6
  go_wp2_with fail
  refine (law_live w).mono ?_
  rintro e w1 ⟨rfl, hb1⟩
  go_wp2_with fail
  refine (law_disk_New (w := w1) (by decide) (by decide)).mono ?_
  rintro e w2 ⟨p, bs, bp, rfl, hd2, hb2, hp, hbs, hbp⟩
  have hb02 := hb1.trans (hb2.mono hb1.size)
  have hs1 := hb1.size
  unfold ptr
  have hp0 : w.heap.size ≤ p := by omega
  have hbs0 : w.heap.size ≤ bs := by omega
  have hbp0 : w.heap.size ≤ bp := by omega
  have HS3 : Hid (∀ k ∈ [p, bs, bp], w.heap.size ≤ k) := by unfold Hid; simp; omega
  clear hb1 hb2 hp hbs hbp hs1
  go_wp2_with fail
  · go_ret
    exact ⟨rfl, hb02⟩
  · have hw3 := law_play HO0.out hb02 hd2 hp0 hbs0 hbp0
    unfold ptr at hw3
    refine hw3.mono ?_
    rintro e w3 ⟨rfl, hd3, hS3⟩
    have hb03 : Below w.heap.size w w3 := hS3.belowOf hb02 hb02.size HS3.out
    generalize playN (freshSt 8) o0 len0 = s1 at *
    have L3 : Hid (p < w3.heap.size ∧ bs < w3.heap.size ∧ bp < w3.heap.size ∧ w.heap.size ≤ w3.heap.size) := by
      have := hd3.lt; have := hb03.size; unfold Hid; omega
    clear hw3 hd2 hS3 hb02
    go_wp2_with fail
    have hw4 := disk_Clone hd3
    unfold ptr at hw4
    refine hw4.mono ?_
    rintro e w4 ⟨rfl, hd4, hb4⟩
    have hA4 := hd3.below hb4
    have hb04 := hb03.trans (hb4.mono hb03.size)
    have L4 : Hid (w3.heap.size + 2 < w4.heap.size) := hd4.lt.2.2
    clear hw4 hd3 hb03
    go_wp2_with fail
    have hw5 := disk_Clone hA4
    unfold ptr at hw5
    refine hw5.mono ?_
    rintro e w5 ⟨rfl, hd5, hb5⟩
    have hA5 := hA4.below hb5
    have hB5 := hd4.below hb5
    have hb05 := hb04.trans (hb5.mono hb04.size)
    obtain ⟨n3, hn3⟩ : ∃ n3, w3.heap.size = n3 := ⟨_, rfl⟩
    obtain ⟨n4, hn4⟩ : ∃ n4, w4.heap.size = n4 := ⟨_, rfl⟩
    rw [hn3] at L3 L4 hB5 ⊢
    rw [hn4] at L4 hd5 ⊢
    clear hw5 hd4 hA4 hb04 hb4 hb5 hn3 hn4
    go_wp2_with fail
    have hl3 := L3.out
    have hl4 := L4.out
    have hw6 := law_play HO1.out hb05 hA5 hp0 hbs0 hbp0
    unfold ptr at hw6
    refine hw6.mono ?_
    rintro e w6 ⟨rfl, hA6, hS6⟩
    have hB6 := hB5.other hS6 (by simp; omega) (by simp; omega) (by simp; omega)
    have hC6 := hd5.other hS6 (by simp; omega) (by simp; omega) (by simp; omega)
    have hb06 : Below w.heap.size w w6 := hS6.belowOf hb05 hb05.size HS3.out
    clear hw6 hA5 hB5 hd5 hS6 hb05 hl3 hl4
    go_wp2_with fail
    have hl3 := L3.out
    have hl4 := L4.out
    have hw7 := law_play HO2.out hb06 hB6 (by omega) (by omega) (by omega)
    unfold ptr at hw7
    refine hw7.mono ?_
    rintro e w7 ⟨rfl, hB7, hS7⟩
    have hA7 := hA6.other hS7 (by simp; omega) (by simp; omega) (by simp; omega)
    have hC7 := hC6.other hS7 (by simp; omega) (by simp; omega) (by simp; omega)
    have hb07 : Below w.heap.size w w7 := hS7.belowOf hb06 hb06.size (by simp; omega)
    clear hw7 hA6 hB6 hB7 hC6 hS7 hb06 hl3 hl4
    go_wp2_with fail
    have hl3 := L3.out
    have hl4 := L4.out
    have hw8 := law_play HO1.out hb07 hC7 (by omega) (by omega) (by omega)
    unfold ptr at hw8
    refine hw8.mono ?_
    rintro e w8 ⟨rfl, hC8, hS8⟩
    have hA8 := hA7.other hS8 (by simp; omega) (by simp; omega) (by simp; omega)
    have hb08 : Below w.heap.size w w8 := hS8.belowOf hb07 hb07.size (by simp; omega)
    generalize playN s1 o1 len1 = s2 at *
    clear hw8 hA7 hC7 hS8 hb07 hl3 hl4
    go_wp2_with fail
    have hl3 := L3.out
    have hl4 := L4.out
    have hw9 := disk_Power hA8
    unfold ptr at hw9
    refine hw9.mono ?_
    rintro e w9 ⟨rfl, hA9, hS9⟩
    have hC9 := hC8.other hS9 (by simp; omega) (by simp; omega) (by simp; omega)
    have hb09 : Below w.heap.size w w9 := hS9.belowOf hb08 hb08.size (by simp; omega)
    clear hw9 hA8 hC8 hS9 hb08 hl3 hl4
    go_wp2_with fail
    have hl3 := L3.out
    have hl4 := L4.out
    have hw10 := disk_Power hC9
    unfold ptr at hw10
    refine hw10.mono ?_
    rintro e w10 ⟨rfl, hC10, hS10⟩
    have hA10 := hA9.other hS10 (by simp; omega) (by simp; omega) (by simp; omega)
    have hb010 : Below w.heap.size w w10 := hS10.belowOf hb09 hb09.size (by simp; omega)
    obtain ⟨s3, hs3⟩ : ∃ s3 : St, { s2 with off := false } = s3 := ⟨_, rfl⟩
    rw [hs3] at hA10 hC10
    clear hw10 hA9 hC9 hS10 hb09 hl3 hl4 hs3
    go_wp2_with fail
    go_loopw [70] (fun t wr => ∃ k : Nat, k ≤ 8 ∧ t = .int .i64 k ∧ Below w10.heap.size w10 wr) (fun t _ => 8 - (RowKit.intOf t).toNat)
    case atStart => exact ⟨0, by omega, rfl, Below.refl _ _⟩
    case round =>
      obtain ⟨k, hk, rfl, hbr⟩ := hrel
      by_cases hk8 : k < 8
      · have hr1 := read_any (hA10.below hbr) (k : Int) (by omega) (by omega)
        unfold ptr at hr1
        go_wp2_with fail
        refine hr1.mono ?_
        rintro e wa ⟨va, rfl, hra, hba⟩
        have hb1a := hbr.trans (hba.mono hbr.size)
        have hr2 := read_any (hC10.below hb1a) (k : Int) (by omega) (by omega)
        unfold ptr at hr2
        clear hr1
        go_wp2_with fail
        refine hr2.mono ?_
        rintro e wb ⟨vb, rfl, hrb, hbb⟩
        have hb1b := hb1a.trans (hbb.mono hb1a.size)
        have ca := (hra.below hbb).conv
        have cb := hrb.conv
        generalize (if useErr s3 k = 0 then seen s3 k else []) = xs at *
        clear hr2 hra hrb hba hbb hb1a hbr
        go_wp2_with fail
        go_roundw
        case rel => exact ⟨k + 1, by omega, by go_num, hb1b⟩
        case measure => simp [RowKit.intOf]; omega
      · obtain rfl : k = 8 := by omega
        have hwa := disk_Writes (hA10.below hbr)
        have hwc := disk_Writes (hC10.below hbr)
        unfold ptr at hwa hwc
        go_wp2_with fail
        refine hwa.mono ?_
        rintro e wa ⟨rfl, rfl⟩
        go_wp2_with fail
        refine hwc.mono ?_
        rintro e wb ⟨rfl, rfl⟩
        go_wp2_with fail
        go_ret
        exact ⟨rfl, hb010.trans (hbr.mono hb010.size)⟩

/-! ### The row -/
set_option maxRecDepth 100000 in
theorem lifted (os : Os) (started : os.Started) (H : Type) (enc : TypeId × Value → H) :
    ReturnsInHanded {} Try.checked os 6 .any (Rows.diskCloneSpec.pre6 enc Try.prog Try.f6 Rows.diskCloneRow.domain false) (Rows.diskCloneSpec.post enc Try.prog Try.f6 false true false false) := by
  refine returnsInHanded_of_change (C := Try.checked) own started (by kernel_rfl) Try.func6
    (ChangeSpec.witness6 (enc := enc) (C := Try.checked) false ⟨#[], #[.slice none 0 0, .slice none 0 0, .slice none 0 0], []⟩ 8 (by kernel_rfl) (by kernel_rfl) (by kernel_rfl) (by kernel_rfl)) ?_
  intro W base args ds gs before hval0 hW hcnd _
  have hval : ∀ (j : Nat) t v, Try.f6.params[j]? = some t → args[j]? = some v → Value.okWide Try.prog W .any base t v := hval0
  have hW' := hW
  obtain ⟨p, q, hA0, hV, rfl, hfz, hnd⟩ := hW
  have hA : DataW.TrodAll enc Try.prog W 0 (fun _ => true) true Try.f6.params.toList args.toList ds p := hA0
  rw [Try.params6] at hA hval
  obtain ⟨v0, vs0, d0, ds0, p0, q0, hargs, rfl, rfl, h0, r0⟩ := trodAll_cons hA
  obtain ⟨v1, vs1, d1, ds1, p1, q1, rfl, rfl, rfl, h1, r1⟩ := trodAll_cons r0
  obtain ⟨v2, vs2, d2, ds2, p2, q2, rfl, rfl, rfl, h2, r2⟩ := trodAll_cons r1
  obtain ⟨rfl, rfl, rfl⟩ := trodAll_nil r2
  obtain rfl : args = #[v0, v1, v2] := by cases args; simp_all
  obtain ⟨rfl, rfl⟩ := trodVars_none hV
  obtain ⟨a0, len0, cap0, rfl⟩ := okWide_slice Try.underlying22 (hval 0 22 v0 rfl rfl)
  have k0 := h0
  have lt0 : ∀ x ∈ p0, x.block < W.heap.size := by obtain ⟨m, hm⟩ := k0; exact DataW.trod_lt m _ _ _ hm
  obtain ⟨o0, w0⟩ : ∃ os, OpsAt W a0 len0 cap0 os := by
    obtain ⟨fuel, hf⟩ := h0
    exact opsAt_of hf
  obtain ⟨a1, len1, cap1, rfl⟩ := okWide_slice Try.underlying22 (hval 1 22 v1 rfl rfl)
  have k1 := h1
  have lt1 : ∀ x ∈ p1, x.block < W.heap.size := by obtain ⟨m, hm⟩ := k1; exact DataW.trod_lt m _ _ _ hm
  obtain ⟨o1, w1⟩ : ∃ os, OpsAt W a1 len1 cap1 os := by
    obtain ⟨fuel, hf⟩ := h1
    exact opsAt_of hf
  obtain ⟨a2, len2, cap2, rfl⟩ := okWide_slice Try.underlying22 (hval 2 22 v2 rfl rfl)
  have k2 := h2
  have lt2 : ∀ x ∈ p2, x.block < W.heap.size := by obtain ⟨m, hm⟩ := k2; exact DataW.trod_lt m _ _ _ hm
  obtain ⟨o2, w2⟩ : ∃ os, OpsAt W a2 len2 cap2 os := by
    obtain ⟨fuel, hf⟩ := h2
    exact opsAt_of hf
  clear hA0 hval0
  refine (walk a0 len0 cap0 o0 a1 len1 cap1 o1 a2 len2 cap2 o2 W w0 w1 w2).mono fun e W' ⟨he, bel⟩ => ?_
  subst he
  exact ⟨_, rfl, _, _, _, [], _, [], hW', trodAll_mk1 (shut_bool Try.underlying4 _), (trodAll_cons_mk (Below.trod laidOut (by kernel_rfl) (of_decide_eq_true (by kernel_rfl)) k0 bel lt0) (trodAll_cons_mk (Below.trod laidOut (by kernel_rfl) (of_decide_eq_true (by kernel_rfl)) k1 bel lt1) (trodAll_cons_mk (Below.trod laidOut (by kernel_rfl) (of_decide_eq_true (by kernel_rfl)) k2 bel lt2) trodAll_mk0))), rfl, bel.frame _, fun h => by cases h⟩

theorem over : Rows.diskCloneRow.holds Try.pinned (OpenSpec.ofChange Rows.diskCloneSpec) :=
  OpenClaim.holds_of_wide 6 Try.f6 rfl rfl rfl rfl rfl rfl rfl ⟨rfl, rfl, rfl, rfl, rfl⟩ rfl rfl rfl rfl rfl (by kernel_rfl) Try.func6 (by kernel_rfl)
    (of_decide_eq_true (by kernel_rfl)) (by unfold Func.isWrapper; first | (rw [if_pos (by decide +kernel)]; kernel_rfl) | (rw [if_neg (by decide +kernel)]; exact ⟨rfl, rfl⟩))
    (fun os started H enc _ => lifted os started H enc)

end Go.Proofs.Ytjfhcbokfbbbhaa.diskClone

namespace Go.Proofs.Ytjfhcbokfbbbhaa
/-- The statement. -/
theorem diskClone_proved : Rows.DiskCloneSaid := diskClone.over
#print axioms diskClone_proved
end Go.Proofs.Ytjfhcbokfbbbhaa
