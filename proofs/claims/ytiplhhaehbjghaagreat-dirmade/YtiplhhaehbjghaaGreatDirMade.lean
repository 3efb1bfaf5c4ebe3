/- Proved: what was made by a path is found by it, and what is taken away is not -/
import Derived.Test.YtiplhhaehbjghaaGreatDrQ
import Derived.Test.YtiplhhaehbjghaaGreatDrO
import Derived.Test.YtiplhhaehbjghaaGreatQ50
import Derived.Deep.RegionHeld3
import Derived.BigQuiet
import Derived.Deep.QuietTactic
import Derived.WalkSmall
import Derived.ProofKit
import Derived.OpenShut
import Derived.ShutString
import Derived.ChangeOld
import Derived.Below
import Derived.Carry
namespace Go.Proofs.YtiplhhaehbjghaaGreat.dirMade
open Go.ChangeShapes Go.WideShapes Go.ChangeAt Go.RowKit
open Go.ChangeMaps (open_string shut_string)
set_option linter.unusedVariables false
set_option linter.unusedSimpArgs false

theorem own : ownKnob Tryz.prog.godebug = none := by kernel_rfl
theorem laidOut : laidOutB Tryz.prog = true := by kernel_rfl

set_option maxRecDepth 100000 in
set_option maxHeartbeats 32000000 in
theorem walk (ao : Option Addr) (on oc : Nat) (os : List Rop) (sp : ByteArray) (kd : Int) (w : World) (ho : RdZ 5 ropE w (.slice ao on oc) os) (hos : ∀ o ∈ os, o.old.size ≤ maxLen ∧ o.p.size ≤ maxLen) (hsp : sp.size ≤ maxLen) (hkw : (Lit.int .i64 kd).wf = true) : Calls Tryz.prog 6 #[.slice ao on oc, .string sp, .int .i64 kd] w fun e w' => e = .returned (.bool true) ∧ Below w.heap.size w w' := by
 have HO : Hid (RdZ 5 ropE w (.slice ao on oc) os) := ho
 have HOS : Hid (∀ o ∈ os, o.old.size ≤ maxLen ∧ o.p.size ≤ maxLen) := hos
 have HSP : Hid (sp.size ≤ maxLen) := hsp
 clear ho hos hsp hkw
 go_enter Tryz.func6, Tryz.ntmps6
 go_wp2_with fail
 refine (dlive_any w).mono ?_
 rintro e w1 ⟨rfl, hb1⟩
 have cs := script_any nl_sc w1 ao on oc os (HO.out.below hb1) HOS.out
 have HB1 : Hid (Below w.heap.size w w1) := hb1
 clear hb1
 go_wp2_with fail
 refine cs.mono ?_
 rintro e w2 ⟨pp, a, B, w0, j, s, rfl, hp, hb0, hBz, hj, hnv, hjv, hk⟩
 have HB0 : Hid (Below w.heap.size w w0 ∧ w.heap.size ≤ B) := ⟨HB1.out.trans (hb0.mono HB1.out.size), Nat.le_trans HB1.out.size hBz⟩
 have HP2 : Hid (Pr B w0 w2 pp a s) := hp
 have HNV : Hid (Nl j s ∧ Jv s ∧ j ≤ 40) := ⟨hnv, hjv, hj⟩
 have HNB : Hid (0 ≤ s.n ∧ s.n ≤ 4294967295) := by
  have m0 := hnv.1.n0
  have m1 := hnv.1.n1
  exact ⟨by omega, by omega⟩
 have HKP : Hid (DgP.Kp s s 2000) := kp_of (s := s) hjv hk
 clear cs hp hb0 hBz hj hnv hjv hk
 by_cases hbig : 1000 < sp.size
 ·have hbI : (1000 : Int) < (sp.size : Int) := by omega
  have HF : Hid (Below w.heap.size w w2) := HB0.out.1.trans (HP2.out.bel.mono HB0.out.2)
  go_wp2
  go_ret
  exact ⟨rfl, HF.out⟩
 have hbI : ¬ (1000 : Int) < (sp.size : Int) := by omega
 have q1 := HP2.out.c1
 have cc := HP2.out.mD
 clear hbig
 go_wp2_with fail
 refine cc.mono ?_
 rintro e w3 ⟨rfl, rfl⟩
 clear cc q1
 have q0 := HP2.out.c0
 have cc := HP2.out.mkD HKP.out (by decide) sp HSP.out kd 0
 have HER : Hid ((drMake DgP s sp kd 0).2.2 ≠ 0 → (drMake DgP s sp kd 0).2.1 = 0) := fun h => mk_err h
 have HAL : Hid ((drMake DgP s sp kd 0).2.2 = 0 → _) := fun h => made_all HNV.out.1.1 HNV.out.2.1 HNV.out.1.2 HNV.out.2.2 h
 obtain ⟨mk, hmk⟩ : ∃ mk, s.d.pus.length = mk := ⟨_, rfl⟩
 have HMK : Hid (s.d.pus.length = mk) := hmk
 rw [hmk]
 clear hmk
 obtain ⟨ni, hni⟩ : ∃ ni, s.n = ni := ⟨_, rfl⟩
 rw [hni] at HAL HNB
 have HNI : Hid (s.n = ni) := hni
 clear hni
 generalize drMake DgP s sp kd 0 = M at *
 obtain ⟨s1, m2, m3⟩ := M
 change Sg at s1
 dsimp only at cc HER HAL
 by_cases hE : m3 = 0
 case neg =>
  obtain rfl := HER.out hE
  have hEb : (m3 != 0) = true := by simpa using hE
  clear HAL HER
  go_wp2_with fail
  refine cc.mono ?_
  rintro e w4 ⟨hp, ⟨rfl, hk4⟩, hkn⟩
  have HF : Hid (Below w.heap.size w w4) := HB0.out.1.trans (hp.bel.mono HB0.out.2)
  clear cc q0 hp hk4 hkn
  go_wp2
  go_ret
  exact ⟨rfl, HF.out⟩
 subst hE
 obtain ⟨rfl, a2, a3, a4⟩ := HAL.out rfl
 have HA3 : Hid _ := a3
 have HA4 : Hid _ := a4
 have HA2 : Hid _ := a2
 clear HAL HER a2 a3 a4
 go_wp2_with fail
 refine cc.mono ?_
 rintro e w4 ⟨hp, ⟨rfl, hk4⟩, hkn⟩
 have HP4 : Hid (Pr B w0 w4 pp a s1) := hp
 have HK4 : Hid (DgP.Kp s s1 2050) := hk4
 clear cc q0 hp hk4 hkn
 have q0 := HP4.out.c0
 have cc := HP4.out.fndD HK4.out (by decide) sp HSP.out
 have HV2 : Hid (Vs s1 (drFind DgP s1 sp).1) := drFind_vs s1 sp
 generalize drFind DgP s1 sp = F at *
 obtain ⟨s2, f2, f3⟩ := F
 change Sg at s2
 dsimp only at cc HV2 HA2
 obtain ⟨rfl, rfl⟩ := Prod.mk.inj HA2.out
 clear HA2
 go_wp2_with fail
 refine cc.mono ?_
 rintro e w5 ⟨hp, ⟨rfl, hk5⟩, hkn⟩
 have HP5 : Hid (Pr B w0 w5 pp a s2) := hp
 have HK5 : Hid (DgP.Kp s s2 2058) := hk5
 clear cc q0 hp hk5 hkn HP4 HK4
 have q0 := HP5.out.c0
 have cc := HP5.out.mkD HK5.out (by decide) sp HSP.out kd 0
 have HG : Hid _ := HA3.out s2 HV2.out
 generalize drMake DgP s2 sp kd 0 = G at *
 obtain ⟨s3, g2, g3⟩ := G
 change Sg at s3
 dsimp only at cc HG
 obtain ⟨rfl, hv3⟩ := HG.out
 have HA5 : Hid _ := HA4.out s3 (HV2.out.trans hv3)
 clear HG hv3 HA3 HA4
 go_wp2_with fail
 refine cc.mono ?_
 rintro e w6 ⟨hp, ⟨rfl, hk6⟩, hkn⟩
 have HP6 : Hid (Pr B w0 w6 pp a s3) := hp
 have HK6 : Hid (DgP.Kp s s3 2108) := hk6
 clear cc q0 hp hk6 hkn HP5 HK5
 have q0 := HP6.out.c0
 by_cases hkd : kd = 2
 ·subst hkd
  have cc := HP6.out.rdD HK6.out (by decide) sp HSP.out
  have HD : Hid (Dn s sp (drRmdir DgP s3 sp)) := HA5.out.1 rfl
  generalize drRmdir DgP s3 sp = R at *
  obtain ⟨s4, r2⟩ := R
  change Sg at s4
  dsimp only at cc
  have HD2 : Hid (r2 = 0 ∧ (drFind DgP s4 sp).2.2 = 190 ∧ ∀ t, Vs s4 t → (fdR t s.n).2 = 220 ∧ s.d.pus.length < t.d.pus.length) := HD.out
  clear HD HA5
  obtain rfl := HD2.out.1
  go_wp2_with fail
  refine cc.mono ?_
  rintro e w7 ⟨hp, ⟨rfl, hk7⟩, hkn⟩
  have HP7 : Hid (Pr B w0 w7 pp a s4) := hp
  have HK7 : Hid (DgP.Kp s s4 2158) := hk7
  clear cc q0 hp hk7 hkn HP6 HK6
  have q0 := HP7.out.c0
  have cc := HP7.out.fndD HK7.out (by decide) sp HSP.out
  have HV5 : Hid (Vs s4 (drFind DgP s4 sp).1) := drFind_vs s4 sp
  generalize drFind DgP s4 sp = F at *
  obtain ⟨s5, f4, f5⟩ := F
  change Sg at s5
  dsimp only at cc HV5 HD2
  obtain ⟨_, rfl, hd3⟩ := HD2.out
  have HD3 : Hid _ := hd3 s5 HV5.out
  rw [HNI.out, HMK.out] at HD3
  clear HD2 hd3
  go_wp2_with fail
  refine cc.mono ?_
  rintro e w8 ⟨hp, ⟨rfl, hk8⟩, hkn⟩
  have HP8 : Hid (Pr B w0 w8 pp a s5) := hp
  clear cc q0 hp hk8 hkn HP7 HK7
  have q0 := HP8.out.c0
  have cc := HP8.out.kind f2 HNB.out.1 HNB.out.2
  generalize fdR s5 f2 = Y at *
  obtain ⟨y1, y2⟩ := Y
  dsimp only at cc HD3
  obtain ⟨rfl, hpl⟩ := HD3.out
  have HPL : Hid (mk < s5.d.pus.length) := hpl
  clear HD3 hpl
  generalize y1.k = yk at *
  go_wp2_with fail
  refine cc.mono ?_
  rintro e w9 ⟨rfl, hp⟩
  have HP9 : Hid (Pr B w0 w9 pp a s5) := hp
  clear cc q0 hp HP8
  have q1 := HP9.out.c1
  have cc := HP9.out.mD
  generalize s5.d.pus.length = ml at *
  have hlt : (mk : Int) < (ml : Int) := by have := HPL.out; unfold Hid at this; omega
  go_wp2_with fail
  refine cc.mono ?_
  rintro e w10 ⟨rfl, rfl⟩
  have HF : Hid (Below w.heap.size w w10) := HB0.out.1.trans (HP9.out.bel.mono HB0.out.2)
  clear cc q1 HP9
  go_wp2
  go_ret
  exact ⟨rfl, HF.out⟩
 ·have hkb : (kd == 2) = false := by simpa using hkd
  have HKD : Hid (kd ≠ 2) := hkd
  have cc := HP6.out.unD HK6.out (by decide) sp HSP.out
  have HD : Hid (Dn s sp (drUnlink DgP s3 sp)) := HA5.out.2 HKD.out
  generalize drUnlink DgP s3 sp = R at *
  obtain ⟨s4, r2⟩ := R
  change Sg at s4
  dsimp only at cc
  have HD2 : Hid (r2 = 0 ∧ (drFind DgP s4 sp).2.2 = 190 ∧ ∀ t, Vs s4 t → (fdR t s.n).2 = 220 ∧ s.d.pus.length < t.d.pus.length) := HD.out
  clear HD HA5
  obtain rfl := HD2.out.1
  go_wp2_with fail
  refine cc.mono ?_
  rintro e w7 ⟨hp, ⟨rfl, hk7⟩, hkn⟩
  have HP7 : Hid (Pr B w0 w7 pp a s4) := hp
  have HK7 : Hid (DgP.Kp s s4 2158) := hk7
  clear cc q0 hp hk7 hkn HP6 HK6
  have q0 := HP7.out.c0
  have cc := HP7.out.fndD HK7.out (by decide) sp HSP.out
  have HV5 : Hid (Vs s4 (drFind DgP s4 sp).1) := drFind_vs s4 sp
  generalize drFind DgP s4 sp = F at *
  obtain ⟨s5, f4, f5⟩ := F
  change Sg at s5
  dsimp only at cc HV5 HD2
  obtain ⟨_, rfl, hd3⟩ := HD2.out
  have HD3 : Hid _ := hd3 s5 HV5.out
  rw [HNI.out, HMK.out] at HD3
  clear HD2 hd3
  go_wp2_with fail
  refine cc.mono ?_
  rintro e w8 ⟨hp, ⟨rfl, hk8⟩, hkn⟩
  have HP8 : Hid (Pr B w0 w8 pp a s5) := hp
  clear cc q0 hp hk8 hkn HP7 HK7
  have q0 := HP8.out.c0
  have cc := HP8.out.kind f2 HNB.out.1 HNB.out.2
  generalize fdR s5 f2 = Y at *
  obtain ⟨y1, y2⟩ := Y
  dsimp only at cc HD3
  obtain ⟨rfl, hpl⟩ := HD3.out
  have HPL : Hid (mk < s5.d.pus.length) := hpl
  clear HD3 hpl
  generalize y1.k = yk at *
  go_wp2_with fail
  refine cc.mono ?_
  rintro e w9 ⟨rfl, hp⟩
  have HP9 : Hid (Pr B w0 w9 pp a s5) := hp
  clear cc q0 hp HP8
  have q1 := HP9.out.c1
  have cc := HP9.out.mD
  generalize s5.d.pus.length = ml at *
  have hlt : (mk : Int) < (ml : Int) := by have := HPL.out; unfold Hid at this; omega
  go_wp2_with fail
  refine cc.mono ?_
  rintro e w10 ⟨rfl, rfl⟩
  have HF : Hid (Below w.heap.size w w10) := HB0.out.1.trans (HP9.out.bel.mono HB0.out.2)
  clear cc q1 HP9
  go_wp2
  go_ret
  exact ⟨rfl, HF.out⟩

/-! ### The row -/
set_option maxRecDepth 100000 in
theorem lifted (os : Os) (started : os.Started) (H : Type) (enc : TypeId × Value → H) :
  ReturnsInHanded {} Tryz.checked os 6 .any (Rows.dirMadeSpec.pre6 enc Tryz.prog Tryz.f6 Rows.dirMadeRow.domain false) (Rows.dirMadeSpec.post enc Tryz.prog Tryz.f6 false true false false) := by
 refine returnsInHanded_of_change (C := Tryz.checked) own started (by kernel_rfl) Tryz.func6
  (ChangeSpec.witness6 (enc := enc) (C := Tryz.checked) false ⟨#[], #[.slice none 0 0, .string ByteArray.empty, .int .i64 0], []⟩ 8 (by kernel_rfl) (by kernel_rfl) (by kernel_rfl) (by kernel_rfl)) ?_
 intro W base args ds gs before hval0 hW hcnd _
 have hval : ∀ (j : Nat) t v, Tryz.f6.params[j]? = some t → args[j]? = some v → Value.okWide Tryz.prog W .any base t v := hval0
 have hW' := hW
 obtain ⟨p, q, hA0, hV, rfl, hfz, hnd⟩ := hW
 have hA : DataW.TrodAll enc Tryz.prog W 0 (fun _ => true) true Tryz.f6.params.toList args.toList ds p := hA0
 rw [Tryz.params6] at hA hval
 obtain ⟨v0, vs0, d0, ds0, p0, q0, hargs, rfl, rfl, h0, r0⟩ := trodAll_cons hA
 obtain ⟨v1, vs1, d1, ds1, p1, q1, rfl, rfl, rfl, h1, r1⟩ := trodAll_cons r0
 obtain ⟨v2, vs2, d2, ds2, p2, q2, rfl, rfl, rfl, h2, r2⟩ := trodAll_cons r1
 obtain ⟨rfl, rfl, rfl⟩ := trodAll_nil r2
 obtain rfl : args = #[v0, v1, v2] := by cases args; simp_all
 obtain ⟨rfl, rfl⟩ := trodVars_none hV
 obtain ⟨a0, len0, cap0, rfl⟩ := okWide_slice Tryz.underlying39 (hval 0 39 v0 rfl rfl)
 have k0 := h0
 have lt0 : ∀ x ∈ p0, x.block < W.heap.size := by obtain ⟨m, hm⟩ := k0; exact DataW.trod_lt m _ _ _ hm
 obtain ⟨o0, w0, ws0⟩ : ∃ os : List Rop, RdZ 5 ropE W (.slice a0 len0 cap0) os ∧ ∀ o ∈ os, o.old.size ≤ maxLen ∧ o.p.size ≤ maxLen := by
  obtain ⟨fuel, hf⟩ := h0
  exact rops_of hf
 obtain ⟨a1, rfl, rfl, rfl, w1⟩ := open_string Tryz.underlying9 (hval 1 9 v1 rfl rfl) h1
 obtain ⟨a2, rfl, rfl, rfl, w2⟩ := open_int Tryz.underlying3 (hval 2 3 v2 rfl rfl) h2
 clear hA0 hval0
 refine (walk a0 len0 cap0 o0 a1 a2 W w0 ws0 w1 w2).mono fun e W' ⟨he, bel⟩ => ?_
 subst he
 exact ⟨_, rfl, _, _, _, [], _, [], hW', trodAll_mk1 (shut_bool Tryz.underlying4 _), (trodAll_cons_mk (Below.trod laidOut (by kernel_rfl) (of_decide_eq_true (by kernel_rfl)) k0 bel lt0) (trodAll_cons_mk (shut_string Tryz.underlying9 w1) (trodAll_cons_mk (shut_int Tryz.underlying3 w2) trodAll_mk0))), rfl, bel.frame _, fun h => by cases h⟩

theorem over : Rows.dirMadeRow.holds Tryz.pinned (OpenSpec.ofChange Rows.dirMadeSpec) :=
 OpenClaim.holds_of_wide 6 Tryz.f6 rfl rfl rfl rfl rfl rfl rfl ⟨rfl, rfl, rfl, rfl, rfl⟩ rfl rfl rfl rfl rfl (by kernel_rfl) Tryz.func6 (by kernel_rfl)
  (of_decide_eq_true (by kernel_rfl)) (by unfold Func.isWrapper; first | (rw [if_pos (by decide +kernel)]; kernel_rfl) | (rw [if_neg (by decide +kernel)]; exact ⟨rfl, rfl⟩))
  (fun os started H enc _ => lifted os started H enc)

end Go.Proofs.YtiplhhaehbjghaaGreat.dirMade

namespace Go.Proofs.YtiplhhaehbjghaaGreat
/-- The statement. -/
theorem dirMade_proved : Rows.DirMadeSaid := dirMade.over
#print axioms dirMade_proved
end Go.Proofs.YtiplhhaehbjghaaGreat
