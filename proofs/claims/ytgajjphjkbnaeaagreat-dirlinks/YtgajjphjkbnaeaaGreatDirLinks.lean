/- Proved: a file that is given another name, which is then taken away, is as it was -/
import Derived.Test.YtgajjphjkbnaeaaGreatDrZ
import Derived.Test.YtgajjphjkbnaeaaGreatQ50
import Derived.Deep.RegionHeld3
import Derived.BigQuiet
import Derived.Deep.QuietTactic
import Derived.WalkSmall
import Derived.ProofKit
import Derived.OpenShut
import Derived.ShutString
import Derived.ChangeOld
import Derived.Below
import Derived.Carry
namespace Go.Proofs.YtgajjphjkbnaeaaGreat.dirLinks
open Go.ChangeShapes Go.WideShapes Go.ChangeAt Go.RowKit
open Go.ChangeMaps (open_string shut_string)
set_option linter.unusedVariables false
set_option linter.unusedSimpArgs false

theorem own : ownKnob Tryz.prog.godebug = none := by kernel_rfl
theorem laidOut : laidOutB Tryz.prog = true := by kernel_rfl

set_option maxRecDepth 100000 in
set_option maxHeartbeats 32000000 in
theorem walk (ao : Option Addr) (on oc : Nat) (os : List Rop) (so sp : ByteArray) (w : World) (ho : RdZ 5 ropE w (.slice ao on oc) os) (hos : ∀ o ∈ os, o.old.size ≤ maxLen ∧ o.p.size ≤ maxLen) (hso : so.size ≤ maxLen) (hsp : sp.size ≤ maxLen) : Calls Tryz.prog 5 #[.slice ao on oc, .string so, .string sp] w fun e w' => e = .returned (.bool true) ∧ Below w.heap.size w w' := by
 have HO : Hid (RdZ 5 ropE w (.slice ao on oc) os) := ho
 have HOS : Hid (∀ o ∈ os, o.old.size ≤ maxLen ∧ o.p.size ≤ maxLen) := hos
 have HSP : Hid (sp.size ≤ maxLen) := hsp
 have HSO : Hid (so.size ≤ maxLen) := hso
 clear ho hos hsp hso
 go_enter Tryz.func5, Tryz.ntmps5
 go_wp2_with fail
 refine (dlive_any w).mono ?_
 rintro e w1 ⟨rfl, hb1⟩
 have cs := script_any nl_sc w1 ao on oc os (HO.out.below hb1) HOS.out
 have HB1 : Hid (Below w.heap.size w w1) := hb1
 clear hb1
 go_wp2_with fail
 refine cs.mono ?_
 rintro e w2 ⟨pp, a, B, w0, j, s, rfl, hp, hb0, hBz, hj, hnv, hjv, hk⟩
 have HB0 : Hid (Below w.heap.size w w0 ∧ w.heap.size ≤ B) := ⟨HB1.out.trans (hb0.mono HB1.out.size), Nat.le_trans HB1.out.size hBz⟩
 have HP2 : Hid (Pr B w0 w2 pp a s) := hp
 have HNV : Hid (Nl j s ∧ Jv s ∧ j ≤ 40) := ⟨hnv, hjv, hj⟩
 have HKP : Hid (DgP.Kp s s 2000) := kp_of (s := s) hjv hk
 clear cs hp hb0 hBz hj hnv hjv hk
 by_cases hbig : 1000 < wrap64 ((sp.size : Int) + (so.size : Int))
 ·have HF : Hid (Below w.heap.size w w2) := HB0.out.1.trans (HP2.out.bel.mono HB0.out.2)
  go_wp2
  go_ret
  exact ⟨rfl, HF.out⟩
 have q0 := HP2.out.c0
 have cc := HP2.out.fndB HKP.out (by decide) so HSO.out
 have HFV : Hid (Vs s (drFind DgP s so).1) := drFind_vs s so
 have HAL : Hid (∀ s' : Sg, Vs s s' → (drLink DgP s' so sp).2 = 0 → ∃ ino m l z, (drFind DgP s so).2 = (ino, 0) ∧ 0 ≤ ino ∧ ino ≤ 4294967295 ∧ (∀ t, Vs s t → fdR t ino = (⟨1, m, l, z⟩, 0)) ∧ l + 1 ≤ 15 ∧ 1 ≤ l ∧ (drFind DgP (drLink DgP s' so sp).1 sp).2 = (ino, 0) ∧ (∀ t, Vs (drLink DgP s' so sp).1 t → fdR t ino = (⟨1, m, l + 1, z⟩, 0)) ∧
   ∀ t, Vs (drLink DgP s' so sp).1 t → (drUnlink DgP t sp).2 = 0 ∧ fdR (drUnlink DgP t sp).1 ino = (⟨1, m, l, z⟩, 0)) := fun s' hv he => links_two HNV.out.1.1 HNV.out.2.1 HNV.out.1.2 HNV.out.2.2 hv he
 generalize drFind DgP s so = F at *
 obtain ⟨sa, n1, n2⟩ := F
 change Sg at sa
 dsimp only at cc HFV HAL
 go_wp2_with fail
 refine cc.mono ?_
 rintro e w3 ⟨hp, ⟨rfl, hk3, hn0, hn1⟩, hkn⟩
 have HP3 : Hid (Pr B w0 w3 pp a sa) := hp
 have HK3 : Hid (DgP.Kp s sa 2008) := hk3
 have HN1 : Hid (0 ≤ n1 ∧ n1 ≤ 4294967295) := ⟨hn0, hn1⟩
 clear cc q0 hp hk3 hkn hn0 hn1 HP2 HKP
 have q0 := HP3.out.c0
 have cc := HP3.out.stD HK3.out (by decide) n1 HN1.out.1 HN1.out.2
 have HK4 : Hid (DgP.Kp s (statR sa n1).1 2011) := stat_kp HK3.out n1
 have HV4 : Hid (Vs s (statR sa n1).1) := HFV.out.trans (stat_vs sa n1)
 have HS4 : Hid (∀ i, fdR sa n1 = (i, 0) → (statR sa n1).2 = (i, 0)) := fun i h => stat_ok h
 generalize statR sa n1 = F at *
 obtain ⟨sb, ⟨wk, wm, wl, wz⟩, w5⟩ := F
 dsimp only at cc HK4 HV4 HS4
 go_wp2_with fail
 refine cc.mono ?_
 rintro e w4' ⟨hp, rfl, hkj⟩
 have hi9 : InRow (w4'.alloc (.cells #[.int .i64 wk, .int .i64 wm, .int .i64 wl, .int .i64 wz] 41)) w4'.heap.size wk wm wl wz := ⟨heap_alloc_new w4' _⟩
 have hb9 := bel1 w4' (.cells #[.int .i64 wk, .int .i64 wm, .int .i64 wl, .int .i64 wz] 41)
 obtain ⟨w4, hw9⟩ : ∃ w4, w4'.alloc (.cells #[.int .i64 wk, .int .i64 wm, .int .i64 wl, .int .i64 wz] 41) = w4 := ⟨_, rfl⟩
 rw [hw9] at hi9 hb9
 obtain ⟨g1, hg1⟩ : ∃ g1, w4'.heap.size = g1 := ⟨_, rfl⟩
 have HP4 : Hid (Pr B w0 w4 pp a sb) := hp.below hb9
 have HI4 : Hid (InRow w4 w4'.heap.size wk wm wl wz) := hi9
 clear cc q0 hp HP3 HK3 hkj hi9 hb9
 go_upto_region 9 with fail
 try rw [hw9]
 rw [hg1] at HI4
 try rw [hg1]
 clear hw9 hg1
 have q0 := HP4.out.c0
 have cc := HP4.out.lkD HK4.out (by decide) so sp HSO.out HSP.out
 have HAB : Hid _ := HAL.out sb HV4.out
 generalize drLink DgP sb so sp = F at *
 obtain ⟨sc, g⟩ := F
 change Sg at sc
 dsimp only at cc HAB
 go_wp2_with fail
 refine cc.mono ?_
 rintro e w5 ⟨hp, ⟨rfl, hk5⟩, hkn⟩
 have HP5 : Hid (Pr B w0 w5 pp a sc) := hp
 have HI5 : Hid (InRow w5 g1 wk wm wl wz) := HI4.out.keepJ hkn
 have HK5 : Hid (DgP.Kp s sc 2061) := hk5
 clear cc q0 hp hk5 hkn HP4 HK4 HAL
 by_cases hg : g = 0
 case neg =>
  have hgb : (g != 0) = true := by simpa using hg
  have HF : Hid (Below w.heap.size w w5) := HB0.out.1.trans (HP5.out.bel.mono HB0.out.2)
  clear HAB
  go_wp2
  go_ret
  exact ⟨rfl, HF.out⟩
 subst hg
 obtain ⟨ino, m, l, z, e1, e2, e3, e4, hl15, hl1, e5, e6, e7⟩ := HAB.out rfl
 obtain ⟨rfl, rfl⟩ := Prod.mk.inj e1
 obtain ⟨q1, q2⟩ := Prod.mk.inj (HS4.out _ (e4 sa HFV.out))
 simp only [In4.mk.injEq] at q1
 obtain ⟨rfl, rfl, rfl, rfl⟩ := q1
 subst q2
 have HE5 : Hid _ := e5
 have HE6 : Hid _ := e6
 have HE7 : Hid _ := e7
 clear HAB HS4 e1 e2 e3 e4 e5 e6 e7 HFV
 have q0 := HP5.out.c0
 have cc := HP5.out.fndB HK5.out (by decide) sp HSP.out
 have HV6 : Hid (Vs sc (drFind DgP sc sp).1) := drFind_vs sc sp
 generalize drFind DgP sc sp = F at *
 obtain ⟨sd, f2, f3⟩ := F
 change Sg at sd
 dsimp only at cc HV6 HE5
 obtain ⟨rfl, rfl⟩ := Prod.mk.inj HE5.out
 clear HE5
 go_wp2_with fail
 refine cc.mono ?_
 rintro e w6 ⟨hp, ⟨rfl, hk6, _, _⟩, hkn⟩
 have HP6 : Hid (Pr B w0 w6 pp a sd) := hp
 have HI6 : Hid (InRow w6 g1 1 wm wl wz) := HI5.out.keepJ hkn
 have HK6 : Hid (DgP.Kp s sd 2069) := hk6
 clear cc q0 hp hk6 hkn HP5 HK5
 have q0 := HP6.out.c0
 have cc := HP6.out.stD HK6.out (by decide) f2 HN1.out.1 HN1.out.2
 have HK7 : Hid (DgP.Kp s (statR sd f2).1 2072) := stat_kp HK6.out f2
 have HV7 : Hid (Vs sc (statR sd f2).1) := HV6.out.trans (stat_vs sd f2)
 have HS7 : Hid _ := stat_ok (HE6.out sd HV6.out)
 generalize statR sd f2 = F at *
 obtain ⟨se, y1, y2⟩ := F
 dsimp only at cc HK7 HV7 HS7
 obtain ⟨rfl, rfl⟩ := Prod.mk.inj HS7.out
 clear HS7 HE6
 go_wp2_with fail
 refine cc.mono ?_
 rintro e w7' ⟨hp, rfl, hkj⟩
 have hi9 : InRow (w7'.alloc (.cells #[.int .i64 1, .int .i64 wm, .int .i64 (wl + 1), .int .i64 wz] 41)) w7'.heap.size 1 wm (wl + 1) wz := ⟨heap_alloc_new w7' _⟩
 have hb9 := bel1 w7' (.cells #[.int .i64 1, .int .i64 wm, .int .i64 (wl + 1), .int .i64 wz] 41)
 obtain ⟨w7, hw9⟩ : ∃ w7, w7'.alloc (.cells #[.int .i64 1, .int .i64 wm, .int .i64 (wl + 1), .int .i64 wz] 41) = w7 := ⟨_, rfl⟩
 rw [hw9] at hi9 hb9
 obtain ⟨g2, hg2⟩ : ∃ g2, w7'.heap.size = g2 := ⟨_, rfl⟩
 have HP7 : Hid (Pr B w0 w7 pp a se) := hp.below hb9
 have HI7 : Hid (InRow w7 g1 1 wm wl wz) := (HI6.out.keepJ hkj).below hb9
 have HJ7 : Hid (InRow w7 w7'.heap.size 1 wm (wl + 1) wz) := hi9
 clear cc q0 hp HP6 HK6 HV6 hkj hi9 hb9
 go_upto_region 14 with fail
 try rw [hw9]
 rw [hg2] at HJ7
 try rw [hg2]
 clear hw9 hg2
 have q0 := HP7.out.c0
 have cc := HP7.out.unJ HK7.out (by decide) sp HSP.out
 obtain ⟨u1, u2⟩ := HE7.out se HV7.out
 have HU2 : Hid _ := u2
 clear HE7 u2
 generalize drUnlink DgP se sp = F at *
 obtain ⟨sf, u⟩ := F
 change Sg at sf
 dsimp only at cc u1 HU2
 subst u1
 go_wp2_with fail
 refine cc.mono ?_
 rintro e w8 ⟨hp, ⟨rfl, hk8⟩, hkn⟩
 have HP8 : Hid (Pr B w0 w8 pp a sf) := hp
 have HI8 : Hid (InRow w8 g1 1 wm wl wz) := HI7.out.keepJ hkn
 have HJ8 : Hid (InRow w8 g2 1 wm (wl + 1) wz) := HJ7.out.keepJ hkn
 have HK8 : Hid (DgP.Kp s sf 2122) := hk8
 clear cc q0 hp hk8 hkn HP7 HK7 HV7
 have q0 := HP8.out.c0
 have cc := HP8.out.stD HK8.out (by decide) f2 HN1.out.1 HN1.out.2
 have HS9 : Hid _ := stat_ok HU2.out
 generalize statR sf f2 = F at *
 obtain ⟨sg, y3, y4⟩ := F
 dsimp only at cc HS9
 obtain ⟨rfl, rfl⟩ := Prod.mk.inj HS9.out
 clear HS9 HU2
 go_wp2_with fail
 refine cc.mono ?_
 rintro e w9' ⟨hp, rfl, hkj⟩
 have hi9 : InRow (w9'.alloc (.cells #[.int .i64 1, .int .i64 wm, .int .i64 wl, .int .i64 wz] 41)) w9'.heap.size 1 wm wl wz := ⟨heap_alloc_new w9' _⟩
 have hb9 := bel1 w9' (.cells #[.int .i64 1, .int .i64 wm, .int .i64 wl, .int .i64 wz] 41)
 obtain ⟨w9, hw9⟩ : ∃ w9, w9'.alloc (.cells #[.int .i64 1, .int .i64 wm, .int .i64 wl, .int .i64 wz] 41) = w9 := ⟨_, rfl⟩
 rw [hw9] at hi9 hb9
 obtain ⟨g3, hg3⟩ : ∃ g3, w9'.heap.size = g3 := ⟨_, rfl⟩
 have HF : Hid (Below w.heap.size w w9) := (HB0.out.1.trans (hp.bel.mono HB0.out.2)).trans (hb9.mono (HB0.out.1.trans (hp.bel.mono HB0.out.2)).size)
 have hI := (HI8.out.keepJ hkj).below hb9
 have hJ := (HJ8.out.keepJ hkj).below hb9
 have hl1 := hI.cell 2 _ rfl
 have hl2 := hJ.cell 2 _ rfl
 have LI : Hid _ := hI.load
 have LK : Hid _ := hi9.load
 clear cc q0 hp HP8 HK8 hkj hb9 hI hJ
 rw [hg3] at LK hi9
 have heq : ∀ W, (binOp .eql 41 (.agg #[.int .i64 1, .int .i64 wm, .int .i64 wl, .int .i64 wz]) (.agg #[.int .i64 1, .int .i64 wm, .int .i64 wl, .int .i64 wz])).run Tryz.prog W = .ok (.bool true) W := fun W => by rw [eq_inodes]; rw [show inoEq 1 wm wl wz 1 wm wl wz = true from inoEq_iff.2 ⟨rfl, rfl, rfl, rfl⟩]
 have hl9 : wl + 1 ≤ 9223372036854775807 := by omega
 have hl8 : -9223372036854775808 ≤ wl + 1 := by omega
 clear hi9
 go_upto_region 16 with fail
 try rw [hw9]
 try rw [hg3]
 clear hw9 hg3
 go_wp2_with (first | (refine wpList_loadG rfl 41 _ rfl _ rfl _ LK.out ?_) | (refine wpList_loadG rfl 41 _ rfl _ rfl _ LI.out ?_))
 go_ret
 exact ⟨rfl, HF.out⟩

/-! ### The row -/
set_option maxRecDepth 100000 in
theorem lifted (os : Os) (started : os.Started) (H : Type) (enc : TypeId × Value → H) :
  ReturnsInHanded {} Tryz.checked os 5 .any (Rows.dirLinksSpec.pre6 enc Tryz.prog Tryz.f5 Rows.dirLinksRow.domain false) (Rows.dirLinksSpec.post enc Tryz.prog Tryz.f5 false true false false) := by
 refine returnsInHanded_of_change (C := Tryz.checked) own started (by kernel_rfl) Tryz.func5
  (ChangeSpec.witness6 (enc := enc) (C := Tryz.checked) false ⟨#[], #[.slice none 0 0, .string ByteArray.empty, .string ByteArray.empty], []⟩ 8 (by kernel_rfl) (by kernel_rfl) (by kernel_rfl) (by kernel_rfl)) ?_
 intro W base args ds gs before hval0 hW hcnd _
 have hval : ∀ (j : Nat) t v, Tryz.f5.params[j]? = some t → args[j]? = some v → Value.okWide Tryz.prog W .any base t v := hval0
 have hW' := hW
 obtain ⟨p, q, hA0, hV, rfl, hfz, hnd⟩ := hW
 have hA : DataW.TrodAll enc Tryz.prog W 0 (fun _ => true) true Tryz.f5.params.toList args.toList ds p := hA0
 rw [Tryz.params5] at hA hval
 obtain ⟨v0, vs0, d0, ds0, p0, q0, hargs, rfl, rfl, h0, r0⟩ := trodAll_cons hA
 obtain ⟨v1, vs1, d1, ds1, p1, q1, rfl, rfl, rfl, h1, r1⟩ := trodAll_cons r0
 obtain ⟨v2, vs2, d2, ds2, p2, q2, rfl, rfl, rfl, h2, r2⟩ := trodAll_cons r1
 obtain ⟨rfl, rfl, rfl⟩ := trodAll_nil r2
 obtain rfl : args = #[v0, v1, v2] := by cases args; simp_all
 obtain ⟨rfl, rfl⟩ := trodVars_none hV
 obtain ⟨a0, len0, cap0, rfl⟩ := okWide_slice Tryz.underlying22 (hval 0 22 v0 rfl rfl)
 have k0 := h0
 have lt0 : ∀ x ∈ p0, x.block < W.heap.size := by obtain ⟨m, hm⟩ := k0; exact DataW.trod_lt m _ _ _ hm
 obtain ⟨o0, w0, ws0⟩ : ∃ os : List Rop, RdZ 5 ropE W (.slice a0 len0 cap0) os ∧ ∀ o ∈ os, o.old.size ≤ maxLen ∧ o.p.size ≤ maxLen := by
  obtain ⟨fuel, hf⟩ := h0
  exact rops_of hf
 obtain ⟨a1, rfl, rfl, rfl, w1⟩ := open_string Tryz.underlying9 (hval 1 9 v1 rfl rfl) h1
 obtain ⟨a2, rfl, rfl, rfl, w2⟩ := open_string Tryz.underlying9 (hval 2 9 v2 rfl rfl) h2
 clear hA0 hval0
 refine (walk a0 len0 cap0 o0 a1 a2 W w0 ws0 w1 w2).mono fun e W' ⟨he, bel⟩ => ?_
 subst he
 exact ⟨_, rfl, _, _, _, [], _, [], hW', trodAll_mk1 (shut_bool Tryz.underlying4 _), (trodAll_cons_mk (Below.trod laidOut (by kernel_rfl) (of_decide_eq_true (by kernel_rfl)) k0 bel lt0) (trodAll_cons_mk (shut_string Tryz.underlying9 w1) (trodAll_cons_mk (shut_string Tryz.underlying9 w2) trodAll_mk0))), rfl, bel.frame _, fun h => by cases h⟩

theorem over : Rows.dirLinksRow.holds Tryz.pinned (OpenSpec.ofChange Rows.dirLinksSpec) :=
 OpenClaim.holds_of_wide 5 Tryz.f5 rfl rfl rfl rfl rfl rfl rfl ⟨rfl, rfl, rfl, rfl, rfl⟩ rfl rfl rfl rfl rfl (by kernel_rfl) Tryz.func5 (by kernel_rfl)
  (of_decide_eq_true (by kernel_rfl)) (by unfold Func.isWrapper; first | (rw [if_pos (by decide +kernel)]; kernel_rfl) | (rw [if_neg (by decide +kernel)]; exact ⟨rfl, rfl⟩))
  (fun os started H enc _ => lifted os started H enc)

end Go.Proofs.YtgajjphjkbnaeaaGreat.dirLinks

namespace Go.Proofs.YtgajjphjkbnaeaaGreat
/-- The statement. -/
theorem dirLinks_proved : Rows.DirLinksSaid := dirLinks.over
#print axioms dirLinks_proved
end Go.Proofs.YtgajjphjkbnaeaaGreat
