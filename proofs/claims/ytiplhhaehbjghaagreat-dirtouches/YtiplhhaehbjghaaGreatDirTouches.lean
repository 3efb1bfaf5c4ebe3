/- Proved: what a call reads by a path are just the names on it -/
import Derived.Test.YtiplhhaehbjghaaGreatQ53
import Derived.Test.YtiplhhaehbjghaaGreatQ50
import Derived.Deep.RegionHeld3
import Derived.BigQuiet
import Derived.Deep.QuietTactic
import Derived.WalkSmall
import Derived.ProofKit
import Derived.OpenShut
import Derived.ShutString
import Derived.ChangeOld
import Derived.Below
import Derived.Carry
import Derived.Deep.CutRange
import Derived.Deep.CutBlock
import Derived.Deep.LoopGhost
namespace Go.Proofs.YtiplhhaehbjghaaGreat.dirTouches
open Go.ChangeShapes Go.WideShapes Go.ChangeAt Go.RowKit
open Go.ChangeMaps (open_string shut_string)
set_option linter.unusedVariables false
set_option linter.unusedSimpArgs false

theorem own : ownKnob Tryz.prog.godebug = none := by kernel_rfl
theorem laidOut : laidOutB Tryz.prog = true := by kernel_rfl

set_option maxRecDepth 100000 in
set_option maxHeartbeats 32000000 in
theorem walk (ao : Option Addr) (on oc : Nat) (os : List Rop) (sp : ByteArray) (w : World) (ho : RdZ 5 ropE w (.slice ao on oc) os) (hos : ∀ o ∈ os, o.old.size ≤ maxLen ∧ o.p.size ≤ maxLen) (hsp : sp.size ≤ maxLen) : Calls Tryz.prog 7 #[.slice ao on oc, .string sp] w fun e w' => e = .returned (.bool true) ∧ Below w.heap.size w w' := by
 have HO : Hid (RdZ 5 ropE w (.slice ao on oc) os) := ho
 have HOS : Hid (∀ o ∈ os, o.old.size ≤ maxLen ∧ o.p.size ≤ maxLen) := hos
 have HSP : Hid (sp.size ≤ maxLen) := hsp
 clear ho hos hsp
 go_enter Tryz.func7, Tryz.ntmps7
 go_wp2_with fail
 refine (dlive_any w).mono ?_
 rintro e w1 ⟨rfl, hb1⟩
 have cs := script_any nv_sc w1 ao on oc os (HO.out.below hb1) HOS.out
 have HB1 : Hid (Below w.heap.size w w1) := hb1
 clear hb1
 go_wp2_with fail
 refine cs.mono ?_
 rintro e w2 ⟨pp, a, B, w0, j, s, rfl, hp, hb0, hBz, hj, hnv, hjv, hk⟩
 have HB0 : Hid (Below w.heap.size w w0 ∧ w.heap.size ≤ B) := ⟨HB1.out.trans (hb0.mono HB1.out.size), Nat.le_trans HB1.out.size hBz⟩
 have HP2 : Hid (Pr B w0 w2 pp a s) := hp
 have HNV : Hid (Nv j { s with R := [] }) := hnv.vs rfl rfl (Int.le_refl _) hnv.n1
 have HKP : Hid (DgP.Kp { s with R := [] } { s with R := [] } 2000) := kp_of (s := { s with R := [] }) (hjv.back rfl rfl) ⟨hk.ck, hk.L, hk.P, Nat.zero_le _, hk.U⟩
 clear cs hp hb0 hBz hj hnv hjv hk
 by_cases hbig : 1000 < sp.size
 ·have hbI : (1000 : Int) < (sp.size : Int) := by omega
  have HF : Hid (Below w.heap.size w w2) := HB0.out.1.trans (HP2.out.bel.mono HB0.out.2)
  go_wp2
  go_ret
  exact ⟨rfl, HF.out⟩
 have hbI : ¬ (1000 : Int) < (sp.size : Int) := by omega
 have csp := rsplit_any w2 sp HSP.out
 clear hbig
 go_wp2_with fail
 refine csp.mono ?_
 rintro e w3 ⟨u, rfl, hu, hb3⟩
 obtain ⟨ul, uc, rfl⟩ := own_shape hu
 have HNM : Hid (FrR 0 w3 ul (pathL sp).length uc (pathL sp)) := (FrR.of_own hu).mono (Nat.zero_le _)
 have HP3 : Hid (Pr B w0 w3 pp a s) := HP2.out.below hb3
 clear csp hu hb3 HP2
 obtain ⟨nl, hnl⟩ : ∃ nl, (pathL sp).length = nl := ⟨_, rfl⟩
 have HNL : Hid ((pathL sp).length = nl) := hnl
 rw [hnl] at HNM ⊢
 obtain ⟨pe, hpe⟩ : ∃ pe, pathE sp = pe := ⟨_, rfl⟩
 have HPE : Hid (pathE sp = pe) := hpe
 rw [hpe]
 clear hnl hpe
 have q0 := HP3.out.c0
 have qr := HP3.out.sr
 have cc := HP3.out.uR0
 go_wp2_with fail
 refine cc.mono ?_
 rintro e w4 ⟨hp, rfl, hkn⟩
 clear cc q0 qr
 obtain ⟨S, hS⟩ : ∃ S : Sg, { s with R := [] } = S := ⟨_, rfl⟩
 have HRN : Hid (S.R = []) := by rw [← hS]; rfl
 rw [hS] at hp HNV HKP
 have HP4 : Hid (Pr B w0 w4 pp a S) := hp
 have HN4 : Hid (FrR 0 w4 ul nl uc (pathL sp)) := hkn _ _ _ _ HNM.out
 clear hp hkn HNM hS HP3
 have q0 := HP4.out.c0
 have qu := HP4.out.su
 have cc := HP4.out.mU
 go_wp2_with fail
 refine cc.mono ?_
 rintro e w5 ⟨rfl, rfl⟩
 clear cc q0 qu
 have q0 := HP4.out.c0
 have cc := HP4.out.fndD HKP.out (by decide) sp HSP.out
 have HFW : Hid (pathE sp = 0 → (drFind DgP S sp).1 = { S with R := wayT S (pathL sp) 1 } ∧ (drFind DgP S sp).2 = (drDown DgP (pathL sp) S 1).2) := fun h => find_way HNV.out HRN.out h
 have HFE : Hid (pathE sp ≠ 0 → drFind DgP S sp = (S, 0, pathE sp)) := fun h => if_pos h
 generalize drFind DgP S sp = F at *
 obtain ⟨S1, f2, f3⟩ := F
 change Sg at S1
 dsimp only at cc HFW HFE
 go_wp2_with fail
 refine cc.mono ?_
 rintro e w6 ⟨hp, ⟨rfl, hk6⟩, hkn⟩
 clear cc q0
 have HP6 : Hid (Pr B w0 w6 pp a S1) := hp
 have HN6 : Hid (FrR 0 w6 ul nl uc (pathL sp)) := hkn _ _ _ _ HN4.out
 have HK6 : Hid (DgP.Kp S S1 2008) := hk6
 have q0 := HP6.out.c0
 have qr := HP6.out.sr
 have cc := HP6.out.aR (Nat.le_trans hk6.k.R (by decide))
 clear hp hkn hk6 HN4
 go_wp2_with fail
 refine cc.mono ?_
 rintro e w7 ⟨ad, c, rfl, hrd, hb7⟩
 clear cc q0 qr
 have HP7 : Hid (Pr B w0 w7 pp a S1) := HP6.out.below hb7
 have HN7 : Hid (FrR 0 w7 ul nl uc (pathL sp)) := HN6.out.below hb7
 have HF7 : Hid (Below w.heap.size w w7) := HB0.out.1.trans (HP7.out.bel.mono HB0.out.2)
 have HRD : Hid (RdZ 5 tcE w7 (.slice ad S1.R.length c) S1.R) := hrd
 clear hrd hb7 HN6 HP6
 by_cases hE : pe = 0
 case neg =>
  have hpb : (pe != 0) = true := by simpa using hE
  have e1 : (S1, f2, f3) = ((S : Sg), (0 : Int), pathE sp) := HFE.out (by rw [HPE.out]; exact hE)
  simp only [Prod.mk.injEq] at e1
  obtain ⟨rfl, rfl, rfl⟩ := e1
  have e2 : pathE sp = 160 := (pathE_or sp).resolve_left (by rw [HPE.out]; exact hE)
  rw [e2] at HFE HPE ⊢
  rw [HRN.out] at HRD ⊢
  clear HFW HFE e2
  go_wp2
  go_ret
  exact ⟨rfl, HF7.out⟩
 subst hE
 obtain ⟨e1, e2⟩ := HFW.out HPE.out
 subst e1
 have HZ : Hid (∀ (i : Nat) (y : Tc), (wayT S (pathL sp) 1)[i]? = some y → y.kind = 5 ∧ (pathL sp)[i]? = some y.name ∧ (i = 0 → y.ino = 1)) := fun i y h => way_get _ _ _ _ _ h
 have HLL : Hid ((wayT S (pathL sp) 1).length ≤ (pathL sp).length ∧ (f3 = 0 → (wayT S (pathL sp) 1).length = (pathL sp).length)) := ⟨(way_len _ _ _).1, fun h => (way_len (pathL sp) S 1).2 (by
  have e3 : (dnD (pathL sp) S 1).2 = (f2, f3) := e2.symm
  rw [e3]; exact h)⟩
 have HLW : Hid _ := list_way HNV.out HPE.out
 have HPO : Hid (nl ≤ 6) := by unfold Hid; rw [← HNL.out]; exact (path_ok HPE.out).2
 clear HFW HFE e2
 have hrr : ({ S with R := wayT S (pathL sp) 1 } : Sg).R = wayT S (pathL sp) 1 := rfl
 rw [hrr] at HRD ⊢
 obtain ⟨S2, hS2⟩ : ∃ S2 : Sg, { S with R := wayT S (pathL sp) 1 } = S2 := ⟨_, rfl⟩
 rw [hS2] at HP7 HK6 HLW
 generalize wayT S (pathL sp) 1 = Z at *
 obtain ⟨rn, hrn⟩ : ∃ rn, Z.length = rn := ⟨_, rfl⟩
 have HRL : Hid (Z.length = rn) := hrn
 rw [hrn] at HRD ⊢
 have hle : rn ≤ nl := by have := HLL.out.1; rw [HNL.out] at this; omega
 have hgt : ¬ (nl : Int) < (rn : Int) := by omega
 have hgd : decide (nl < rn) = false := by simp; omega
 have HLE : Hid (rn ≤ nl) := hle
 clear hrn hle hrr hS2
 by_cases hF : f3 = 0
 ·subst hF
  have hrq : rn = nl := by rw [← HRL.out, ← HNL.out]; exact HLL.out.2 rfl
  have hrI : (rn : Int) = (nl : Int) := by omega
  have hrb : ((rn : Int) != (nl : Int)) = false := by simp [hrI]
  clear hrq hrI
  go_wp2_with fail
  clear hgt hgd
  go_loopg [13, 14, 94] rn (fun kx s13 s14 s94 wr => ∃ i : Nat, s94 = .int .i64 i ∧ i ≤ rn ∧ rn - i ≤ kx ∧ Hid (Below w7.heap.size w7 wr))
  case atStart => exact ⟨0, rfl, Nat.zero_le _, by omega, Below.refl _ _⟩
  case round =>
   obtain ⟨i, rfl, hin, hkx, HW⟩ := hrel
   by_cases hlt : i < rn
   ·obtain ⟨⟨xk, xi, xn, xl, xh⟩, hx⟩ : ∃ x, Z[i]? = some x := ⟨_, List.getElem?_eq_getElem (by have := HRL.out; omega)⟩
    obtain ⟨g1, g2, g3⟩ := HZ.out _ _ hx
    obtain ⟨b6, o6, rfl, d0, d1, d2, d3, d4⟩ := tc_cells (HRD.out.below HW.out) hx
    dsimp only at g1 g2 g3 d0 d1 d2 d3 d4
    subst g1
    have HLD : Hid _ := tc_load (HRD.out.below HW.out) hx
    have hA := bel1 wr (.cells #[.int .i64 5, .int .u32 xi, .string xn, .int .i64 xl, .int .i64 xh] 73)
    have hrow := heap_alloc_new wr (.cells #[.int .i64 5, .int .u32 xi, .string xn, .int .i64 xl, .int .i64 xh] 73)
    obtain ⟨wA, hwA⟩ : ∃ wA, wr.alloc (.cells #[.int .i64 5, .int .u32 xi, .string xn, .int .i64 xl, .int .i64 xh] 73) = wA := ⟨_, rfl⟩
    rw [hwA] at hA hrow
    have v0 : wA.cell? ⟨wr.heap.size, 0, none⟩ = some (.int .i64 5) := by rw [cell_of_row _ _ _ _ _ (0, 0) hrow]; rfl
    have v1 : wA.cell? ⟨wr.heap.size, 1, none⟩ = some (.int .u32 xi) := by rw [cell_of_row _ _ _ _ _ (0, 0) hrow]; rfl
    have v2 : wA.cell? ⟨wr.heap.size, 2, none⟩ = some (.string xn) := by rw [cell_of_row _ _ _ _ _ (0, 0) hrow]; rfl
    obtain ⟨b7, o7, hul, z0⟩ := s_cell ((HN7.out.below HW.out).below hA).1 g2
    subst hul
    have HNX : Hid (Below w7.heap.size w7 wA) := thenB HW.out hA
    have hiI : (i : Int) < (rn : Int) := by omega
    have hiN : (i : Int) < (nl : Int) := by have := HLE.out; unfold Hid at this; omega
    have hib : (i : Int) + 1 ≤ 1001 := by have := HLE.out; have := HPO.out; unfold Hid at *; omega
    by_cases hi0 : i = 0
    ·subst hi0
     obtain rfl := g3 rfl
     have hiJ : (0 : Int) < (rn : Int) := by omega
     have hiM : (0 : Int) < (nl : Int) := by omega
     clear hx g2 g3 hA hrow HW
     rw [Nat.zero_mul, Nat.add_zero] at HLD
     rw [Nat.add_zero] at z0
     go_wp2_with (first | (refine wpList_loadG rfl 73 _ rfl _ rfl _ HLD.out ?_; try rw [hwA]))
     go_quiet (fail)
     go_wp2
     go_roundg (rn - (0 + 1))
     case measure => omega
     case rel => exact ⟨0 + 1, rfl, by omega, by omega, thenB HNX.out (belowQ _ _ _)⟩
    ·have hi0b : ((i : Int) == 0) = false := by simp; omega
     have hi0I : ¬ (i : Int) = 0 := by omega
     clear hx g2 g3 hA hrow HW
     go_wp2_with (first | (refine wpList_loadG rfl 73 _ rfl _ rfl _ HLD.out ?_; try rw [hwA]))
     go_quiet (fail)
     go_wp2
     go_roundg (rn - (i + 1))
     case measure => omega
     case rel => exact ⟨i + 1, by rw [show ((i : Int) + 1) = ((i + 1 : Nat) : Int) by omega], by omega, by omega, thenB HNX.out (belowQ _ _ _)⟩
   obtain rfl : rn = i := by omega
   have HPr : Hid (Pr B w0 wr pp a S2) := HP7.out.below HW.out
   have q0 := HPr.out.c0
   have cc := HPr.out.lstD HK6.out (by decide) sp HSP.out
   generalize drList DgP S2 sp = L at *
   obtain ⟨S3, l2, l3⟩ := L
   dsimp only at cc HLW
   clear HW HRD HP7
   go_wp2_with fail
   refine cc.mono ?_
   rintro e w8 ⟨hp, v, rfl, hk8, _⟩
   clear cc q0
   have HP8 : Hid (Pr B w0 w8 pp a S3) := hp
   have q0 := HP8.out.c0
   have qr := HP8.out.sr
   have cc := HP8.out.aR (Nat.le_trans hk8.k.R (by decide))
   clear hp hk8 HPr
   go_wp2_with fail
   refine cc.mono ?_
   rintro e w9 ⟨ad9, c9, rfl, hrd, hb9⟩
   clear cc q0 qr
   have HP9 : Hid (Pr B w0 w9 pp a S3) := HP8.out.below hb9
   have HF9 : Hid (Below w.heap.size w w9) := HB0.out.1.trans (HP9.out.bel.mono HB0.out.2)
   have hu : S3.U.length = S.U.length := by rw [HLW.out.1]
   have cm := HP9.out.mU
   rw [hu] at cm
   have q0 := HP9.out.c0
   have qu := HP9.out.su
   have HRD9 : Hid (RdZ 5 tcE w9 (.slice ad9 S3.R.length c9) S3.R) := hrd
   clear hrd hb9 HP8 hu
   by_cases hG : l3 = 0
   ·subst hG
    obtain ⟨t, h1, h2⟩ := HLW.out.2 rfl
    rw [h1] at HRD9 ⊢
    have hr9 : (Z ++ [tcA t]).length = nl + 1 := by rw [List.length_append, h2, HNL.out]; rfl
    obtain ⟨b9, o9, rfl, d0, _⟩ := tc_cells HRD9.out (i := nl) (x := tcA t) (by rw [List.getElem?_append_right (by rw [h2, HNL.out]; exact Nat.le_refl _), h2, HNL.out, Nat.sub_self]; rfl)
    rw [hr9]
    obtain ⟨n9, hn9⟩ : ∃ n9, nl + 1 = n9 := ⟨_, rfl⟩
    rw [hn9]
    have hnI : (n9 : Int) = (nl : Int) + 1 := by omega
    have hneq : ((n9 : Int) != (nl : Int) + 1) = false := by simp [hnI]
    have hlt9 : (nl : Int) < (n9 : Int) := by omega
    have hnb : (nl : Int) + 1 ≤ 1001 := by have := HPO.out; unfold Hid at *; omega
    simp only [tcA] at d0
    clear HRD9 HLW h1 h2 hr9 hn9
    go_wp2_with fail
    refine cm.mono ?_
    rintro e w10 ⟨rfl, rfl⟩
    go_wp2
    go_ret
    exact ⟨rfl, HF9.out⟩
   ·have hgb : (l3 == 0) = false := by simpa using hG
    clear HRD9 HLW
    go_wp2_with fail
    refine cm.mono ?_
    rintro e w10 ⟨rfl, rfl⟩
    go_wp2
    go_ret
    exact ⟨rfl, HF9.out⟩
 ·have hfb : (f3 == 0) = false := by simpa using hF
  go_wp2_with fail
  clear hgt hgd
  go_loopg [13, 14, 94] rn (fun kx s13 s14 s94 wr => ∃ i : Nat, s94 = .int .i64 i ∧ i ≤ rn ∧ rn - i ≤ kx ∧ Hid (Below w7.heap.size w7 wr))
  case atStart => exact ⟨0, rfl, Nat.zero_le _, by omega, Below.refl _ _⟩
  case round =>
   obtain ⟨i, rfl, hin, hkx, HW⟩ := hrel
   by_cases hlt : i < rn
   ·obtain ⟨⟨xk, xi, xn, xl, xh⟩, hx⟩ : ∃ x, Z[i]? = some x := ⟨_, List.getElem?_eq_getElem (by have := HRL.out; omega)⟩
    obtain ⟨g1, g2, g3⟩ := HZ.out _ _ hx
    obtain ⟨b6, o6, rfl, d0, d1, d2, d3, d4⟩ := tc_cells (HRD.out.below HW.out) hx
    dsimp only at g1 g2 g3 d0 d1 d2 d3 d4
    subst g1
    have HLD : Hid _ := tc_load (HRD.out.below HW.out) hx
    have hA := bel1 wr (.cells #[.int .i64 5, .int .u32 xi, .string xn, .int .i64 xl, .int .i64 xh] 73)
    have hrow := heap_alloc_new wr (.cells #[.int .i64 5, .int .u32 xi, .string xn, .int .i64 xl, .int .i64 xh] 73)
    obtain ⟨wA, hwA⟩ : ∃ wA, wr.alloc (.cells #[.int .i64 5, .int .u32 xi, .string xn, .int .i64 xl, .int .i64 xh] 73) = wA := ⟨_, rfl⟩
    rw [hwA] at hA hrow
    have v0 : wA.cell? ⟨wr.heap.size, 0, none⟩ = some (.int .i64 5) := by rw [cell_of_row _ _ _ _ _ (0, 0) hrow]; rfl
    have v1 : wA.cell? ⟨wr.heap.size, 1, none⟩ = some (.int .u32 xi) := by rw [cell_of_row _ _ _ _ _ (0, 0) hrow]; rfl
    have v2 : wA.cell? ⟨wr.heap.size, 2, none⟩ = some (.string xn) := by rw [cell_of_row _ _ _ _ _ (0, 0) hrow]; rfl
    obtain ⟨b7, o7, hul, z0⟩ := s_cell ((HN7.out.below HW.out).below hA).1 g2
    subst hul
    have HNX : Hid (Below w7.heap.size w7 wA) := thenB HW.out hA
    have hiI : (i : Int) < (rn : Int) := by omega
    have hiN : (i : Int) < (nl : Int) := by have := HLE.out; unfold Hid at this; omega
    have hib : (i : Int) + 1 ≤ 1001 := by have := HLE.out; have := HPO.out; unfold Hid at *; omega
    by_cases hi0 : i = 0
    ·subst hi0
     obtain rfl := g3 rfl
     have hiJ : (0 : Int) < (rn : Int) := by omega
     have hiM : (0 : Int) < (nl : Int) := by omega
     clear hx g2 g3 hA hrow HW
     rw [Nat.zero_mul, Nat.add_zero] at HLD
     rw [Nat.add_zero] at z0
     go_wp2_with (first | (refine wpList_loadG rfl 73 _ rfl _ rfl _ HLD.out ?_; try rw [hwA]))
     go_quiet (fail)
     go_wp2
     go_roundg (rn - (0 + 1))
     case measure => omega
     case rel => exact ⟨0 + 1, rfl, by omega, by omega, thenB HNX.out (belowQ _ _ _)⟩
    ·have hi0b : ((i : Int) == 0) = false := by simp; omega
     have hi0I : ¬ (i : Int) = 0 := by omega
     clear hx g2 g3 hA hrow HW
     go_wp2_with (first | (refine wpList_loadG rfl 73 _ rfl _ rfl _ HLD.out ?_; try rw [hwA]))
     go_quiet (fail)
     go_wp2
     go_roundg (rn - (i + 1))
     case measure => omega
     case rel => exact ⟨i + 1, by rw [show ((i : Int) + 1) = ((i + 1 : Nat) : Int) by omega], by omega, by omega, thenB HNX.out (belowQ _ _ _)⟩
   obtain rfl : rn = i := by omega
   have HPr : Hid (Pr B w0 wr pp a S2) := HP7.out.below HW.out
   have q0 := HPr.out.c0
   have cc := HPr.out.lstD HK6.out (by decide) sp HSP.out
   generalize drList DgP S2 sp = L at *
   obtain ⟨S3, l2, l3⟩ := L
   dsimp only at cc HLW
   clear HW HRD HP7
   go_wp2_with fail
   refine cc.mono ?_
   rintro e w8 ⟨hp, v, rfl, hk8, _⟩
   clear cc q0
   have HP8 : Hid (Pr B w0 w8 pp a S3) := hp
   have q0 := HP8.out.c0
   have qr := HP8.out.sr
   have cc := HP8.out.aR (Nat.le_trans hk8.k.R (by decide))
   clear hp hk8 HPr
   go_wp2_with fail
   refine cc.mono ?_
   rintro e w9 ⟨ad9, c9, rfl, hrd, hb9⟩
   clear cc q0 qr
   have HP9 : Hid (Pr B w0 w9 pp a S3) := HP8.out.below hb9
   have HF9 : Hid (Below w.heap.size w w9) := HB0.out.1.trans (HP9.out.bel.mono HB0.out.2)
   have hu : S3.U.length = S.U.length := by rw [HLW.out.1]
   have cm := HP9.out.mU
   rw [hu] at cm
   have q0 := HP9.out.c0
   have qu := HP9.out.su
   have HRD9 : Hid (RdZ 5 tcE w9 (.slice ad9 S3.R.length c9) S3.R) := hrd
   clear hrd hb9 HP8 hu
   by_cases hG : l3 = 0
   ·subst hG
    obtain ⟨t, h1, h2⟩ := HLW.out.2 rfl
    rw [h1] at HRD9 ⊢
    have hr9 : (Z ++ [tcA t]).length = nl + 1 := by rw [List.length_append, h2, HNL.out]; rfl
    obtain ⟨b9, o9, rfl, d0, _⟩ := tc_cells HRD9.out (i := nl) (x := tcA t) (by rw [List.getElem?_append_right (by rw [h2, HNL.out]; exact Nat.le_refl _), h2, HNL.out, Nat.sub_self]; rfl)
    rw [hr9]
    obtain ⟨n9, hn9⟩ : ∃ n9, nl + 1 = n9 := ⟨_, rfl⟩
    rw [hn9]
    have hnI : (n9 : Int) = (nl : Int) + 1 := by omega
    have hneq : ((n9 : Int) != (nl : Int) + 1) = false := by simp [hnI]
    have hlt9 : (nl : Int) < (n9 : Int) := by omega
    have hnb : (nl : Int) + 1 ≤ 1001 := by have := HPO.out; unfold Hid at *; omega
    simp only [tcA] at d0
    clear HRD9 HLW h1 h2 hr9 hn9
    go_wp2_with fail
    refine cm.mono ?_
    rintro e w10 ⟨rfl, rfl⟩
    go_wp2
    go_ret
    exact ⟨rfl, HF9.out⟩
   ·have hgb : (l3 == 0) = false := by simpa using hG
    clear HRD9 HLW
    go_wp2_with fail
    refine cm.mono ?_
    rintro e w10 ⟨rfl, rfl⟩
    go_wp2
    go_ret
    exact ⟨rfl, HF9.out⟩

/-! ### The row -/
set_option maxRecDepth 100000 in
theorem lifted (os : Os) (started : os.Started) (H : Type) (enc : TypeId × Value → H) :
  ReturnsInHanded {} Tryz.checked os 7 .any (Rows.dirTouchesSpec.pre6 enc Tryz.prog Tryz.f7 Rows.dirTouchesRow.domain false) (Rows.dirTouchesSpec.post enc Tryz.prog Tryz.f7 false true false false) := by
 refine returnsInHanded_of_change (C := Tryz.checked) own started (by kernel_rfl) Tryz.func7
  (ChangeSpec.witness6 (enc := enc) (C := Tryz.checked) false ⟨#[], #[.slice none 0 0, .string ByteArray.empty], []⟩ 8 (by kernel_rfl) (by kernel_rfl) (by kernel_rfl) (by kernel_rfl)) ?_
 intro W base args ds gs before hval0 hW hcnd _
 have hval : ∀ (j : Nat) t v, Tryz.f7.params[j]? = some t → args[j]? = some v → Value.okWide Tryz.prog W .any base t v := hval0
 have hW' := hW
 obtain ⟨p, q, hA0, hV, rfl, hfz, hnd⟩ := hW
 have hA : DataW.TrodAll enc Tryz.prog W 0 (fun _ => true) true Tryz.f7.params.toList args.toList ds p := hA0
 rw [Tryz.params7] at hA hval
 obtain ⟨v0, vs0, d0, ds0, p0, q0, hargs, rfl, rfl, h0, r0⟩ := trodAll_cons hA
 obtain ⟨v1, vs1, d1, ds1, p1, q1, rfl, rfl, rfl, h1, r1⟩ := trodAll_cons r0
 obtain ⟨rfl, rfl, rfl⟩ := trodAll_nil r1
 obtain rfl : args = #[v0, v1] := by cases args; simp_all
 obtain ⟨rfl, rfl⟩ := trodVars_none hV
 obtain ⟨a0, len0, cap0, rfl⟩ := okWide_slice Tryz.underlying39 (hval 0 39 v0 rfl rfl)
 have k0 := h0
 have lt0 : ∀ x ∈ p0, x.block < W.heap.size := by obtain ⟨m, hm⟩ := k0; exact DataW.trod_lt m _ _ _ hm
 obtain ⟨o0, w0, ws0⟩ : ∃ os : List Rop, RdZ 5 ropE W (.slice a0 len0 cap0) os ∧ ∀ o ∈ os, o.old.size ≤ maxLen ∧ o.p.size ≤ maxLen := by
  obtain ⟨fuel, hf⟩ := h0
  exact rops_of hf
 obtain ⟨a1, rfl, rfl, rfl, w1⟩ := open_string Tryz.underlying9 (hval 1 9 v1 rfl rfl) h1
 clear hA0 hval0
 refine (walk a0 len0 cap0 o0 a1 W w0 ws0 w1).mono fun e W' ⟨he, bel⟩ => ?_
 subst he
 exact ⟨_, rfl, _, _, _, [], _, [], hW', trodAll_mk1 (shut_bool Tryz.underlying4 _), (trodAll_cons_mk (Below.trod laidOut (by kernel_rfl) (of_decide_eq_true (by kernel_rfl)) k0 bel lt0) (trodAll_cons_mk (shut_string Tryz.underlying9 w1) trodAll_mk0)), rfl, bel.frame _, fun h => by cases h⟩

theorem over : Rows.dirTouchesRow.holds Tryz.pinned (OpenSpec.ofChange Rows.dirTouchesSpec) :=
 OpenClaim.holds_of_wide 7 Tryz.f7 rfl rfl rfl rfl rfl rfl rfl ⟨rfl, rfl, rfl, rfl, rfl⟩ rfl rfl rfl rfl rfl (by kernel_rfl) Tryz.func7 (by kernel_rfl)
  (of_decide_eq_true (by kernel_rfl)) (by unfold Func.isWrapper; first | (rw [if_pos (by decide +kernel)]; kernel_rfl) | (rw [if_neg (by decide +kernel)]; exact ⟨rfl, rfl⟩))
  (fun os started H enc _ => lifted os started H enc)

end Go.Proofs.YtiplhhaehbjghaaGreat.dirTouches

namespace Go.Proofs.YtiplhhaehbjghaaGreat
/-- The statement. -/
theorem dirTouches_proved : Rows.DirTouchesSaid := dirTouches.over
#print axioms dirTouches_proved
end Go.Proofs.YtiplhhaehbjghaaGreat
