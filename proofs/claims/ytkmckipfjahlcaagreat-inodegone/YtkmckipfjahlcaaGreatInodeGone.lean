/- Proved: what was removed is there no more, nor is any chunk of it; what is made has one link and no bytes. -/
import Derived.Test.YtkmckipfjahlcaaGreatInO
import Derived.Test.YtkmckipfjahlcaaGreatInT2
import Derived.Test.YtkmckipfjahlcaaGreatVwRis
import Derived.Test.YtkmckipfjahlcaaGreatVwArg
import Derived.Deep.RegionHeld3
import Derived.BigQuiet
import Derived.Deep.QuietTactic
import Derived.WalkSmall
import Derived.ProofKit
import Derived.OpenShut
import Derived.ShutString
import Derived.ChangeOld
import Derived.Below
import Derived.Carry
import Derived.Deep.CutRange
import Derived.Deep.CutBlock
namespace Go.Proofs.YtkmckipfjahlcaaGreat.inodeGone
open Go.ChangeShapes Go.WideShapes Go.ChangeAt Go.RowKit
open Go.ChangeMaps (open_string shut_string)
set_option linter.unusedVariables false
set_option linter.unusedSimpArgs false

theorem own : ownKnob Tryz.prog.godebug = none := by kernel_rfl
theorem laidOut : laidOutB Tryz.prog = true := by kernel_rfl

set_option maxRecDepth 100000 in
set_option maxHeartbeats 16000000 in
theorem walk (ad : Option Addr) (len cap : Nat) (l : List (ByteArray × ByteArray)) (ino z : Int) (w : World) (hl : RdK w ad len cap l) (hlo : KvsOk l) (hi : (Lit.int .u32 ino).wf = true) (hz : (Lit.int .i64 z).wf = true) : Calls Tryz.prog 6 #[.slice ad len cap, .int .u32 ino, .int .i64 z] w fun e w' => e = .returned (.bool true) ∧ Below w.heap.size w w' := by
  obtain ⟨i0, i1⟩ := bounds_u32 hi
  obtain ⟨z0, z1⟩ := bounds_i64 hz
  clear hi hz hlo
  have hzI := zeroItem
  have len0 := ch_zero.1
  have HLB : Hid (∀ q, 0 < len → ad = some q → q.block < w.heap.size) := fun q hp e => by
    obtain ⟨b, off, e', hlt, _⟩ := hl.2.2.2 hp
    rw [e] at e'; cases e'; exact hlt
  have HL : Hid (RdK w ad len cap l) := hl
  clear hl
  go_enter Tryz.func6, Tryz.ntmps6
  have cv := live_any w
  go_wp2_with fail
  refine cv.mono ?_
  rintro e w1 ⟨rfl, hb1⟩
  clear cv
  have cr := rising_any w1 ad len cap l (HL.out.below hb1)
  have HB1 : Hid (Below w.heap.size w w1) := hb1
  clear hb1
  go_wp2_with fail
  refine cr.mono ?_
  rintro e w2 ⟨rv, rfl, ⟨rb, rfl, hris⟩, hb2⟩
  clear cr
  have HB2 : Hid (Below w.heap.size w w2) := thenB HB1.out hb2
  clear hris hb2
  cases rb
  · go_wp2
    go_ret
    exact ⟨rfl, HB2.out⟩
  have cb := begin_in w2 ad len cap l (HL.out.below HB2.out) (B := w.heap.size) HB2.out.size HLB.out 64 (by decide) 100 (by decide) (by decide)
  go_wp2_with fail
  refine cb.mono ?_
  intro e w3 hbg
  obtain ⟨pp, a, rfl, hp3⟩ := Pr.of hbg HB2.out.size
  have HP3 : Hid (Pr w.heap.size w2 w3 pp a (sg0 l 64 100)) := hp3
  clear cb hbg hp3
  obtain ⟨S, hS⟩ : ∃ S, sg0 l 64 100 = S := ⟨_, rfl⟩
  have HK : Hid (Sk S 0) := by unfold Hid; rw [← hS]; exact sk0 _ _ _
  have HSE : Hid (S.d.L = [] ∧ S.R = [] ∧ S.d.most = 64 ∧ S.n = 100) := by unfold Hid; rw [← hS]; exact ⟨rfl, rfl, rfl, rfl⟩
  have HDL : Hid (DlOk S.d) := by unfold Hid; rw [← hS]; exact newS_ok (by decide)
  rw [hS] at HP3
  clear hS
  -- Stat
  have q0 := HP3.out.c0
  have cs := HP3.out.stat ino i0 i1 HK.out (by decide)
  obtain ⟨S1, hS1⟩ : ∃ S1, (statR S ino).1 = S1 := ⟨_, rfl⟩
  have HS1 : Hid (S1.d = S.d ∧ S1.l = S.l ∧ S1.n = S.n) := by
    unfold Hid; rw [← hS1]; unfold statR; split <;> exact ⟨rfl, rfl, rfl⟩
  have HK1 : Hid (Sk S1 3) := by unfold Hid; rw [← hS1]; exact HK.out.stat ino
  have HST : Hid ((statR S ino).2 = if (fdR S ino).2 ≠ 0 then (in0, (fdR S ino).2) else ((fdR S ino).1, 0)) := by unfold Hid statR; split <;> rfl
  have HFD : Hid (fdR S1 ino = fdR S ino) := fd_same HS1.out.2.1 HS1.out.1 ino
  rw [hS1] at cs
  have hrm := rm_first (s := S1) (by rw [HS1.out.1]; exact HSE.out.1) (by rw [HS1.out.1]; exact HSE.out.2.2.1) (by rw [HS1.out.1]; exact HDL.out) ino i0 i1
  rw [HFD.out] at hrm
  have hbd := fd_bd HDL.out HK.out.ck ino
  generalize hF : fdR S ino = F at *
  obtain ⟨⟨fk, fm, fl, fz⟩, fe⟩ := F
  generalize hSt : (statR S ino).2 = St at *
  obtain ⟨⟨sk, sm, sl, sz⟩, se⟩ := St
  dsimp only at hrm HST hbd
  unfold inV at cs
  dsimp only at cs
  have HBD : Hid (Bd ⟨fk, fm, fl, fz⟩) := hbd
  have HSS : Hid ((sz = fz ∧ se = 0 ∧ fe = 0) ∨ (sz = 0 ∧ se = fe ∧ fe ≠ 0)) := by
    unfold Hid
    have h := HST.out
    by_cases h0 : fe = 0
    · rw [if_neg (by simpa using h0)] at h; cases h; exact .inl ⟨rfl, rfl, h0⟩
    · rw [if_pos h0] at h; cases h; exact .inr ⟨rfl, rfl, h0⟩
  clear hS1 hSt hF HFD HST hbd
  have HRM : Hid _ := hrm
  clear hrm
  go_wp2_with fail
  refine cs.mono ?_
  rintro e w4 ⟨rfl, hp4⟩
  clear cs q0 HP3
  have hb5 := bel1 w4 (.cells #[.int .i64 sk, .int .i64 sm, .int .i64 sl, .int .i64 sz] 53)
  have hi5 : InRow (w4.alloc (.cells #[.int .i64 sk, .int .i64 sm, .int .i64 sl, .int .i64 sz] 53)) w4.heap.size sk sm sl sz := ⟨heap_alloc_new w4 _⟩
  obtain ⟨w5, hw5⟩ : ∃ w5, w4.alloc (.cells #[.int .i64 sk, .int .i64 sm, .int .i64 sl, .int .i64 sz] 53) = w5 := ⟨_, rfl⟩
  rw [hw5] at hb5 hi5
  have HP5 : Hid (Pr w.heap.size w2 w5 pp a S1) := hp4.below hb5
  have HI5 : Hid (InRow w5 w4.heap.size sk sm sl sz) := hi5
  clear hp4 hb5 hi5
  -- Remove
  have q0 := HP5.out.c0
  have cm := HP5.out.rmI ino i0 i1 HK1.out (by decide)
  obtain ⟨S2, hS2⟩ : ∃ S2, (rmR S1 ino).1 = S2 := ⟨_, rfl⟩
  obtain ⟨re, hre⟩ : ∃ re, (rmR S1 ino).2 = re := ⟨_, rfl⟩
  rw [hS2, hre] at cm HRM
  have HK2 : Hid (Sk S2 23) := by unfold Hid; rw [← hS2]; exact HK1.out.rm (by rw [HS1.out.1]; exact HDL.out) ino
  clear hS2 hre
  go_wp2_with fail
  refine cm.mono ?_
  rintro e w6 ⟨rfl, hp6, hk6⟩
  clear cm q0
  have HP6 : Hid (Pr w.heap.size w2 w6 pp a S2) := hp6
  have HI6 : Hid (InRow w6 w4.heap.size sk sm sl sz) := HI5.out.keepI hk6
  clear hp6 hk6 HP5 HI5
  obtain ⟨r1, r2, r3, r4, r5, r6, rcase⟩ := HRM.out
  have HD2 : Hid (DlOk S2.d ∧ CksOk S2.d ∧ (S2.d.L.length : Int) < S2.d.most ∧ S2.n = 100) := ⟨r3, r4, by rw [r5]; omega, by rw [r2, HS1.out.2.2]; exact HSE.out.2.2.2⟩
  have ck := HP6.out.kindI ino i0 i1
  have q0 := HP6.out.c0
  generalize hG : fdR S2 ino = G at *
  obtain ⟨⟨gk, gm, gl, gz⟩, ge⟩ := G
  dsimp only at ck rcase
  rcases rcase with ⟨rc1, rc2⟩ | ⟨rc1, rc2, rc3, rc4⟩
  · subst rc1
    have hse : se = re := by
      rcases HSS.out with ⟨_, _, h⟩ | ⟨_, h, _⟩
      · exact absurd h rc2
      · exact h
    subst hse
    have hreb : (se == 0) = false := by simpa using rc2
    clear HRM HSS r1 r2 r3 r4 r5 r6 rc2 hG
    go_wp2_with fail
    refine ck.mono ?_
    rintro e w7 ⟨rfl, hp7, hk7⟩
    clear ck q0 hk7
    have HPZ : Hid (Pr w.heap.size w2 w7 pp a S2) := hp7
    have HIZ : Hid True := trivial
    clear hp7 HP6 HI6
    go_wp2_with fail
    go_loopg [14] 1 (fun kx s14 wr => ∃ k : Nat, s14 = .int .i64 k ∧ wr = w7)
    case atStart => exact ⟨0, rfl, rfl⟩
    case round =>
      obtain ⟨k, rfl, rfl⟩ := hrel
      have q0 := HPZ.out.c0
      have cm := HPZ.out.make 1 z HK2.out (by decide)
      by_cases hzz : z < 0 ∨ 511 < z
      · rw [make_no hzz] at cm
        dsimp only at cm
        go_wp2_with fail
        refine cm.mono ?_
        rintro e wy ⟨rfl, hpy⟩
        have HBY : Hid (Below w.heap.size w wy) := HB2.out.trans hpy.bel
        clear cm q0 hpy HPZ HIZ
        rcases hzz with hz1 | hz1
        · go_wp2
          go_ret
          exact ⟨rfl, HBY.out⟩
        · have hz2 : ¬ z < 0 := by omega
          go_wp2
          go_ret
          exact ⟨rfl, HBY.out⟩
      have hz1 : ¬ z < 0 := by omega
      have hz2 : ¬ 511 < z := by omega
      obtain ⟨mk1, mk2⟩ := make_first HD2.out.1 HD2.out.2.1 HD2.out.2.2.1 HD2.out.2.2.2 (mode := z) (by omega) (by omega)
      rw [mk1] at cm
      have HK3 : Hid (Sk (makR S2 1 z).1 24) := HK2.out.make 1 z
      obtain ⟨S3, hS3⟩ : ∃ S3, (makR S2 1 z).1 = S3 := ⟨_, rfl⟩
      rw [hS3] at cm mk2 HK3
      dsimp only at cm
      have HF3 : Hid (fdR S3 100 = (⟨1, z, 1, 0⟩, 0)) := mk2
      clear hS3 mk1 mk2 hzz
      go_wp2_with fail
      refine cm.mono ?_
      rintro e wy ⟨rfl, hpy⟩
      clear cm q0 HPZ
      have HPY : Hid (Pr w.heap.size w2 wy pp a S3) := hpy
      have q0 := hpy.c0
      have hst : statR S3 100 = ({ S3 with R := addK S3.R 100 [1, 2, 3] }, ⟨1, z, 1, 0⟩, 0) := by unfold statR; rw [HF3.out, if_neg (by simp)]
      have ct := hpy.stat 100 (by decide) (by decide) HK3.out (by decide)
      rw [hst] at ct
      unfold inV at ct
      dsimp only at ct
      clear hpy hst HIZ
      go_wp2_with fail
      refine ct.mono ?_
      rintro e wx ⟨rfl, hpx⟩
      clear ct q0
      have hbx := bel1 wx (.cells #[.int .i64 1, .int .i64 z, .int .i64 1, .int .i64 0] 53)
      have hix : InRow (wx.alloc (.cells #[.int .i64 1, .int .i64 z, .int .i64 1, .int .i64 0] 53)) wx.heap.size 1 z 1 0 := ⟨heap_alloc_new wx _⟩
      have HBX : Hid (Below w.heap.size w (wx.alloc (.cells #[.int .i64 1, .int .i64 z, .int .i64 1, .int .i64 0] 53))) := (HB2.out.trans hpx.bel).trans (hbx.mono (HB2.out.trans hpx.bel).size)
      have lx : Hid _ := hix.load
      have heq : ∀ W, (binOp .eql 53 (.agg #[.int .i64 1, .int .i64 z, .int .i64 1, .int .i64 0]) (.agg #[.int .i64 1, .int .i64 z, .int .i64 1, .int .i64 0])).run Tryz.prog W = .ok (.bool true) W := fun W => by rw [eq_inodes]; rw [show inoEq 1 z 1 0 1 z 1 0 = true from inoEq_iff.2 ⟨rfl, rfl, rfl, rfl⟩]
      clear hpx hbx hix HPY
      go_wp2_with (refine wpList_loadG rfl 53 _ rfl _ rfl _ lx.out ?_)
      go_ret
      exact ⟨rfl, HBX.out⟩
  · subst rc1
    subst rc2
    have hs1 : sz = fz ∧ se = 0 := by
      rcases HSS.out with ⟨h1, h2, _⟩ | ⟨_, _, h⟩
      · exact ⟨h1, h2⟩
      · exact absurd rfl h
    obtain ⟨rfl, rfl⟩ := hs1
    have hge : ge = 220 := by have := congrArg Prod.snd rc3; exact this
    subst hge
    have HCH : Hid (∀ k : Nat, (k : Int) * 32 < sz → vgR S2.l S2.d (datP ino k) = (it0, false, 0)) := fun k hk => by rw [r1]; exact rc4 k hk
    have hzb0 := HBD.out.s0
    have hzb1 := HBD.out.s1
    dsimp only at hzb0 hzb1
    clear HRM HSS r1 r2 r3 r4 r5 r6 rc3 rc4 hG
    go_wp2_with fail
    refine ck.mono ?_
    rintro e w7 ⟨rfl, hp7, hk7⟩
    clear ck q0
    have HP7 : Hid (Pr w.heap.size w2 w7 pp a S2) := hp7
    have HI7 : Hid (InRow w7 w4.heap.size sk sm sl sz) := HI6.out.keepI hk7
    clear hp7 hk7 HP6 HI6
    go_wp2_with fail
    go_loopg [14] 17 (fun kx s14 wr => ∃ k : Nat, s14 = .int .i64 k ∧ k ≤ 16 ∧ 17 - k ≤ kx ∧ Hid (Pr w.heap.size w2 wr pp a S2 ∧ InRow wr w4.heap.size sk sm sl sz))
    case atStart => exact ⟨0, rfl, by decide, by omega, HP7.out, HI7.out⟩
    case round =>
      obtain ⟨k, rfl, hk16, hkx, HW⟩ := hrel
      have i3 := HW.out.2.cell 3 _ rfl
      by_cases hlt : (k : Int) * 32 < sz
      · have hk : k < 16 := by omega
        have q0 := HW.out.1.c0
        have q1 := HW.out.1.v0
        have cg := HW.out.1.get (datP ino k) (datP_ok i0 i1 (by omega))
        rw [HCH.out k hlt] at cg
        dsimp only at cg
        unfold plV datP at cg
        dsimp only at cg
        have hkb : (k : Int) ≤ 100 := by omega
        have hk0 : (0 : Int) ≤ (k : Int) := by omega
        go_wp2_with fail
        refine cg.mono ?_
        rintro e w8 ⟨rfl, hb8⟩
        clear cg q0 q1 i3
        have hn9 := ItAt.laid 66 w8 it0
        have hb9 : Below w8.heap.size w8 ((w8.alloc (.cells (itC it0) 66)).setRow w8.heap.size (itC it0)) := below_setRow (bel1 w8 _) (Nat.le_refl _) _
        obtain ⟨w9, hw9⟩ : ∃ w9, (w8.alloc (.cells (itC it0) 66)).setRow w8.heap.size (itC it0) = w9 := ⟨_, rfl⟩
        rw [hw9] at hb9
        have HW9 : Hid (Pr w.heap.size w2 w9 pp a S2 ∧ InRow w9 w4.heap.size sk sm sl sz) := ⟨HW.out.1.below (thenB hb8 hb9), HW.out.2.below (thenB hb8 hb9)⟩
        clear hb8 hb9 HW
        go_wp2_with (refine wpList_storeI rfl _ _ rfl w8.heap.size it0 it0 rfl rfl len0 len0 hn9 ?_; rw [hw9])
        clear hn9 hw9
        go_wp2_with fail
        go_roundg (17 - (k + 1))
        case measure => omega
        case rel => exact ⟨k + 1, by rw [show ((k : Int) + 1) = ((k + 1 : Nat) : Int) by omega], by omega, by omega, HW9.out⟩
      · have HPZ : Hid (Pr w.heap.size w2 wr pp a S2) := HW.out.1
        have HIZ : Hid True := trivial
        clear HW
        have q0 := HPZ.out.c0
        have cm := HPZ.out.make 1 z HK2.out (by decide)
        by_cases hzz : z < 0 ∨ 511 < z
        · rw [make_no hzz] at cm
          dsimp only at cm
          go_wp2_with fail
          refine cm.mono ?_
          rintro e wy ⟨rfl, hpy⟩
          have HBY : Hid (Below w.heap.size w wy) := HB2.out.trans hpy.bel
          clear cm q0 hpy HPZ HIZ
          rcases hzz with hz1 | hz1
          · go_wp2
            go_ret
            exact ⟨rfl, HBY.out⟩
          · have hz2 : ¬ z < 0 := by omega
            go_wp2
            go_ret
            exact ⟨rfl, HBY.out⟩
        have hz1 : ¬ z < 0 := by omega
        have hz2 : ¬ 511 < z := by omega
        obtain ⟨mk1, mk2⟩ := make_first HD2.out.1 HD2.out.2.1 HD2.out.2.2.1 HD2.out.2.2.2 (mode := z) (by omega) (by omega)
        rw [mk1] at cm
        have HK3 : Hid (Sk (makR S2 1 z).1 24) := HK2.out.make 1 z
        obtain ⟨S3, hS3⟩ : ∃ S3, (makR S2 1 z).1 = S3 := ⟨_, rfl⟩
        rw [hS3] at cm mk2 HK3
        dsimp only at cm
        have HF3 : Hid (fdR S3 100 = (⟨1, z, 1, 0⟩, 0)) := mk2
        clear hS3 mk1 mk2 hzz
        go_wp2_with fail
        refine cm.mono ?_
        rintro e wy ⟨rfl, hpy⟩
        clear cm q0 HPZ
        have HPY : Hid (Pr w.heap.size w2 wy pp a S3) := hpy
        have q0 := hpy.c0
        have hst : statR S3 100 = ({ S3 with R := addK S3.R 100 [1, 2, 3] }, ⟨1, z, 1, 0⟩, 0) := by unfold statR; rw [HF3.out, if_neg (by simp)]
        have ct := hpy.stat 100 (by decide) (by decide) HK3.out (by decide)
        rw [hst] at ct
        unfold inV at ct
        dsimp only at ct
        clear hpy hst HIZ
        go_wp2_with fail
        refine ct.mono ?_
        rintro e wx ⟨rfl, hpx⟩
        clear ct q0
        have hbx := bel1 wx (.cells #[.int .i64 1, .int .i64 z, .int .i64 1, .int .i64 0] 53)
        have hix : InRow (wx.alloc (.cells #[.int .i64 1, .int .i64 z, .int .i64 1, .int .i64 0] 53)) wx.heap.size 1 z 1 0 := ⟨heap_alloc_new wx _⟩
        have HBX : Hid (Below w.heap.size w (wx.alloc (.cells #[.int .i64 1, .int .i64 z, .int .i64 1, .int .i64 0] 53))) := (HB2.out.trans hpx.bel).trans (hbx.mono (HB2.out.trans hpx.bel).size)
        have lx : Hid _ := hix.load
        have heq : ∀ W, (binOp .eql 53 (.agg #[.int .i64 1, .int .i64 z, .int .i64 1, .int .i64 0]) (.agg #[.int .i64 1, .int .i64 z, .int .i64 1, .int .i64 0])).run Tryz.prog W = .ok (.bool true) W := fun W => by rw [eq_inodes]; rw [show inoEq 1 z 1 0 1 z 1 0 = true from inoEq_iff.2 ⟨rfl, rfl, rfl, rfl⟩]
        clear hpx hbx hix HPY
        go_wp2_with (refine wpList_loadG rfl 53 _ rfl _ rfl _ lx.out ?_)
        go_ret
        exact ⟨rfl, HBX.out⟩

/-! ### The row -/
set_option maxRecDepth 100000 in
theorem lifted (os : Os) (started : os.Started) (H : Type) (enc : TypeId × Value → H) :
    ReturnsInHanded {} Tryz.checked os 6 .any (Rows.inodeGoneSpec.pre6 enc Tryz.prog Tryz.f6 Rows.inodeGoneRow.domain false) (Rows.inodeGoneSpec.post enc Tryz.prog Tryz.f6 false true false false) := by
  refine returnsInHanded_of_change (C := Tryz.checked) own started (by kernel_rfl) Tryz.func6
    (ChangeSpec.witness6 (enc := enc) (C := Tryz.checked) false ⟨#[], #[.slice none 0 0, .int .u32 0, .int .i64 0], []⟩ 8 (by kernel_rfl) (by kernel_rfl) (by kernel_rfl) (by kernel_rfl)) ?_
  intro W base args ds gs before hval0 hW hcnd _
  have hval : ∀ (j : Nat) t v, Tryz.f6.params[j]? = some t → args[j]? = some v → Value.okWide Tryz.prog W .any base t v := hval0
  have hW' := hW
  obtain ⟨p, q, hA0, hV, rfl, hfz, hnd⟩ := hW
  have hA : DataW.TrodAll enc Tryz.prog W 0 (fun _ => true) true Tryz.f6.params.toList args.toList ds p := hA0
  rw [Tryz.params6] at hA hval
  obtain ⟨v0, vs0, d0, ds0, p0, q0, hargs, rfl, rfl, h0, r0⟩ := trodAll_cons hA
  obtain ⟨v1, vs1, d1, ds1, p1, q1, rfl, rfl, rfl, h1, r1⟩ := trodAll_cons r0
  obtain ⟨v2, vs2, d2, ds2, p2, q2, rfl, rfl, rfl, h2, r2⟩ := trodAll_cons r1
  obtain ⟨rfl, rfl, rfl⟩ := trodAll_nil r2
  obtain rfl : args = #[v0, v1, v2] := by cases args; simp_all
  obtain ⟨rfl, rfl⟩ := trodVars_none hV
  obtain ⟨a0, len0, cap0, rfl⟩ := okWide_slice Tryz.underlying22 (hval 0 22 v0 rfl rfl)
  have k0 := h0
  have lt0 : ∀ x ∈ p0, x.block < W.heap.size := by obtain ⟨m, hm⟩ := k0; exact DataW.trod_lt m _ _ _ hm
  obtain ⟨o0, w0, ws0⟩ : ∃ os, RdK W a0 len0 cap0 os ∧ KvsOk os := by
    obtain ⟨fuel, hf⟩ := h0
    exact kvs_of hf
  obtain ⟨a1, rfl, rfl, rfl, w1⟩ := open_int Tryz.underlying23 (hval 1 23 v1 rfl rfl) h1
  obtain ⟨a2, rfl, rfl, rfl, w2⟩ := open_int Tryz.underlying3 (hval 2 3 v2 rfl rfl) h2
  clear hA0 hval0
  refine (walk a0 len0 cap0 o0 a1 a2 W w0 ws0 w1 w2).mono fun e W' ⟨he, bel⟩ => ?_
  subst he
  exact ⟨_, rfl, _, _, _, [], _, [], hW', trodAll_mk1 (shut_bool Tryz.underlying4 _), (trodAll_cons_mk (Below.trod laidOut (by kernel_rfl) (of_decide_eq_true (by kernel_rfl)) k0 bel lt0) (trodAll_cons_mk (shut_int Tryz.underlying23 w1) (trodAll_cons_mk (shut_int Tryz.underlying3 w2) trodAll_mk0))), rfl, bel.frame _, fun h => by cases h⟩

theorem over : Rows.inodeGoneRow.holds Tryz.pinned (OpenSpec.ofChange Rows.inodeGoneSpec) :=
  OpenClaim.holds_of_wide 6 Tryz.f6 rfl rfl rfl rfl rfl rfl rfl ⟨rfl, rfl, rfl, rfl, rfl⟩ rfl rfl rfl rfl rfl (by kernel_rfl) Tryz.func6 (by kernel_rfl)
    (of_decide_eq_true (by kernel_rfl)) (by unfold Func.isWrapper; first | (rw [if_pos (by decide +kernel)]; kernel_rfl) | (rw [if_neg (by decide +kernel)]; exact ⟨rfl, rfl⟩))
    (fun os started H enc _ => lifted os started H enc)

end Go.Proofs.YtkmckipfjahlcaaGreat.inodeGone

namespace Go.Proofs.YtkmckipfjahlcaaGreat
/-- The statement. -/
theorem inodeGone_proved : Rows.InodeGoneSaid := inodeGone.over
#print axioms inodeGone_proved
end Go.Proofs.YtkmckipfjahlcaaGreat
