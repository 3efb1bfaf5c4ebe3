/- Proved: whatever is done, from any base on, bytes are, and what was read and written is, just what the document says -/
import Derived.Test.YtiplhhaehbjghaaGreatVR
import Derived.Test.YtiplhhaehbjghaaGreatSM
import Derived.Test.YtiplhhaehbjghaaGreatVA
import Derived.Test.YtiplhhaehbjghaaGreatRxD
import Derived.Deep.RegionHeld3
import Derived.BigQuiet
import Derived.Deep.QuietTactic
import Derived.WalkSmall
import Derived.ProofKit
import Derived.OpenShut
import Derived.ShutString
import Derived.ChangeOld
import Derived.Below
import Derived.Carry
import Derived.Deep.CutRange
import Derived.Deep.CutBlock
import Derived.Deep.LoopGhost
namespace Go.Proofs.YtiplhhaehbjghaaGreat.extentGoes
open Go.ChangeShapes Go.WideShapes Go.ChangeAt Go.RowKit Go.Maps
open Go.ChangeMaps (open_string shut_string)
set_option linter.unusedVariables false
set_option maxHeartbeats 32000000
set_option maxRecDepth 100000
set_option linter.unusedSimpArgs false
theorem own : ownKnob Tryz.prog.godebug = none := by kernel_rfl
theorem laidOut : laidOutB Tryz.prog = true := by kernel_rfl
theorem walk (ad : Option Addr) (len cap : Nat) (l : List (ByteArray × ByteArray)) (z : Int) (ao : Option Addr) (on oc : Nat) (os : List Eop) (w : World) (hl : RdK w ad len cap l) (hlo : KvsOk l) (hz : (Lit.int .i64 z).wf = true) (ho : EopsAt w ao on oc os) : Calls Tryz.prog 4 #[.slice ad len cap, .int .i64 z, .slice ao on oc] w fun e w' => e = .returned (.bool true) ∧ Below w.heap.size w w' := by
 obtain ⟨z0, z1⟩ := bounds_i64 hz
 obtain ⟨hon, honc, hocm⟩ := ho.1.len
 have HO : Hid (EopsAt w ao on oc os) := ho
 have HON : Hid (os.length = on) := hon
 have HLB : Hid (∀ q, 0 < len → ad = some q → q.block < w.heap.size) := fun q hp e => by
  obtain ⟨b, off, e', hlt, _⟩ := hl.2.2.2 hp
  rw [e] at e'; cases e'; exact hlt
 have HL : Hid (RdK w ad len cap l) := hl
 clear hz hlo hl ho hon honc hocm
 go_enter Tryz.func4, Tryz.ntmps4
 go_wp2_with fail
 refine (exlive_any w).mono ?_
 rintro e w1 ⟨rfl, hb1⟩
 have cr := rising_any w1 ad len cap l (HL.out.below hb1)
 have HB1 : Hid (Below w.heap.size w w1) := hb1
 clear hb1
 go_wp2_with fail
 refine cr.mono ?_
 rintro e w2 ⟨rv, rfl, ⟨rb, rfl, hris⟩, hb2⟩
 have HB2 : Hid (Below w.heap.size w w2) := thenB HB1.out hb2
 clear hris hb2 cr
 cases rb
 ·go_wp2
  go_ret
  exact ⟨rfl, HB2.out⟩
 by_cases hbig : 50 < on
 ·have hbg : (50 : Int) < (on : Int) := by omega
  go_wp2
  go_ret
  exact ⟨rfl, HB2.out⟩
 have hbg : ¬ (50 : Int) < (on : Int) := by omega
 have hon60 : on ≤ 50 := by omega
 clear hbig
 have cb := begin_in w2 ad len cap l (HL.out.below HB2.out) (B := w.heap.size) HB2.out.size HLB.out z z1 100 (by decide) (by decide)
 go_wp2_with fail
 refine cb.mono ?_
 intro e w3 hbx
 obtain ⟨pp, a, x, rfl, hBo⟩ := Bo.of hbx HB2.out.size (HL.out.below HB2.out) HLB.out z1 (by decide) (by decide)
 have HS0 : Hid (Bo w.heap.size w2 w3 pp a x [] (sg0 l z 100) (sg0 l z 100)) := hBo
 clear cb hbx hBo
 go_wp2_with fail
 go_loopg [10, 28] on (fun kx s10 s28 wr => ∃ (i : Nat) (s : Sg), s28 = .int .i64 i ∧ i ≤ on ∧ on - i ≤ kx ∧ Hid (Bo w.heap.size w2 wr pp a x [] s s) ∧ Hid (Iv s) ∧ Hid (Sk s (30 * i)))
 case atStart => exact ⟨0, _, rfl, Nat.zero_le _, by omega, HS0.out, Iv.start _ _ _ z1, sk0 _ _ _⟩
 case round =>
  obtain ⟨i, s, rfl, hin, hkx, HS, HV, HK⟩ := hrel
  have HBR : Hid (Below w.heap.size w wr) := HB2.out.trans HS.out.bel
  by_cases hlt : i < on
  ·obtain ⟨⟨f0, oo, om, oi, od⟩, hx⟩ : ∃ o, os[i]? = some o := ⟨_, List.getElem?_eq_getElem (by have := HON.out; omega)⟩
   have hok := HO.out.2 _ (List.mem_of_getElem? hx)
   obtain ⟨bo, bf, rfl, hld⟩ := xeop_load (HO.out.1.below HBR.out) hx
   unfold eopC at hld
   dsimp only at hld
   have HLD : Hid _ := hld
   have hbl := bel1 wr (.cells (eopC ⟨f0, oo, om, oi, od⟩) 36)
   have hop : EoRow (wr.alloc (.cells (eopC ⟨f0, oo, om, oi, od⟩) 36)) wr.heap.size ⟨f0, oo, om, oi, od⟩ := heap_alloc_new wr _
   have hiI : (i : Int) < (on : Int) := by omega
   have hib : (i : Int) + 1 ≤ 1000 := by omega
   obtain ⟨w5, hw5⟩ : ∃ w5, wr.alloc (.cells (eopC ⟨f0, oo, om, oi, od⟩) 36) = w5 := ⟨_, rfl⟩
   rw [hw5] at hbl hop
   unfold eopC at hw5
   dsimp only at hw5
   have h5 := HS.out.below hbl
   have LO : Hid _ := hop.xload
   have HB5 : Hid (Below w.heap.size w w5) := thenB HBR.out hbl
   have HS5 : Hid (Bo w.heap.size w2 w5 pp a x [] s s) := h5
   have HI : Hid (i ≤ on ∧ on - i ≤ gk ∧ on ≤ 50 ∧ i < on) := ⟨hin, hkx, hon60, hlt⟩
   have cd := doe_any h5 HV.out HK.out (by omega) hok
   have hv6 := doE_iv HV.out HK.out hok
   have hk6 := doE_sk HV.out HK.out ⟨f0, oo, om, oi, od⟩
   obtain ⟨s', hs'⟩ : ∃ s', doE s ⟨f0, oo, om, oi, od⟩ = s' := ⟨_, rfl⟩
   rw [hs'] at cd hv6 hk6
   have HV6 : Hid (Iv s') := hv6
   have HK6 : Hid (Sk s' (30 * (i + 1))) := hk6.mono (by omega)
   clear hok hx hld hbl hop h5 HS hv6 hk6 hs'
   unfold eopC at LO cd
   dsimp only at LO cd
   go_wp2_with (first | (refine wpList_loadG rfl 36 _ rfl _ rfl _ HLD.out ?_; try rw [hw5]) | (refine wpList_loadG rfl 36 _ rfl _ rfl _ LO.out ?_))
   refine cd.mono ?_
   rintro e w6 ⟨rfl, h6⟩
   clear cd
   have HS6 : Hid (Bo w.heap.size w2 w6 pp a x [] s' s') := h6
   have cs := bo_same h6 HV6.out.d HK6.out (by have := HI.out; omega)
   clear h6
   go_wp2_with fail
   refine cs.mono ?_
   rintro e w7 ⟨rfl, hb7⟩
   clear cs
   have HS7 : Hid (Bo w.heap.size w2 w7 pp a x [] s' s') := HS6.out.below hb7
   clear hb7
   go_wp2_with fail
   go_roundg (on - (i + 1))
   case measure => omega
   case rel => exact ⟨i + 1, s', by rw [show ((i : Int) + 1) = ((i + 1 : Nat) : Int) by omega], by omega, by omega, HS7, HV6, HK6⟩
  ·obtain rfl : on = i := by omega
   go_wp2_with fail
   go_ret
   exact ⟨rfl, HBR.out⟩
theorem lifted (os : Os) (started : os.Started) (H : Type) (enc : TypeId × Value → H) :
  ReturnsInHanded {} Tryz.checked os 4 .any (Rows.extentGoesSpec.pre6 enc Tryz.prog Tryz.f4 Rows.extentGoesRow.domain false) (Rows.extentGoesSpec.post enc Tryz.prog Tryz.f4 false true false false) := by
 refine returnsInHanded_of_change (C := Tryz.checked) own started (by kernel_rfl) Tryz.func4
  (ChangeSpec.witness6 (enc := enc) (C := Tryz.checked) false ⟨#[], #[.slice none 0 0, .int .i64 0, .slice none 0 0], []⟩ 8 (by kernel_rfl) (by kernel_rfl) (by kernel_rfl) (by kernel_rfl)) ?_
 intro W base args ds gs before hval0 hW hcnd _
 have hval : ∀ (j : Nat) t v, Tryz.f4.params[j]? = some t → args[j]? = some v → Value.okWide Tryz.prog W .any base t v := hval0
 have hW' := hW
 obtain ⟨p, q, hA0, hV, rfl, hfz, hnd⟩ := hW
 have hA : DataW.TrodAll enc Tryz.prog W 0 (fun _ => true) true Tryz.f4.params.toList args.toList ds p := hA0
 rw [Tryz.params4] at hA hval
 obtain ⟨v0, vs0, d0, ds0, p0, q0, hargs, rfl, rfl, h0, r0⟩ := trodAll_cons hA
 obtain ⟨v1, vs1, d1, ds1, p1, q1, rfl, rfl, rfl, h1, r1⟩ := trodAll_cons r0
 obtain ⟨v2, vs2, d2, ds2, p2, q2, rfl, rfl, rfl, h2, r2⟩ := trodAll_cons r1
 obtain ⟨rfl, rfl, rfl⟩ := trodAll_nil r2
 obtain rfl : args = #[v0, v1, v2] := by cases args; simp_all
 obtain ⟨rfl, rfl⟩ := trodVars_none hV
 obtain ⟨a0, len0, cap0, rfl⟩ := okWide_slice Tryz.underlying22 (hval 0 22 v0 rfl rfl)
 have k0 := h0
 have lt0 : ∀ x ∈ p0, x.block < W.heap.size := by obtain ⟨m, hm⟩ := k0; exact DataW.trod_lt m _ _ _ hm
 obtain ⟨o0, w0, ws0⟩ : ∃ os, RdK W a0 len0 cap0 os ∧ KvsOk os := by
  obtain ⟨fuel, hf⟩ := h0
  exact kvs_of hf
 obtain ⟨a1, rfl, rfl, rfl, w1⟩ := open_int Tryz.underlying3 (hval 1 3 v1 rfl rfl) h1
 obtain ⟨a2, len2, cap2, rfl⟩ := okWide_slice Tryz.underlying34 (hval 2 34 v2 rfl rfl)
 have k2 := h2
 have lt2 : ∀ x ∈ p2, x.block < W.heap.size := by obtain ⟨m, hm⟩ := k2; exact DataW.trod_lt m _ _ _ hm
 obtain ⟨o2, w2⟩ : ∃ os, EopsAt W a2 len2 cap2 os := by
  obtain ⟨fuel, hf⟩ := h2
  exact eops_of hf
 clear hA0 hval0
 refine (walk a0 len0 cap0 o0 a1 a2 len2 cap2 o2 W w0 ws0 w1 w2).mono fun e W' ⟨he, bel⟩ => ?_
 subst he
 exact ⟨_, rfl, _, _, _, [], _, [], hW', trodAll_mk1 (shut_bool Tryz.underlying4 _), (trodAll_cons_mk (Below.trod laidOut (by kernel_rfl) (of_decide_eq_true (by kernel_rfl)) k0 bel lt0) (trodAll_cons_mk (shut_int Tryz.underlying3 w1) (trodAll_cons_mk (Below.trod laidOut (by kernel_rfl) (of_decide_eq_true (by kernel_rfl)) k2 bel lt2) trodAll_mk0))), rfl, bel.frame _, fun h => by cases h⟩
theorem over : Rows.extentGoesRow.holds Tryz.pinned (OpenSpec.ofChange Rows.extentGoesSpec) :=
 OpenClaim.holds_of_wide 4 Tryz.f4 rfl rfl rfl rfl rfl rfl rfl ⟨rfl, rfl, rfl, rfl, rfl⟩ rfl rfl rfl rfl rfl (by kernel_rfl) Tryz.func4 (by kernel_rfl)
  (of_decide_eq_true (by kernel_rfl)) (by unfold Func.isWrapper; first | (rw [if_pos (by decide +kernel)]; kernel_rfl) | (rw [if_neg (by decide +kernel)]; exact ⟨rfl, rfl⟩))
  (fun os started H enc _ => lifted os started H enc)
end Go.Proofs.YtiplhhaehbjghaaGreat.extentGoes
namespace Go.Proofs.YtiplhhaehbjghaaGreat
theorem extentGoes_proved : Rows.ExtentGoesSaid := extentGoes.over
#print axioms extentGoes_proved
end Go.Proofs.YtiplhhaehbjghaaGreat
