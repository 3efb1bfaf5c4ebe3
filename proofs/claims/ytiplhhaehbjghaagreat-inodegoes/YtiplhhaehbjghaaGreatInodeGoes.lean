/- Proved: inodes are, and what is read and written is, just what the document says, whatever is done from any base on -/
import Derived.Test.YtiplhhaehbjghaaGreatID
import Derived.Test.YtiplhhaehbjghaaGreatSM
import Derived.Test.YtiplhhaehbjghaaGreatVA
import Derived.Deep.RegionHeld3
import Derived.BigQuiet
import Derived.Deep.QuietTactic
import Derived.WalkSmall
import Derived.ProofKit
import Derived.OpenShut
import Derived.ShutString
import Derived.ChangeOld
import Derived.Below
import Derived.Carry
import Derived.Deep.CutRange
import Derived.Deep.CutBlock
import Derived.Deep.LoopGhost
namespace Go.Proofs.YtiplhhaehbjghaaGreat.inodeGoes
open Go.ChangeShapes Go.WideShapes Go.ChangeAt Go.RowKit
open Go.ChangeMaps (open_string shut_string)
set_option linter.unusedVariables false
set_option linter.unusedSimpArgs false

theorem own : ownKnob Tryz.prog.godebug = none := by kernel_rfl
theorem laidOut : laidOutB Tryz.prog = true := by kernel_rfl

set_option maxRecDepth 100000 in
set_option maxHeartbeats 16000000 in
theorem walk (ad : Option Addr) (len cap : Nat) (l : List (ByteArray × ByteArray)) (z : Int) (y : Int) (ao : Option Addr) (on oc : Nat) (os : List Iop) (w : World) (hl : RdK w ad len cap l) (hlo : KvsOk l) (hz : (Lit.int .i64 z).wf = true) (hy : (Lit.int .u32 y).wf = true) (ho : RdIop w (.slice ao on oc) os) : Calls Tryz.prog 3 #[.slice ad len cap, .int .i64 z, .int .u32 y, .slice ao on oc] w fun e w' => e = .returned (.bool true) ∧ Below w.heap.size w w' := by
 obtain ⟨z0, z1⟩ := bounds_i64 hz
 obtain ⟨y0, y1⟩ := bounds_u32 hy
 obtain ⟨hon, honc, hocm⟩ := ho.1.len
 have HO : Hid (RdIop w (.slice ao on oc) os) := ho
 have HON : Hid (os.length = on) := hon
 have HLB : Hid (∀ q, 0 < len → ad = some q → q.block < w.heap.size) := fun q hp e => by
  obtain ⟨b, off, e', hlt, _⟩ := hl.2.2.2 hp
  rw [e] at e'; cases e'; exact hlt
 have HL : Hid (RdK w ad len cap l) := hl
 clear hz hy hlo hl ho hon honc hocm
 go_enter Tryz.func3, Tryz.ntmps3
 go_wp2_with fail
 refine (live_any w).mono ?_
 rintro e w1 ⟨rfl, hb1⟩
 have cr := rising_any w1 ad len cap l (HL.out.below hb1)
 have HB1 : Hid (Below w.heap.size w w1) := hb1
 clear hb1
 go_wp2_with fail
 refine cr.mono ?_
 rintro e w2 ⟨rv, rfl, ⟨rb, rfl, hris⟩, hb2⟩
 have HB2 : Hid (Below w.heap.size w w2) := thenB HB1.out hb2
 clear hris hb2 cr
 cases rb
 ·go_wp2
  go_ret
  exact ⟨rfl, HB2.out⟩
 by_cases hbig : 60 < on
 ·have hbg : (60 : Int) < (on : Int) := by omega
  go_wp2
  go_ret
  exact ⟨rfl, HB2.out⟩
 have hbg : ¬ (60 : Int) < (on : Int) := by omega
 have hon60 : on ≤ 60 := by omega
 clear hbig
 have cb := begin_in w2 ad len cap l (HL.out.below HB2.out) (B := w.heap.size) HB2.out.size HLB.out z z1 y y0 y1
 go_wp2_with fail
 refine cb.mono ?_
 intro e w3 hbx
 obtain ⟨pp, a, x, rfl, hBo⟩ := Bo.of hbx HB2.out.size (HL.out.below HB2.out) HLB.out z1 y0 y1
 have HS0 : Hid (Bo w.heap.size w2 w3 pp a x [] (sg0 l z y) (sg0 l z y)) := hBo
 clear cb hbx hBo
 go_wp2_with fail
 go_loopg [12, 31] on (fun kx s12 s31 wr => ∃ (i : Nat) (s : Sg), s31 = .int .i64 i ∧ i ≤ on ∧ on - i ≤ kx ∧ Hid (Bo w.heap.size w2 wr pp a x [] s s) ∧ Hid (Iv s) ∧ Hid (Sk s (30 * i)))
 case atStart => exact ⟨0, _, rfl, Nat.zero_le _, by omega, HS0.out, Iv.start _ _ _ z1, sk0 _ _ _⟩
 case round =>
  obtain ⟨i, s, rfl, hin, hkx, HS, HV, HK⟩ := hrel
  have HBR : Hid (Below w.heap.size w wr) := HB2.out.trans HS.out.bel
  by_cases hlt : i < on
  ·obtain ⟨⟨⟨od, oa, ob, oi⟩, fa, fn, fc, fs⟩, hx⟩ : ∃ o, os[i]? = some o := ⟨_, List.getElem?_eq_getElem (by have := HON.out; omega)⟩
   have hok := HO.out.2 _ (List.mem_of_getElem? hx)
   obtain ⟨bo, oo, rfl, hld⟩ := iop_load (HO.out.1.below HBR.out) hx
   unfold iopC at hld
   dsimp only at hld
   have HLD : Hid _ := hld
   have hbl := bel1 wr (.cells (iopC ⟨od, oa, ob, oi⟩ fa fn fc) 31)
   have hop : IOpAt (wr.alloc (.cells (iopC ⟨od, oa, ob, oi⟩ fa fn fc) 31)) wr.heap.size ⟨od, oa, ob, oi⟩ fa fn fc := ⟨heap_alloc_new wr _⟩
   have hiI : (i : Int) < (on : Int) := by omega
   have hib : (i : Int) + 1 ≤ 1000 := by omega
   obtain ⟨w5, hw5⟩ : ∃ w5, wr.alloc (.cells (iopC ⟨od, oa, ob, oi⟩ fa fn fc) 31) = w5 := ⟨_, rfl⟩
   rw [hw5] at hbl hop
   unfold iopC at hw5
   dsimp only at hw5
   have h5 := HS.out.below hbl
   have v4 : w5.cell? ⟨wr.heap.size, 4, none⟩ = some (.slice fa fn fc) := hop.cell 4 _ rfl
   have LO : Hid _ := hop.load
   have HB5 : Hid (Below w.heap.size w w5) := thenB HBR.out hbl
   have HS5 : Hid (Bo w.heap.size w2 w5 pp a x [] s s) := h5
   have HI : Hid (i ≤ on ∧ on - i ≤ gk ∧ on ≤ 60 ∧ i < on) := ⟨hin, hkx, hon60, hlt⟩
   by_cases hfn : fn ≤ 100
   ·have hfI : (fn : Int) ≤ 100 := by omega
    have cd := do_any h5 HV.out HK.out (by omega) hok.ok fa fn fc fs (hok.rd.below HB5.out) hfn hok.fi
    have HOK : Hid _ := hok
    clear hok hx hld hbl hop h5 HS
    unfold iopC at LO cd
    dsimp only at LO cd
    go_wp2_with (first | (refine wpList_loadG rfl 31 _ rfl _ rfl _ HLD.out ?_; try rw [hw5]) | (refine wpList_loadG rfl 31 _ rfl _ rfl _ LO.out ?_))
    refine cd.mono ?_
    rintro e w6 ⟨rfl, h6⟩
    clear cd
    have hv6 := doR_iv HV.out HS5.out.n HOK.out.ok HOK.out.fi
    have hk6 := doR_sk HV.out HK.out ⟨od, oa, ob, oi⟩ fs
    dsimp only at hv6 h6
    obtain ⟨s', hs'⟩ : ∃ s', doR s ⟨od, oa, ob, oi⟩ fs = s' := ⟨_, rfl⟩
    rw [hs'] at hv6 hk6 h6
    have HV6 : Hid (Iv s') := hv6
    have HK6 : Hid (Sk s' (30 * (i + 1))) := hk6.mono (by omega)
    have HS6 : Hid (Bo w.heap.size w2 w6 pp a x [] s' s') := h6
    have cs := bo_same h6 hv6.d HK6.out (by have := HI.out; omega)
    clear h6 hv6 hk6 hs'
    go_wp2_with fail
    refine cs.mono ?_
    rintro e w7 ⟨rfl, hb7⟩
    clear cs
    have HS7 : Hid (Bo w.heap.size w2 w7 pp a x [] s' s') := HS6.out.below hb7
    clear hb7
    go_wp2_with fail
    go_roundg (on - (i + 1))
    case measure => omega
    case rel => exact ⟨i + 1, s', by rw [show ((i : Int) + 1) = ((i + 1 : Nat) : Int) by omega], by omega, by omega, HS7, HV6, HK6⟩
   ·have hfI : ¬ (fn : Int) ≤ 100 := by omega
    have HK6 : Hid (Sk s (30 * (i + 1))) := HK.out.mono (by omega)
    clear hok hx hld hbl hop h5 HS
    unfold iopC at LO
    dsimp only at LO
    go_wp2_with (first | (refine wpList_loadG rfl 31 _ rfl _ rfl _ HLD.out ?_; try rw [hw5]) | (refine wpList_loadG rfl 31 _ rfl _ rfl _ LO.out ?_))
    go_roundg (on - (i + 1))
    case measure => omega
    case rel => exact ⟨i + 1, s, by rw [show ((i : Int) + 1) = ((i + 1 : Nat) : Int) by omega], by omega, by omega, HS5, HV, HK6⟩
  ·obtain rfl : on = i := by omega
   go_wp2_with fail
   go_ret
   exact ⟨rfl, HBR.out⟩

/-! ### The row -/
set_option maxRecDepth 100000 in
theorem lifted (os : Os) (started : os.Started) (H : Type) (enc : TypeId × Value → H) :
  ReturnsInHanded {} Tryz.checked os 3 .any (Rows.inodeGoesSpec.pre6 enc Tryz.prog Tryz.f3 Rows.inodeGoesRow.domain false) (Rows.inodeGoesSpec.post enc Tryz.prog Tryz.f3 false true false false) := by
 refine returnsInHanded_of_change (C := Tryz.checked) own started (by kernel_rfl) Tryz.func3
  (ChangeSpec.witness6 (enc := enc) (C := Tryz.checked) false ⟨#[], #[.slice none 0 0, .int .i64 0, .int .u32 0, .slice none 0 0], []⟩ 8 (by kernel_rfl) (by kernel_rfl) (by kernel_rfl) (by kernel_rfl)) ?_
 intro W base args ds gs before hval0 hW hcnd _
 have hval : ∀ (j : Nat) t v, Tryz.f3.params[j]? = some t → args[j]? = some v → Value.okWide Tryz.prog W .any base t v := hval0
 have hW' := hW
 obtain ⟨p, q, hA0, hV, rfl, hfz, hnd⟩ := hW
 have hA : DataW.TrodAll enc Tryz.prog W 0 (fun _ => true) true Tryz.f3.params.toList args.toList ds p := hA0
 rw [Tryz.params3] at hA hval
 obtain ⟨v0, vs0, d0, ds0, p0, q0, hargs, rfl, rfl, h0, r0⟩ := trodAll_cons hA
 obtain ⟨v1, vs1, d1, ds1, p1, q1, rfl, rfl, rfl, h1, r1⟩ := trodAll_cons r0
 obtain ⟨v2, vs2, d2, ds2, p2, q2, rfl, rfl, rfl, h2, r2⟩ := trodAll_cons r1
 obtain ⟨v3, vs3, d3, ds3, p3, q3, rfl, rfl, rfl, h3, r3⟩ := trodAll_cons r2
 obtain ⟨rfl, rfl, rfl⟩ := trodAll_nil r3
 obtain rfl : args = #[v0, v1, v2, v3] := by cases args; simp_all
 obtain ⟨rfl, rfl⟩ := trodVars_none hV
 obtain ⟨a0, len0, cap0, rfl⟩ := okWide_slice Tryz.underlying22 (hval 0 22 v0 rfl rfl)
 have k0 := h0
 have lt0 : ∀ x ∈ p0, x.block < W.heap.size := by obtain ⟨m, hm⟩ := k0; exact DataW.trod_lt m _ _ _ hm
 obtain ⟨o0, w0, ws0⟩ : ∃ os, RdK W a0 len0 cap0 os ∧ KvsOk os := by
  obtain ⟨fuel, hf⟩ := h0
  exact kvs_of hf
 obtain ⟨a1, rfl, rfl, rfl, w1⟩ := open_int Tryz.underlying3 (hval 1 3 v1 rfl rfl) h1
 obtain ⟨a2, rfl, rfl, rfl, w2⟩ := open_int Tryz.underlying23 (hval 2 23 v2 rfl rfl) h2
 obtain ⟨a3, len3, cap3, rfl⟩ := okWide_slice Tryz.underlying24 (hval 3 24 v3 rfl rfl)
 have k3 := h3
 have lt3 : ∀ x ∈ p3, x.block < W.heap.size := by obtain ⟨m, hm⟩ := k3; exact DataW.trod_lt m _ _ _ hm
 obtain ⟨o3, w3⟩ : ∃ os, RdIop W (.slice a3 len3 cap3) os := by
  obtain ⟨fuel, hf⟩ := h3
  exact iops_of hf
 clear hA0 hval0
 refine (walk a0 len0 cap0 o0 a1 a2 a3 len3 cap3 o3 W w0 ws0 w1 w2 w3).mono fun e W' ⟨he, bel⟩ => ?_
 subst he
 exact ⟨_, rfl, _, _, _, [], _, [], hW', trodAll_mk1 (shut_bool Tryz.underlying4 _), (trodAll_cons_mk (Below.trod laidOut (by kernel_rfl) (of_decide_eq_true (by kernel_rfl)) k0 bel lt0) (trodAll_cons_mk (shut_int Tryz.underlying3 w1) (trodAll_cons_mk (shut_int Tryz.underlying23 w2) (trodAll_cons_mk (Below.trod laidOut (by kernel_rfl) (of_decide_eq_true (by kernel_rfl)) k3 bel lt3) trodAll_mk0)))), rfl, bel.frame _, fun h => by cases h⟩

theorem over : Rows.inodeGoesRow.holds Tryz.pinned (OpenSpec.ofChange Rows.inodeGoesSpec) :=
 OpenClaim.holds_of_wide 3 Tryz.f3 rfl rfl rfl rfl rfl rfl rfl ⟨rfl, rfl, rfl, rfl, rfl⟩ rfl rfl rfl rfl rfl (by kernel_rfl) Tryz.func3 (by kernel_rfl)
  (of_decide_eq_true (by kernel_rfl)) (by unfold Func.isWrapper; first | (rw [if_pos (by decide +kernel)]; kernel_rfl) | (rw [if_neg (by decide +kernel)]; exact ⟨rfl, rfl⟩))
  (fun os started H enc _ => lifted os started H enc)

end Go.Proofs.YtiplhhaehbjghaaGreat.inodeGoes

namespace Go.Proofs.YtiplhhaehbjghaaGreat
/-- The statement. -/
theorem inodeGoes_proved : Rows.InodeGoesSaid := inodeGoes.over
#print axioms inodeGoes_proved
end Go.Proofs.YtiplhhaehbjghaaGreat
