/- Proved: a view without a change sees its base: at each place, and of names. -/
import Derived.Test.YtjlglnhmkheidaaGreatVwLive
import Derived.Test.YtjlglnhmkheidaaGreatV9
import Derived.Test.YtjlglnhmkheidaaGreatV3
import Derived.Test.YtjlglnhmkheidaaGreatRRead
import Derived.Test.YtjlglnhmkheidaaGreatP4
import Derived.Test.YtjlglnhmkheidaaGreatJDecode
import Derived.Test.YtjlglnhmkheidaaGreatV8
import Derived.Deep.RegionHeld3
import Derived.BigQuiet
import Derived.Deep.QuietTactic
import Derived.WalkSmall
import Derived.ProofKit
import Derived.OpenShut
import Derived.ShutString
import Derived.ChangeOld
import Derived.Below
import Derived.Carry
import Derived.Deep.CutRange
import Derived.Deep.CutBlock
namespace Go.Proofs.YtjlglnhmkheidaaGreat.viewNone
open Go.ChangeShapes Go.WideShapes Go.ChangeAt Go.RowKit
open Go.ChangeMaps (open_string shut_string)
set_option linter.unusedVariables false
set_option linter.unusedSimpArgs false

theorem own : ownKnob Tryz.prog.godebug = none := by kernel_rfl
theorem laidOut : laidOutB Tryz.prog = true := by kernel_rfl

attribute [local go_sem] Oper.semAt_some

theorem two_of (E : Array Value) (h : E.size = 2) : ∃ e0 e1, E = #[e0, e1] := by
  obtain ⟨L⟩ := E
  match L, h with
  | [e0, e1], _ => exact ⟨e0, e1, rfl⟩

theorem wp_stR {w : World} {o : Oper} {a : Act} {K : Act → World → Prop} {Q : Exit → Act → World → Prop} (x y : Operand) (ho : o.op = .store 49 x y) (g : Nat) (z old : It) (hx : a.eval x = .pointer (some ⟨g, 0, none⟩)) (hy : a.eval y = .agg (itC z)) (hz : z.bytes.length = 32) (hold : old.bytes.length = 32) (hat : ItAt 49 w g old)
    (h : K (a.put o.dst undef) (w.setRow g (itC z))) : o.wp Tryz.prog a w K Q :=
  wp_store_row 49 x y ho g (itC z) hx hy 49 (itC old) hat.row (by rw [itC_size hz]; exact size_itemR) (by rw [itC_size hz, itC_size hold]) (one_item z) h

/-- The variable that an item is read into. -/
structure WanS (wf : World) (wk : Nat) (W : World) : Prop where
  bel : Below wf.heap.size wf W
  at_ : ∃ x, x.bytes.length = 32 ∧ ItAt 49 W wk x

set_option maxRecDepth 100000 in
set_option maxHeartbeats 16000000 in
theorem walk (a : Option Addr) (len cap : Nat) (l : List (ByteArray × ByteArray)) (p : Pl) (ino : Int) (w : World) (hl : RdK w a len cap l) (hlo : KvsOk l) (hp : PlOk p) (hi : (Lit.int .u32 ino).wf = true) : Calls Tryz.prog 8 #[.slice a len cap, plV p, .int .u32 ino] w fun e w' => e = .returned (.bool true) ∧ Below w.heap.size w w' := by
  obtain ⟨i0, i1⟩ := bounds_u32 hi
  clear hi
  have hz := zeroItem
  have hzR := zeroItemR
  have len0 := ch_zero.1
  have al : ∀ (A : World) (o : Obj), Below A.heap.size A (A.alloc o) := fun A o => (Below.refl _ A).alloc (Nat.le_refl _) o
  have hq1 := PlAt.laid w p
  have hb1 := al w (.cells (plCells p) 26)
  obtain ⟨w1, hw1⟩ : ∃ w1, w.alloc (.cells (plCells p) 26) = w1 := ⟨_, rfl⟩
  rw [hw1] at hq1 hb1
  rw [show plV p = .agg (plCells p) from rfl]
  refine calls_marks Tryz.func8 rfl ?_
  simp only [Tryz.ntmps8, List.size_toArray, List.length_cons, List.length_nil, Nat.reduceAdd, Nat.reduceSub, Array.replicate_succ, Array.replicate_zero, List.push_toArray, List.append_toArray, List.nil_append, List.cons_append]
  have cv := live_any w1
  go_wp2_with fail
  refine cv.mono ?_
  rintro e w2 ⟨rfl, hb2⟩
  clear cv
  have cn := DlN.new w2 9 (by decide)
  go_wp2_with fail
  refine cn.mono ?_
  rintro e w3 ⟨d, b, rfl, hd3, _⟩
  clear cn
  have hb3 := hd3.bel
  have hB3 : Below w.heap.size w w3 := thenB hb1 (thenB hb2 hb3)
  have cr := rising_any w3 a len cap l (hl.below hB3)
  go_wp2_with fail
  refine cr.mono ?_
  rintro e w4 ⟨rv, rfl, ⟨rb, rfl, hris⟩, hb4⟩
  clear cr
  have hB4 := thenB hB3 hb4
  cases rb
  · go_wp2_with fail
    exact ⟨_, results_tmp rfl _ _ _, rfl, hB4⟩
  · obtain ⟨hR, h300⟩ := hris rfl
    have HR : Hid (RisK l) := hR
    have H3 : Hid (l.length ≤ 300) := h300
    clear hR h300 hris
    have hs5 : SoAt (w4.alloc (.cells #[.slice a len cap, .int .i64 (-1)] 37)) w4.heap.size a len cap l := ⟨heap_alloc_new w4 _, (hl.below hB4).below (al w4 _)⟩
    have hb5 := al w4 (.cells #[.slice a len cap, .int .i64 (-1)] 37)
    obtain ⟨w5, hw5⟩ : ∃ w5, w4.alloc (.cells #[.slice a len cap, .int .i64 (-1)] 37) = w5 := ⟨_, rfl⟩
    rw [hw5] at hs5 hb5
    have cw := vnew_any w5 w4.heap.size d
    unfold baV at cw
    go_wp2_with fail
    refine cw.mono ?_
    rintro e w6 ⟨rfl, hv6, hb6⟩
    clear cw
    have HS6 : Hid _ := hs5.below hb6
    have HV6 : Hid _ := hv6
    have HD6 : Hid _ := (hd3.below hb4).below (thenB hb5 hb6)
    have HQ6 : Hid _ := (hq1.below hb2).below (thenB (thenB hb3 hb4) (thenB hb5 hb6))
    have hB6 := thenB hB4 (thenB hb5 hb6)
    obtain ⟨g, hg⟩ : ∃ g, w4.heap.size = g := ⟨_, rfl⟩
    rw [hg] at HS6 HV6
    obtain ⟨v, hv⟩ : ∃ v, w5.heap.size = v := ⟨_, rfl⟩
    rw [hv] at HV6
    rw [hv]
    clear hv6 hs5 hd3 hq1 hb1 hb2 hb3 hb4 hb5 hB3 hB4 hw5 hb6
    have l6 : Hid _ := HQ6.out.loadG
    have ck := refKey_any w6 p hp
    rw [show plV p = .agg (plCells p) from rfl] at ck l6
    go_wp2_with (refine wpList_loadG rfl 26 _ rfl _ rfl _ l6.out ?_)
    refine ck.mono ?_
    rintro e w7 ⟨rfl, hb7⟩
    clear ck l6
    have hB7 := thenB hB6 hb7
    have HS7 : Hid _ := HS6.out.below hb7
    have HV7 : Hid _ := HV6.out.below hb7
    have HD7 : Hid _ := HD6.out.below hb7
    have HQ7 : Hid _ := HQ6.out.below hb7
    have l7 : Hid _ := HQ7.out.loadG
    have cg := vget_any HV7.out HD7.out HS7.out p hp
    rw [vg_new] at cg
    rw [show plV p = .agg (plCells p) from rfl] at cg l7
    dsimp only at cg
    go_wp2_with (refine wpList_loadG rfl 26 _ rfl _ rfl _ l7.out ?_)
    refine cg.mono ?_
    rintro e w8 ⟨rfl, hb8⟩
    clear cg l7 HS6 HV6 HD6 HQ6
    have HLI : Hid ((stI l p).bytes.length = 32) := (stI_ok l p).ch.1
    have hn9 := ItAt.laid 45 w8 it0
    have hb9 := alloc_row (A := w8) (.cells (itC it0) 45) (itC (stI l p))
    have HX9 : Hid _ := hn9.setRow (stI l p)
    obtain ⟨w9, hw9⟩ : ∃ w9, (w8.alloc (.cells (itC it0) 45)).setRow w8.heap.size (itC (stI l p)) = w9 := ⟨_, rfl⟩
    rw [hw9] at hb9 HX9
    have hb79 := thenB hb8 hb9
    have hB9 := thenB hB7 hb79
    have HS9 : Hid _ := HS7.out.below hb79
    have HV9 : Hid _ := HV7.out.below hb79
    have HD9 : Hid _ := HD7.out.below hb79
    have HQ9 : Hid _ := HQ7.out.below hb79
    clear HS7 HV7 HD7 HQ7 hb7 hb8 hb9 hb79 hB7 hB6
    cases hok : plOk p
    · have HE : Hid (stE l p = 30) := st_bad hok
      have HP : Hid (plE p = 30) := by unfold Hid plE; rw [hok]; rfl
      rw [HE.out, HP.out]
      go_wp2_with (refine wpList_storeI rfl _ _ rfl w8.heap.size (stI l p) it0 rfl rfl HLI.out len0 hn9 ?_; rw [hw9])
      exact ⟨_, results_tmp rfl _ _ _, rfl, hB9⟩
    · have HP : Hid (plE p = 0) := by unfold Hid plE; rw [hok]; rfl
      have HK : Hid (plOk p = true) := hok
      clear hok
      rw [HP.out]
      have cf := find_any w9 a len cap l (hl.below hB9) (keyS p)
      go_wp2_with (refine wpList_storeI rfl _ _ rfl w8.heap.size (stI l p) it0 rfl rfl HLI.out len0 hn9 ?_; rw [hw9])
      obtain ⟨xb, hxb⟩ : ∃ xb, w8.heap.size = xb := ⟨_, rfl⟩
      rw [hxb] at HX9 ⊢
      clear hn9 hw9 hxb
      refine cf.mono ?_
      rintro e wf ⟨rfl, hbf⟩
      clear cf
      have hBf := thenB hB9 hbf
      have HSf : Hid _ := HS9.out.below hbf
      have HVf : Hid _ := HV9.out.below hbf
      have HDf : Hid _ := HD9.out.below hbf
      have HQf : Hid _ := HQ9.out.below hbf
      have HXf : Hid _ := HX9.out.below hbf
      clear HS9 HV9 HD9 HQ9 HX9 hB9 hbf
      have hnB := ItAt.laid 49 wf it0
      have hbB := alloc_row (A := wf) (.cells (itC it0) 49) (itC it0)
      have HWB : Hid _ := hnB.setRow it0
      obtain ⟨wB, hwB⟩ : ∃ wB, (wf.alloc (.cells (itC it0) 49)).setRow wf.heap.size (itC it0) = wB := ⟨_, rfl⟩
      rw [hwB] at hbB HWB
      obtain ⟨fb, hfb⟩ : ∃ fb, fdB l (keyS p) = fb := ⟨_, rfl⟩
      obtain ⟨fn, hfn⟩ : ∃ fn, fdN l (keyS p) = fn := ⟨_, rfl⟩
      have HFB : Hid (fdB l (keyS p) = fb) := hfb
      have HFN : Hid (fdN l (keyS p) = fn) := hfn
      rw [hfb, hfn]
      clear hfb hfn
      go_upto_if 73 with (first
        | (refine wpList_buildBy rfl 49 _ rfl _ rfl [] (by kernel_rfl) (itC it0) built_zeroR ?_)
        | (refine wpList_storeR rfl _ _ rfl wf.heap.size it0 it0 rfl rfl len0 len0 hnB ?_; rw [hwB]))
      obtain ⟨wk, hwk⟩ : ∃ wk, wf.heap.size = wk := ⟨_, rfl⟩
      have HBB : Hid _ := hbB
      have HWK : Hid (wf.heap.size = wk) := hwk
      rw [hwk] at HWB ⊢
      clear hwk hnB hwB hbB
      have HST : Hid (stE l p = stE l p) := rfl
      go_cut [18] from 74 to 84 (fun gv wx => gv = .int .i64 (stE l p) ∧ Hid (ItAt 49 wx wk (stI l p)) ∧ Hid (Below wf.heap.size wf wx))
      case first =>
        cases fb
        · obtain ⟨q1, q2, q3⟩ := st_none HK.out HFB.out
          have Q1 : Hid _ := q1
          have Q2 : Hid _ := q2
          clear q1 q2 q3
          go_wp2_with fail
          go_meet
          case rel => exact ⟨by rw [Q2.out], by unfold Hid; rw [Q1.out]; exact HWB.out, HBB⟩
        · obtain ⟨q1, q2, q3⟩ := stI_dec HK.out HFB.out
          have Q1 : Hid _ := q1
          have Q2 : Hid _ := q2
          clear q1 q2 q3
          obtain ⟨pr, hpr, _⟩ := fdB_lt HFB.out
          have HVS : Hid (valS l (keyS p) = pr.2) := by unfold Hid valS; rw [HFB.out, if_pos rfl, List.getD_eq_getElem?_getD, hpr]; rfl
          rw [HFN.out] at hpr
          have hlt := (List.getElem?_eq_some_iff.1 hpr).1
          obtain ⟨hll, hnc, hcm, hI⟩ := hl
          obtain ⟨rb, off, rfl, hrb, hcs⟩ := hI (by omega)
          have hrv := (hcs _ _ hpr).2
          have qp : ∀ W, Below wf.heap.size wf W → W.cell? ⟨w.heap.size, 1, none⟩ = some (.int .i64 p.part) := fun W hW => (HQf.out.below hW).c1
          have qv : ∀ W, Below wf.heap.size wf W → W.cell? ⟨rb, off + fn * 2 + 1, none⟩ = some (.string pr.2) := fun W hW => ((thenB hBf hW).cell (p := ⟨rb, off + fn * 2 + 1, none⟩) hrb).trans hrv
          have hltI : (fn : Int) < len := by omega
          unfold maxLen at hcm
          clear hI hcs hrv hpr
          have HDL : Hid ((decI p.part pr.2).bytes.length = 32) := (decI_ok p.part pr.2).ch.1
          go_wp2_with fail
          refine wp_region_noPanic ?_
          refine wp_region_held_drew (S := fun W => WanS wf wk W) (by kernel_rfl) ⟨HBB.out.drew, it0, len0, HWB.out.below (Below.refl _ _).drew⟩ (fun hHeld => ?_)
          refine wpAnyH_take (i := 0) (v := .pointer (some ⟨w.heap.size, 1, none⟩)) rfl (by kernel_rfl) (by kernel_rfl) (by kernel_rfl) (fun _ _ _ h => h) (Or.inl ⟨by rfl, fun W hSw => by (try dsimp only at hSw); go_simp⟩) (by assumption) ?_
          try simp only [List.getElem_toArray, List.getElem_cons_zero, List.getElem_cons_succ, Act.put, List.setIfInBounds_toArray, List.set_cons_zero, List.set_cons_succ]
          refine wpAnyH_take (i := 1) (v := .int .i64 p.part) rfl (by kernel_rfl) (by kernel_rfl) (by kernel_rfl) (fun _ _ _ h => h) (Or.inl ⟨by rfl, fun W hSw => by (try dsimp only at hSw); (have z := qp W hSw.bel; go_simp)⟩) (by assumption) ?_
          try simp only [List.getElem_toArray, List.getElem_cons_zero, List.getElem_cons_succ, Act.put, List.setIfInBounds_toArray, List.set_cons_zero, List.set_cons_succ]
          refine wpAnyH_take (i := 2) (v := .slice (some ⟨rb, off, none⟩) len cap) rfl (by kernel_rfl) (by kernel_rfl) (by kernel_rfl) (fun _ _ _ h => h) (Or.inl ⟨by rfl, fun W hSw => by (try dsimp only at hSw); go_simp⟩) (by assumption) ?_
          try simp only [List.getElem_toArray, List.getElem_cons_zero, List.getElem_cons_succ, Act.put, List.setIfInBounds_toArray, List.set_cons_zero, List.set_cons_succ]
          refine wpAnyH_take (i := 3) (v := .int .i64 fn) rfl (by kernel_rfl) (by kernel_rfl) (by kernel_rfl) (fun _ _ _ h => h) (Or.inl ⟨by rfl, fun W hSw => by (try dsimp only at hSw); go_simp⟩) (by assumption) ?_
          try simp only [List.getElem_toArray, List.getElem_cons_zero, List.getElem_cons_succ, Act.put, List.setIfInBounds_toArray, List.set_cons_zero, List.set_cons_succ]
          refine wpAnyH_take (i := 4) (v := .pointer (some ⟨rb, off + fn * 2, none⟩)) rfl (by kernel_rfl) (by kernel_rfl) (by kernel_rfl) (fun _ _ _ h => h) (Or.inl ⟨by rfl, fun W hSw => by (try dsimp only at hSw); go_simp⟩) (by assumption) ?_
          try simp only [List.getElem_toArray, List.getElem_cons_zero, List.getElem_cons_succ, Act.put, List.setIfInBounds_toArray, List.set_cons_zero, List.set_cons_succ]
          refine wpAnyH_take (i := 5) (v := .pointer (some ⟨rb, off + fn * 2 + 1, none⟩)) rfl (by kernel_rfl) (by kernel_rfl) (by kernel_rfl) (fun _ _ _ h => h) (Or.inl ⟨by rfl, fun W hSw => by (try dsimp only at hSw); go_simp⟩) (by assumption) ?_
          try simp only [List.getElem_toArray, List.getElem_cons_zero, List.getElem_cons_succ, Act.put, List.setIfInBounds_toArray, List.set_cons_zero, List.set_cons_succ]
          refine wpAnyH_take (i := 6) (v := .string pr.2) rfl (by kernel_rfl) (by kernel_rfl) (by kernel_rfl) (fun _ _ _ h => h) (Or.inl ⟨by rfl, fun W hSw => by (try dsimp only at hSw); (have z := qv W hSw.bel; go_simp)⟩) (by assumption) ?_
          try simp only [List.getElem_toArray, List.getElem_cons_zero, List.getElem_cons_succ, Act.put, List.setIfInBounds_toArray, List.set_cons_zero, List.set_cons_succ]
          refine wpAnyH_ready (rs := [7]) (by kernel_rfl) (by simp) ?_
          refine AllReadyH.cons rfl (fun K hK => ?_) AllReadyH.nil
          go_simp
          go_wp2_with (go_at_call 28; refine (refDec_any _ p.part pr.2).mono ?_; rintro e w5 ⟨rfl, hb5⟩)
          obtain ⟨x0, hx0, hat0⟩ := hHeld.at_
          have HW5 : Hid _ := hat0.below hb5
          have HX0 : Hid _ := hx0
          have HB5 : Hid _ := hHeld.bel.trans (hb5.mono hHeld.bel.size)
          refine hK.out _ _ ⟨HB5.out, x0, HX0.out, HW5.out⟩ (fun hHeld2 => ?_)
          clear hK K
          try simp only [List.getElem_toArray, List.getElem_cons_zero, List.getElem_cons_succ, Act.put, List.setIfInBounds_toArray, List.set_cons_zero, List.set_cons_succ]
          refine wpAnyH_take (i := 8) (v := .tuple #[.agg (itC (decI p.part pr.2)), .int .i64 (decE p.part pr.2)]) rfl (by kernel_rfl) (by kernel_rfl) (by kernel_rfl) (fun _ _ _ h => h) (Or.inl ⟨by rfl, fun W hSw => by (try dsimp only at hSw); go_simp⟩) (by assumption) ?_
          try simp only [List.getElem_toArray, List.getElem_cons_zero, List.getElem_cons_succ, Act.put, List.setIfInBounds_toArray, List.set_cons_zero, List.set_cons_succ]
          refine wpAnyH_take (i := 9) (v := .agg (itC (decI p.part pr.2))) rfl (by kernel_rfl) (by kernel_rfl) (by kernel_rfl) (fun _ _ _ h => h) (Or.inl ⟨by rfl, fun W hSw => by (try dsimp only at hSw); go_simp⟩) (by assumption) ?_
          try simp only [List.getElem_toArray, List.getElem_cons_zero, List.getElem_cons_succ, Act.put, List.setIfInBounds_toArray, List.set_cons_zero, List.set_cons_succ]
          refine wpAnyH_take (i := 10) (v := .int .i64 (decE p.part pr.2)) rfl (by kernel_rfl) (by kernel_rfl) (by kernel_rfl) (fun _ _ _ h => h) (Or.inl ⟨by rfl, fun W hSw => by (try dsimp only at hSw); go_simp⟩) (by assumption) ?_
          try simp only [List.getElem_toArray, List.getElem_cons_zero, List.getElem_cons_succ, Act.put, List.setIfInBounds_toArray, List.set_cons_zero, List.set_cons_succ]
          refine wpAnyH_ready (rs := [11]) (by kernel_rfl) (by simp) ?_
          refine AllReadyH.cons rfl (fun K hK => ?_) AllReadyH.nil
          rw [if_pos (by rfl)]
          refine wp_stR _ _ rfl wk (decI p.part pr.2) x0 rfl rfl HDL.out HX0.out HW5.out ?_
          have HB6 : Hid (Below wf.heap.size wf (w5.setRow wk (itC (decI p.part pr.2)))) := below_setRow HB5.out (by rw [HWK.out]; exact Nat.le_refl _) _
          have HW6 : Hid _ := HW5.out.setRow (decI p.part pr.2)
          refine hK.out _ _ ⟨HB6.out, _, HDL.out, HW6.out⟩ (fun hHeld3 => ?_)
          clear hK K
          try simp only [List.getElem_toArray, List.getElem_cons_zero, List.getElem_cons_succ, Act.put, List.setIfInBounds_toArray, List.set_cons_zero, List.set_cons_succ]
          refine wpAnyH_take (i := 12) (v := .int .i64 (decE p.part pr.2)) rfl (by kernel_rfl) (by kernel_rfl) (by kernel_rfl) (fun _ _ _ h => h) (Or.inl ⟨by rfl, fun W hSw => by (try dsimp only at hSw); go_simp⟩) (by assumption) ?_
          try simp only [List.getElem_toArray, List.getElem_cons_zero, List.getElem_cons_succ, Act.put, List.setIfInBounds_toArray, List.set_cons_zero, List.set_cons_succ]
          refine wpAnyH_done (by kernel_rfl) ?_ _
          refine NoPanic.normal ?_
          clear hHeld hHeld2 hHeld3
          rw [HVS.out] at Q1 Q2
          go_wp2_with fail
          go_meet
          case rel => exact ⟨by rw [Q2.out], by unfold Hid; rw [Q1.out]; exact HW6.out, HB6⟩
      case rest =>
        obtain ⟨rfl, HWC, HBC⟩ := hcut
        have hBc := thenB hBf HBC.out
        have HSc : Hid _ := HSf.out.below HBC.out
        have HVc : Hid _ := HVf.out.below HBC.out
        have HDc : Hid _ := HDf.out.below HBC.out
        have HXc : Hid _ := HXf.out.below HBC.out
        clear HSf HVf HDf HQf HXf HWB HBB hBf HBC HST HWK
        obtain ⟨w10, rfl⟩ : ∃ w10, w10 = wc := ⟨_, rfl⟩
        have lx : Hid _ := HXc.out.loadW HLI.out
        have ly : Hid _ := HWC.out.loadR HLI.out
        have hne : ∀ W : World, (binOp .neq 49 (.agg (itC (stI l p))) (.agg (itC (stI l p)))).run Tryz.prog W = .ok (.bool false) W := fun W => by
          rw [neq_itemsR W HLI.out HLI.out, itEq_iff.2 rfl]; rfl
        obtain ⟨sE, hsE⟩ : ∃ sE, stE l p = sE := ⟨_, rfl⟩
        obtain ⟨sB, hsB⟩ : ∃ sB, stB l p = sB := ⟨_, rfl⟩
        have hcs : (fb = false ∧ sE = 0 ∧ sB = false) ∨ (fb = true ∧ sE = 0 ∧ sB = true) ∨ (fb = true ∧ ¬ sE = 0 ∧ sB = false) := by
          rw [← hsE, ← hsB]
          cases fb
          · obtain ⟨q1, q2, q3⟩ := st_none HK.out HFB.out
            exact .inl ⟨rfl, q2, q3⟩
          · obtain ⟨q1, q2, q3⟩ := stI_dec HK.out HFB.out
            rw [q3, q2]
            by_cases h0 : decE p.part (valS l (keyS p)) = 0
            · exact .inr (.inl ⟨rfl, h0, decide_eq_true h0⟩)
            · exact .inr (.inr ⟨rfl, h0, decide_eq_false h0⟩)
        rw [hsE, hsB]
        have HCS : Hid _ := hcs
        clear hsE hsB hcs HFB
        go_upto_region 17 with fail
        go_cut [101] from 85 to 101 (fun cv wx => cv = .bool false ∧ wx = w10)
        case first =>
          obtain ⟨rfl, rfl, rfl⟩ | ⟨rfl, rfl, rfl⟩ | ⟨rfl, h0, rfl⟩ := HCS.out
          · go_wp2_with (first
              | (refine wpList_loadG rfl 45 _ rfl _ rfl _ lx.out ?_)
              | (refine wpList_loadG rfl 49 _ rfl _ rfl _ ly.out ?_))
            go_meet
            case rel => exact ⟨rfl, rfl⟩
          · go_wp2_with (first
              | (refine wpList_loadG rfl 45 _ rfl _ rfl _ lx.out ?_)
              | (refine wpList_loadG rfl 49 _ rfl _ rfl _ ly.out ?_))
            go_meet
            case rel => exact ⟨rfl, rfl⟩
          · have h0b : (sE == 0) = false := by simp [h0]
            go_wp2_with (first
              | (refine wpList_loadG rfl 45 _ rfl _ rfl _ lx.out ?_)
              | (refine wpList_loadG rfl 49 _ rfl _ rfl _ ly.out ?_))
            go_meet
            case rel => exact ⟨rfl, rfl⟩
        case rest =>
          obtain ⟨rfl, rfl⟩ := hcut
          clear lx ly hne HXc HWC HLI HCS
          go_wp2_with fail
          have bn := Boxed.new wc 3 (.int .i64 0)
          have hbn := al wc (.cells #[.int .i64 0] 3)
          obtain ⟨wn, hwn⟩ : ∃ wn, wc.alloc (.cells #[.int .i64 0] 3) = wn := ⟨_, rfl⟩
          rw [hwn] at bn hbn ⊢
          clear hwn
          have hxl : ∀ x ∈ [wc.heap.size], x < wn.heap.size := fun x hx => by rw [List.mem_singleton] at hx; rw [hx]; exact bn.lt
          have hxg : g ∉ [wc.heap.size] := fun h => by
            have := HSc.out.lt
            rw [List.mem_singleton] at h
            omega
          have hxa : ∀ ad, 0 < len → a = some ad → ad.block ∉ [wc.heap.size] := fun ad hpos e h => by
            obtain ⟨q1, q2, q3, q4⟩ := hl
            obtain ⟨b', off, e', hb', _⟩ := q4 hpos
            rw [List.mem_singleton] at h
            rw [e'] at e
            cases e
            have := hBc.size
            dsimp only at h
            omega
          have cn := names_count [wc.heap.size] (HVc.out.below hbn) (HDc.out.below hbn) (HSc.out.below hbn) rfl HR.out H3.out ino i0 i1 hxl hxg hxa
          clear hxl hxg hxa
          refine cn.mono ?_
          rintro e wb ⟨⟨α, encs, gf, lb, rfl, heg, henc, hseq⟩, hbb⟩
          clear cn
          have HSQ : Hid _ := hseq
          have HEG : Hid _ := heg
          have HEN : Hid _ := henc
          clear hseq heg henc
          have cs := some_any wb gf lb
          go_wp2_with fail
          refine cs.mono ?_
          rintro e w11 ⟨rfl, rfl⟩
          clear cs
          go_wp2_with fail
          obtain ⟨nb, hnb⟩ : ∃ nb, wc.heap.size = nb := ⟨_, rfl⟩
          have HNB : Hid (wc.heap.size = nb) := hnb
          have bnb : Boxed w11 nb 3 (.int .i64 0) := by rw [← hnb]; exact (hbb.block _ bn.lt).trans bn
          have hnl : nb < w11.heap.size := bnb.lt
          rw [hnb] at HSQ ⊢
          clear hnb bn
          have hb11 := thenB hbn hbb
          refine (wpIn_wide (n := 9)).1 ?_
          refine range_own2 (gf := gf) (lb := lb) rfl HEG.out (HSQ.out _) (Below.refl _ _) (Nat.le_refl _) HEN.out
            (fun pre X => Boxed X nb 3 (.int .i64 pre.length) ∧ BelX [nb] w11.heap.size w11 X)
            (fun c pre X => False)
            ?ownI ?ownX ?abI ?abX ⟨bnb, BelX.refl _ _ _⟩
            (fun x t => t)
            ?assign ?body ?done ?stop
          case assign =>
            rintro l' x X K hK
            gi_wp2
            exact hK
          case ownI => exact OwnFrom.and (fun s X X' row hs hg hr => own_box (β := Unit) _ _ _ _ () X X' row hs hg hr) (own_belX (Nat.le_refl _) (Nat.le_refl _))
          case ownX => exact fun c => own_pure _ _
          case abI =>
            rintro s X b cs ty v ⟨h1, h2⟩ hb ht e
            exact ⟨(heap_setCell_other X ⟨b, 0, none⟩ _ v (by show nb ≠ b; omega)).trans h1, h2.setCell (p := ⟨b, 0, none⟩) (by show w11.heap.size ≤ b; omega) v⟩
          case abX => exact fun c s X b cs ty v h => h.elim
          case stop => exact fun D c pre W hD hS hf _ => hf.elim
          case body =>
            rintro l' pre x X hV hl ⟨h1, h2⟩ hlen
            have hen := HEN.out x
            obtain ⟨e0, e1, he01⟩ := two_of _ hen
            have hc := h1.cell
            have hf := h1.frozen
            unfold actOf
            rw [he01]
            gi_wp2
            have hnx : (Int.ofNat pre.length + 1 : Int) = ((pre ++ [x]).length : Int) := by simp
            exact ⟨(KeepsOthers.setCell _ _ _).from _, KpN.setX _ _ (by unfold TV; simp) (by omega), by rw [← hnx]; exact h1.set _, h2.trans (BelX.setX _ (by simp) _)⟩
          case done =>
            rintro D ys X hD hS ⟨h1, h2⟩ hK
            have HBX : Hid (Below w.heap.size w X) := by
              have q1 : Below w.heap.size w w11 := thenB hBc hb11
              have q2 : Below w.heap.size w11 X := ⟨h2.os, h2.tape, h2.output, h2.size, fun k hk => h2.block k (Nat.lt_of_lt_of_le hk q1.size) (by rw [List.mem_singleton]; have := HNB.out; have := hBc.size; omega)⟩
              exact q1.trans q2
            have HNX : Hid (X.cell? ⟨nb, 0, none⟩ = some (.int .i64 (nmCount l ino))) := by unfold Hid; rw [← hS]; exact h1.cell
            have HNL : Hid (nb < X.heap.size) := h1.lt
            have HKX : Hid _ := hK
            obtain ⟨hll, hnc, hcm, hI⟩ := hl
            unfold maxLen at hcm
            clear hS h1 h2 hK bnb HSQ HEG HEN HSc HVc HDc hbn hbb hb11
            go_wp2_with fail
            go_loopw [20, 22, 23, 24, 112] (fun mv _ _ _ t wr => ∃ (i : Nat), i ≤ len ∧ t = .int .i64 i ∧ mv = .int .i64 ((l.take i).countP (entB ino)) ∧ Hid (Below X.heap.size X wr)) (fun _ _ _ _ t _ => len - (intOf t).toNat)
            case atStart => exact ⟨0, Nat.zero_le _, rfl, rfl, Below.refl _ _⟩
            case round =>
              obtain ⟨i, hi, rfl, rfl, HB⟩ := hrel
              by_cases hlt : i < len
              · have hltI : (i : Int) < len := by omega
                obtain ⟨rb, off, rfl, hrb, hcs⟩ := hI (by omega)
                obtain ⟨kv, hkv⟩ : ∃ kv, l[i]? = some kv := ⟨_, List.getElem?_eq_getElem (by omega)⟩
                have hB2 := HBX.out.trans (HB.out.mono HBX.out.size)
                have hcx0 : wr.cell? ⟨rb, off + i * 2, none⟩ = some (.string kv.1) := (hB2.cell (p := ⟨rb, off + i * 2, none⟩) hrb).trans (hcs i kv hkv).1
                have hcx1 : wr.cell? ⟨rb, off + i * 2 + 1, none⟩ = some (.string kv.2) := (hB2.cell (p := ⟨rb, off + i * 2 + 1, none⟩) hrb).trans (hcs i kv hkv).2
                have hsz : kv.1.size ≤ maxLen := (hlo kv (List.mem_of_getElem? hkv)).1
                have hct : ((l.take (i + 1)).countP (entB ino) : Int) = (l.take i).countP (entB ino) + (if entB ino kv then 1 else 0) := by
                  rw [List.take_add_one, hkv, List.countP_append]
                  cases h : entB ino kv <;> simp [List.countP_cons, h]
                have HCT : Hid _ := hct
                have hcl : (l.take i).countP (entB ino) ≤ i := Nat.le_trans List.countP_le_length (by rw [List.length_take]; omega)
                obtain ⟨cn, hcn⟩ : ∃ cn, (l.take i).countP (entB ino) = cn := ⟨_, rfl⟩
                rw [hcn] at HCT hcl ⊢
                have hbA := al wr (.cells #[.string kv.1, .string kv.2] 90)
                have cr := refRead_any (wr.alloc (.cells #[.string kv.1, .string kv.2] 90)) kv.1 hsz
                unfold plV at cr
                clear hcs hkv hct hB2 hcn
                go_wp2_with fail
                refine cr.mono ?_
                rintro e w5 ⟨rfl, hb5⟩
                clear cr
                have hP : PlAt (w5.alloc (.cells #[.int .u32 (rdP kv.1).ino, .int .i64 (rdP kv.1).part, .string (rdP kv.1).name, .int .u32 (rdP kv.1).chunk] 26)) w5.heap.size (rdP kv.1) := ⟨heap_alloc_new w5 _⟩
                have hbP := al w5 (.cells #[.int .u32 (rdP kv.1).ino, .int .i64 (rdP kv.1).part, .string (rdP kv.1).name, .int .u32 (rdP kv.1).chunk] 26)
                obtain ⟨w6, hw6⟩ : ∃ w6, w5.alloc (.cells #[.int .u32 (rdP kv.1).ino, .int .i64 (rdP kv.1).part, .string (rdP kv.1).name, .int .u32 (rdP kv.1).chunk] 26) = w6 := ⟨_, rfl⟩
                rw [hw6] at hP hbP
                have HB6 : Hid (Below X.heap.size X w6) := HB.out.trans ((thenB hbA (thenB hb5 hbP)).mono HB.out.size)
                have p0 := hP.c0
                have p1 := hP.c1
                clear hP hbP hb5 hbA HB
                cases hr : rdOk kv.1
                · have er := (rd_no hr).2
                  have HEB : Hid (entB ino kv = false) := by unfold Hid entB; rw [hr]; rfl
                  rw [er]
                  clear hr er
                  go_wp2_with fail
                  go_roundw
                  case rel => exact ⟨i + 1, by omega, by go_num, by rw [HCT.out, HEB.out]; simp, HB6⟩
                  case measure => simp [intOf]; omega
                · have er := (rd_yes hr).2
                  have HEB : Hid (entB ino kv = ((rdP kv.1).ino == ino && (rdP kv.1).part == 2)) := by unfold Hid entB; rw [hr]; rfl
                  rw [er]
                  clear hr er
                  obtain ⟨ri, hri⟩ : ∃ ri, (rdP kv.1).ino = ri := ⟨_, rfl⟩
                  obtain ⟨rp, hrp⟩ : ∃ rp, (rdP kv.1).part = rp := ⟨_, rfl⟩
                  rw [hri, hrp] at HEB
                  rw [hri] at p0
                  rw [hrp] at p1
                  rw [hri, hrp] at hw6 ⊢
                  clear hri hrp
                  cases c1 : (ri == ino)
                  · rw [c1, Bool.false_and] at HEB
                    go_wp2_with fail
                    go_roundw
                    case rel => exact ⟨i + 1, by omega, by go_num, by rw [HCT.out, HEB.out]; simp, HB6⟩
                    case measure => simp [intOf]; omega
                  · rw [c1, Bool.true_and] at HEB
                    cases c2 : (rp == 2)
                    · rw [c2] at HEB
                      go_wp2_with fail
                      go_roundw
                      case rel => exact ⟨i + 1, by omega, by go_num, by rw [HCT.out, HEB.out]; simp, HB6⟩
                      case measure => simp [intOf]; omega
                    · rw [c2] at HEB
                      go_wp2_with fail
                      go_roundw
                      case rel => exact ⟨i + 1, by omega, by go_num, by rw [HCT.out, HEB.out]; first | rfl | (simp; done) | go_num, HB6⟩
                      case measure => simp [intOf]; omega
              · obtain rfl : i = len := by omega
                have hltI : ¬ (i : Int) < i := by omega
                have hn5 : wr.cell? ⟨nb, 0, none⟩ = some (.int .i64 (nmCount l ino)) := (HB.out.cell (p := ⟨nb, 0, none⟩) HNL.out).trans HNX.out
                rw [List.take_of_length_le (by omega)]
                have hK5 : wr.heap[D]? = some (.deferred (some [])) := (HB.out.block D (Array.getElem?_eq_some_iff.1 HKX.out).1).trans HKX.out
                have HK5 : Hid _ := hK5
                have HB7 : Hid (Below w.heap.size w wr) := HBX.out.trans (HB.out.mono HBX.out.size)
                have HDG : Hid (w.heap.size ≤ D) := Nat.le_trans (Nat.le_trans (Nat.le_trans hBc.size (Nat.le_of_eq HNB.out)) (Nat.le_of_lt hnl)) hD
                have h300 : l.length ≤ 300 := H3.out
                have hcl : l.countP (entB ino) ≤ 300 := Nat.le_trans List.countP_le_length h300
                clear hK5 hI
                by_cases hz0 : ino = 0
                · subst hz0
                  rw [count_zero]
                  rw [show nmCount l 0 = 1 from rfl] at hn5
                  go_wp2_with fail
                  trace_state
                  refine ⟨by simp, .inl ⟨_, _, rfl, run_takeDeferred HK5.out, ?_⟩⟩
                  exact ⟨_, results_tmp rfl _ _ _, rfl, HB7.out.trans (belowK_b (w := w) (Nat.le_refl _) _ D _ _ HDG.out HK5.out rfl rfl)⟩
                · rw [show nmCount l ino = l.countP (entB ino) from if_neg hz0] at hn5
                  obtain ⟨cn, hcn⟩ : ∃ cn, l.countP (entB ino) = cn := ⟨_, rfl⟩
                  rw [hcn] at hn5 hcl ⊢
                  clear hcn
                  go_wp2_with fail
                  refine ⟨by simp, .inl ⟨_, _, rfl, run_takeDeferred HK5.out, ?_⟩⟩
                  exact ⟨_, results_tmp rfl _ _ _, rfl, HB7.out.trans (belowK_b (w := w) (Nat.le_refl _) _ D _ _ HDG.out HK5.out rfl rfl)⟩

/-! ### The row -/
set_option maxRecDepth 100000 in
theorem lifted (os : Os) (started : os.Started) (H : Type) (enc : TypeId × Value → H) :
    ReturnsInHanded {} Tryz.checked os 8 .any (Rows.viewNoneSpec.pre6 enc Tryz.prog Tryz.f8 Rows.viewNoneRow.domain false) (Rows.viewNoneSpec.post enc Tryz.prog Tryz.f8 false true false false) := by
  refine returnsInHanded_of_change (C := Tryz.checked) own started (by kernel_rfl) Tryz.func8
    (ChangeSpec.witness6 (enc := enc) (C := Tryz.checked) false ⟨#[], #[.slice none 0 0, .agg #[.int .u32 0, .int .i64 0, .string ByteArray.empty, .int .u32 0], .int .u32 0], []⟩ 8 (by kernel_rfl) (by kernel_rfl) (by kernel_rfl) (by kernel_rfl)) ?_
  intro W base args ds gs before hval0 hW hcnd _
  have hval : ∀ (j : Nat) t v, Tryz.f8.params[j]? = some t → args[j]? = some v → Value.okWide Tryz.prog W .any base t v := hval0
  have hW' := hW
  obtain ⟨p, q, hA0, hV, rfl, hfz, hnd⟩ := hW
  have hA : DataW.TrodAll enc Tryz.prog W 0 (fun _ => true) true Tryz.f8.params.toList args.toList ds p := hA0
  rw [Tryz.params8] at hA hval
  obtain ⟨v0, vs0, d0, ds0, p0, q0, hargs, rfl, rfl, h0, r0⟩ := trodAll_cons hA
  obtain ⟨v1, vs1, d1, ds1, p1, q1, rfl, rfl, rfl, h1, r1⟩ := trodAll_cons r0
  obtain ⟨v2, vs2, d2, ds2, p2, q2, rfl, rfl, rfl, h2, r2⟩ := trodAll_cons r1
  obtain ⟨rfl, rfl, rfl⟩ := trodAll_nil r2
  obtain rfl : args = #[v0, v1, v2] := by cases args; simp_all
  obtain ⟨rfl, rfl⟩ := trodVars_none hV
  obtain ⟨a0, len0, cap0, rfl⟩ := okWide_slice Tryz.underlying22 (hval 0 22 v0 rfl rfl)
  have k0 := h0
  have lt0 : ∀ x ∈ p0, x.block < W.heap.size := by obtain ⟨m, hm⟩ := k0; exact DataW.trod_lt m _ _ _ hm
  obtain ⟨o0, w0, ws0⟩ : ∃ os, RdK W a0 len0 cap0 os ∧ KvsOk os := by
    obtain ⟨fuel, hf⟩ := h0
    exact kvs_of hf
  obtain ⟨cs1, rfl, sz1⟩ := okWide_struct Tryz.underlying26 (hval 1 26 v1 rfl rfl)
  have k1 := h1
  have lt1 : ∀ x ∈ p1, x.block < W.heap.size := by obtain ⟨m, hm⟩ := k1; exact DataW.trod_lt m _ _ _ hm
  obtain ⟨a1, w1, rfl⟩ : ∃ q : Pl, PlOk q ∧ cs1 = plCells q := by
    obtain ⟨fuel, hf⟩ := h1
    exact place_of sz1 hf
  obtain ⟨a2, rfl, rfl, rfl, w2⟩ := open_int Tryz.underlying24 (hval 2 24 v2 rfl rfl) h2
  clear hA0 hval0
  refine (walk a0 len0 cap0 o0 a1 a2 W w0 ws0 w1 w2).mono fun e W' ⟨he, bel⟩ => ?_
  subst he
  exact ⟨_, rfl, _, _, _, [], _, [], hW', trodAll_mk1 (shut_bool Tryz.underlying4 _), (trodAll_cons_mk (Below.trod laidOut (by kernel_rfl) (of_decide_eq_true (by kernel_rfl)) k0 bel lt0) (trodAll_cons_mk (Below.trod laidOut (by kernel_rfl) (of_decide_eq_true (by kernel_rfl)) k1 bel lt1) (trodAll_cons_mk (shut_int Tryz.underlying24 w2) trodAll_mk0))), rfl, bel.frame _, fun h => by cases h⟩

theorem over : Rows.viewNoneRow.holds Tryz.pinned (OpenSpec.ofChange Rows.viewNoneSpec) :=
  OpenClaim.holds_of_wide 8 Tryz.f8 rfl rfl rfl rfl rfl rfl rfl ⟨rfl, rfl, rfl, rfl, rfl⟩ rfl rfl rfl rfl rfl (by kernel_rfl) Tryz.func8 (by kernel_rfl)
    (of_decide_eq_true (by kernel_rfl)) (by unfold Func.isWrapper; first | (rw [if_pos (by decide +kernel)]; kernel_rfl) | (rw [if_neg (by decide +kernel)]; exact ⟨rfl, rfl⟩))
    (fun os started H enc _ => lifted os started H enc)

end Go.Proofs.YtjlglnhmkheidaaGreat.viewNone

namespace Go.Proofs.YtjlglnhmkheidaaGreat
/-- The statement. -/
theorem viewNone_proved : Rows.ViewNoneSaid := viewNone.over
#print axioms viewNone_proved
end Go.Proofs.YtjlglnhmkheidaaGreat
