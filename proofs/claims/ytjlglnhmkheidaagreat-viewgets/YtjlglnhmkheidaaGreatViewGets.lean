/- Proved: a view tells what stands at any place, whatever the base and the delta have. -/
import Derived.Test.YtjlglnhmkheidaaGreatVwLive
import Derived.Test.YtjlglnhmkheidaaGreatV9
import Derived.Test.YtjlglnhmkheidaaGreatN6
import Derived.Test.YtjlglnhmkheidaaGreatN3
import Derived.Test.YtjlglnhmkheidaaGreatV8
import Derived.Deep.RegionHeld3
import Derived.BigQuiet
import Derived.Deep.QuietTactic
import Derived.WalkSmall
import Derived.ProofKit
import Derived.OpenShut
import Derived.ShutString
import Derived.ChangeOld
import Derived.Below
import Derived.Carry
import Derived.Deep.CutRange
import Derived.Deep.CutBlock
namespace Go.Proofs.YtjlglnhmkheidaaGreat.viewGets
open Go.ChangeShapes Go.WideShapes Go.ChangeAt Go.RowKit
open Go.ChangeMaps (open_string shut_string)
set_option linter.unusedVariables false
set_option linter.unusedSimpArgs false

theorem own : ownKnob Tryz.prog.godebug = none := by kernel_rfl
theorem laidOut : laidOutB Tryz.prog = true := by kernel_rfl

theorem eq_itemsR (w : World) {x y : It} (hx : x.bytes.length = 32) (hy : y.bytes.length = 32) : (binOp .eql 49 (.agg (itC x)) (.agg (itC y))).run Tryz.prog w = .ok (.bool (itEq x y)) w := by
  rw [run_eql_struct, equal_items _ (by kernel_rfl) (by kernel_rfl) (by kernel_rfl) w 9997 hx hy]
  rfl
theorem built_rv (a : Option Addr) (len cap q : Nat) : Tryz.prog.built 40 [(0, .slice a len cap), (1, .pointer (some ⟨q, 0, none⟩))] = some #[.slice a len cap, .pointer (some ⟨q, 0, none⟩)] := by kernel_rfl
theorem refG_len (l : List (ByteArray × ByteArray)) (s : Dl) (z : Pl) : (refG l s z).1.bytes.length = 32 := by
  unfold refG refT
  have len0 := ch_zero.1
  repeat' split
  all_goals (first | exact refW_len len0 _ _ | exact len0 | exact refW_len (stI_ok l z).ch.1 _ _ | exact (stI_ok l z).ch.1)

set_option maxRecDepth 100000 in
set_option maxHeartbeats 16000000 in
theorem walk (a : Option Addr) (len cap : Nat) (l : List (ByteArray × ByteArray)) (a1 : Option Addr) (len1 cap1 : Nat) (os : List Cg) (p : Pl) (w : World) (hl : RdK w a len cap l) (hlo : KvsOk l) (hcs : CgsAt w a1 len1 cap1 os) (hp : PlOk p) : Calls Tryz.prog 3 #[.slice a len cap, .slice a1 len1 cap1, plV p] w fun e w' => e = .returned (.bool true) ∧ Below w.heap.size w w' := by
  have hz := zeroItem
  have hzR := zeroItemR
  have hzC := zeroCg
  have len0 := ch_zero.1
  have lenc : cg0.pt.bytes.length = 32 := cg0_ok.pt.ch.1
  have al : ∀ (A : World) (o : Obj), Below A.heap.size A (A.alloc o) := fun A o => (Below.refl _ A).alloc (Nat.le_refl _) o
  have hq1 := PlAt.laid w p
  have hb1 := al w (.cells (plCells p) 26)
  obtain ⟨w1, hw1⟩ : ∃ w1, w.alloc (.cells (plCells p) 26) = w1 := ⟨_, rfl⟩
  rw [hw1] at hq1 hb1
  rw [show plV p = .agg (plCells p) from rfl]
  go_enter Tryz.func3, Tryz.ntmps3
  have cv := live_any w1
  go_wp2_with fail
  refine cv.mono ?_
  rintro e w2 ⟨rfl, hb2⟩
  clear cv
  have hB2 := thenB hb1 hb2
  have cn := deltas_any w2 a1 len1 cap1 os (hcs.below hB2)
  go_wp2_with fail
  refine cn.mono ?_
  rintro e w3 ⟨d, b, q, s, xs, rfl, hD3, h80, hck⟩
  clear cn
  have hb3 := hD3.d.bel
  have hB3 : Below w.heap.size w w3 := thenB hB2 hb3
  have hlL := hD3.r.lenL hD3.ok
  have HSO : Hid (DlOk s) := hD3.ok
  have HCK : Hid (CksOk s) := hck
  have HLL : Hid (s.L.length ≤ 80) := by unfold Hid; omega
  have HXL : Hid (xs.length ≤ 80) := h80
  clear hlL hck h80
  have cr := rising_any w3 a len cap l (hl.below hB3)
  go_wp2_with fail
  refine cr.mono ?_
  rintro e w4 ⟨rv, rfl, ⟨rb, rfl, hris⟩, hb4⟩
  clear cr
  have hB4 := thenB hB3 hb4
  cases rb
  · go_wp2
    go_ret
    exact ⟨rfl, hB4⟩
  · clear hris
    have hs5 : SoAt (w4.alloc (.cells #[.slice a len cap, .int .i64 (-1)] 37)) w4.heap.size a len cap l := ⟨heap_alloc_new w4 _, (hl.below hB4).below (al w4 _)⟩
    have hb5 := al w4 (.cells #[.slice a len cap, .int .i64 (-1)] 37)
    obtain ⟨w5, hw5⟩ : ∃ w5, w4.alloc (.cells #[.slice a len cap, .int .i64 (-1)] 37) = w5 := ⟨_, rfl⟩
    rw [hw5] at hs5 hb5
    have cw := vnew_any w5 w4.heap.size d
    unfold baV at cw
    go_wp2_with fail
    refine cw.mono ?_
    rintro e w6 ⟨rfl, hv6, hb6⟩
    clear cw
    have hr7 : RvAt (w6.alloc (.cells #[.slice a len cap, .pointer (some ⟨q, 0, none⟩)] 40)) w6.heap.size a len cap q := ⟨heap_alloc_new w6 _⟩
    have hb7 := al w6 (.cells #[.slice a len cap, .pointer (some ⟨q, 0, none⟩)] 40)
    obtain ⟨w7, hw7⟩ : ∃ w7, w6.alloc (.cells #[.slice a len cap, .pointer (some ⟨q, 0, none⟩)] 40) = w7 := ⟨_, rfl⟩
    rw [hw7] at hr7 hb7
    have hb47 := thenB hb5 (thenB hb6 hb7)
    have HS7 : Hid _ := hs5.below (thenB hb6 hb7)
    have HV7 : Hid _ := hv6.below hb7
    have HD7 : Hid _ := hD3.below (thenB hb4 hb47)
    have HQ7 : Hid _ := (hq1.below hb2).below (thenB hb3 (thenB hb4 hb47))
    have HR7 : Hid _ := hr7
    have hB7 := thenB hB4 hb47
    have l7 : Hid _ := HQ7.out.loadG
    have cg := vget_any HV7.out HD7.out.d HS7.out p hp
    rw [vg_ref l HSO.out HCK.out] at cg
    rw [show plV p = .agg (plCells p) from rfl] at cg l7
    have HZL : Hid ((refG l s p).1.bytes.length = 32) := refG_len l s p
    obtain ⟨Z, hZ⟩ : ∃ Z, refG l s p = Z := ⟨_, rfl⟩
    have HZ : Hid (refG l s p = Z) := hZ
    rw [hZ] at cg HZL
    clear hv6 hs5 hD3 hq1 hb1 hb2 hb3 hb4 hb5 hB3 hB4 hB2 hb6 hb7 hb47 hZ hr7
    go_wp2_with (first | (refine wpList_buildBy rfl 40 _ rfl _ rfl [(0, .slice a len cap), (1, .pointer (some ⟨q, 0, none⟩))] (by kernel_rfl) #[.slice a len cap, .pointer (some ⟨q, 0, none⟩)] (built_rv _ _ _ _) ?_) | (refine wpList_loadG rfl 26 _ rfl _ rfl _ l7.out ?_))
    refine cg.mono ?_
    rintro e w8 ⟨rfl, hb8⟩
    clear cg l7
    have hn9 := ItAt.laid 45 w8 it0
    have hb9 := alloc_row (A := w8) (.cells (itC it0) 45) (itC Z.1)
    have HX9 : Hid _ := hn9.setRow Z.1
    obtain ⟨w9, hw9⟩ : ∃ w9, (w8.alloc (.cells (itC it0) 45)).setRow w8.heap.size (itC Z.1) = w9 := ⟨_, rfl⟩
    rw [hw9] at hb9 HX9
    have hb79 := thenB hb8 hb9
    have hB9 := thenB hB7 hb79
    have HS9 : Hid _ := HS7.out.below hb79
    have HV9 : Hid _ := HV7.out.below hb79
    have HD9 : Hid _ := HD7.out.below hb79
    have HQ9 : Hid _ := HQ7.out.below hb79
    have HR9 : Hid _ := HR7.out.below hb79
    have l9 : Hid _ := HQ9.out.loadG
    have cy := rget_any HR9.out (hl.below hB9) HD9.out p hp
    rw [HZ.out] at cy
    rw [show plV p = .agg (plCells p) from rfl] at cy l9
    clear HS7 HV7 HD7 HQ7 HR7 hb8 hb9 hb79 hB7
    go_wp2_with (first
      | (refine wpList_storeI rfl _ _ rfl w8.heap.size Z.1 it0 rfl rfl HZL.out len0 hn9 ?_; rw [hw9])
      | (refine wpList_loadG rfl 26 _ rfl _ rfl _ l9.out ?_))
    refine cy.mono ?_
    rintro e w10 ⟨rfl, hb10⟩
    clear cy l9 hn9 hw9
    have hn11 := ItAt.laid 49 w10 it0
    have hb11 := alloc_row (A := w10) (.cells (itC it0) 49) (itC Z.1)
    have HY11 : Hid _ := hn11.setRow Z.1
    obtain ⟨w11, hw11⟩ : ∃ w11, (w10.alloc (.cells (itC it0) 49)).setRow w10.heap.size (itC Z.1) = w11 := ⟨_, rfl⟩
    rw [hw11] at hb11 HY11
    have hb911 := thenB hb10 hb11
    have hB11 := thenB hB9 hb911
    have HS11 : Hid _ := HS9.out.below hb911
    have HV11 : Hid _ := HV9.out.below hb911
    have HD11 : Hid _ := HD9.out.below hb911
    have HR11 : Hid _ := HR9.out.below hb911
    have HX11 : Hid _ := HX9.out.below hb911
    clear HS9 HV9 HD9 HQ9 HR9 HX9 hb10 hb11 hb911 hB9
    obtain ⟨xv, hxv⟩ := HD11.out.x
    have ca := xall_any hxv HD11.out.r HSO.out (by have := HXL.out; omega) (by have := HLL.out; omega)
    clear hxv
    go_wp2_with (refine wpList_storeR rfl _ _ rfl w10.heap.size Z.1 it0 rfl rfl HZL.out len0 hn11 ?_; rw [hw11])
    refine ca.mono ?_
    rintro e w12 ⟨u, rfl, ho12, hb12⟩
    clear ca hn11 hw11
    obtain ⟨ua, uc, rfl⟩ := own_shape ho12
    have hrd := rdC_own ho12
    obtain ⟨hLn, hI⟩ := hrd.range HSO.out.L.ok
    have HB12 : Hid _ := thenB hB11 hb12
    have HS12 : Hid _ := HS11.out.below hb12
    have HV12 : Hid _ := HV11.out.below hb12
    have HD12 : Hid _ := HD11.out.below hb12
    have HR12 : Hid _ := HR11.out.below hb12
    have HX12 : Hid _ := HX11.out.below hb12
    have HY12 : Hid _ := HY11.out.below hb12
    clear HS11 HV11 HD11 HR11 HX11 HY11 hb12 hB11 hrd ho12 hLn
    obtain ⟨n, hn⟩ : ∃ n, s.L.length = n := ⟨_, rfl⟩
    have HN : Hid (s.L.length = n) := hn
    have hn80 : n ≤ 80 := by rw [← hn]; exact HLL.out
    rw [hn] at hI ⊢
    clear hn
    go_wp2_with fail
    go_loopw [19, 20, 21, 22, 23, 24, 25, 73] (fun _ _ _ _ _ _ _ t wr => ∃ (i : Nat), i ≤ n ∧ t = .int .i64 i ∧ Hid (Below w12.heap.size w12 wr)) (fun _ _ _ _ _ _ _ t _ => n - (intOf t).toNat)
    case atStart => exact ⟨0, Nat.zero_le _, rfl, Below.refl _ _⟩
    case round =>
      obtain ⟨i, hi, rfl, HB⟩ := hrel
      by_cases hlt : i < n
      · have hltI : (i : Int) < n := by omega
        obtain ⟨ug, uo, rfl, hug, hat⟩ := hI (by omega)
        have hcm : s.L.getD i cg0 ∈ s.L := by
          rw [List.getD_eq_getElem?_getD, List.getElem?_eq_getElem (by rw [HN.out]; exact hlt)]
          exact List.getElem_mem _
        have hok := HSO.out.L.ok _ hcm
        have hrg : wr.rangeAt ug (uo + i * 46) (cgL (s.L.getD i cg0)) := fun j x hx => (World.cell?_of_block (HB.out.block ug hug)).trans (hat i hlt j x hx)
        have HLD : Hid _ := range_load hrg hok
        clear hrg hat hcm
        obtain ⟨c, hc⟩ : ∃ c, s.L.getD i cg0 = c := ⟨_, rfl⟩
        rw [hc] at hok HLD
        clear hc
        have HL : Hid (c.pt.bytes.length = 32) := hok.pt.ch.1
        have hz3 := CgAt.laid wr cg0
        have hb3 := alloc_row (A := wr) (.cells (cgC cg0) 56) (cgC c)
        have hd3 := hz3.setRow c
        obtain ⟨y3, hy3⟩ : ∃ y3, (wr.alloc (.cells (cgC cg0) 56)).setRow wr.heap.size (cgC c) = y3 := ⟨_, rfl⟩
        rw [hy3] at hb3 hd3
        have hbt := HB.out.trans (hb3.mono HB.out.size)
        have l3 : Hid _ := hd3.loadP
        have cg := vget_any (HV12.out.below hbt) (HD12.out.below hbt).d (HS12.out.below hbt) c.pl hok.pl
        rw [vg_ref l HSO.out HCK.out] at cg
        have HWL : Hid ((refG l s c.pl).1.bytes.length = 32) := refG_len l s c.pl
        obtain ⟨V, hV⟩ : ∃ V, refG l s c.pl = V := ⟨_, rfl⟩
        have HVV : Hid (refG l s c.pl = V) := hV
        rw [hV] at cg HWL
        clear hV
        go_wp2_with (first
          | (refine wpList_loadG rfl 56 _ rfl _ rfl _ HLD.out ?_)
          | (refine wpList_storeG rfl _ _ rfl wr.heap.size c cg0 rfl rfl HL.out lenc hz3 ?_; rw [hy3])
          | (refine wpList_loadG rfl 26 _ rfl _ rfl _ l3.out ?_))
        refine cg.mono ?_
        rintro e y4 ⟨rfl, hb4⟩
        clear cg l3 hz3 hy3 HLD
        have hn5 := ItAt.laid 45 y4 it0
        have hb5 := alloc_row (A := y4) (.cells (itC it0) 45) (itC V.1)
        have hx5 := hn5.setRow V.1
        obtain ⟨y5, hy5⟩ : ∃ y5, (y4.alloc (.cells (itC it0) 45)).setRow y4.heap.size (itC V.1) = y5 := ⟨_, rfl⟩
        rw [hy5] at hb5 hx5
        have hb35 := thenB hb4 hb5
        have hd5 := hd3.below hb35
        have hbt5 := hbt.trans (hb35.mono hbt.size)
        have l5 : Hid _ := hd5.loadP
        have cy := rget_any (HR12.out.below hbt5) (hl.below (thenB HB12.out hbt5)) (HD12.out.below hbt5) c.pl hok.pl
        rw [HVV.out] at cy
        go_wp2_with (first
          | (refine wpList_storeI rfl _ _ rfl y4.heap.size V.1 it0 rfl rfl HWL.out len0 hn5 ?_; rw [hy5])
          | (refine wpList_loadG rfl 26 _ rfl _ rfl _ l5.out ?_))
        refine cy.mono ?_
        rintro e y6 ⟨rfl, hb6⟩
        clear cy l5 hn5 hy5
        have hn7 := ItAt.laid 49 y6 it0
        have hb7 := alloc_row (A := y6) (.cells (itC it0) 49) (itC V.1)
        have hx7 := hn7.setRow V.1
        obtain ⟨y7, hy7⟩ : ∃ y7, (y6.alloc (.cells (itC it0) 49)).setRow y6.heap.size (itC V.1) = y7 := ⟨_, rfl⟩
        rw [hy7] at hb7 hx7
        have hb57 := thenB hb6 hb7
        have lx : Hid _ := (hx5.below hb57).loadW HWL.out
        have ly : Hid _ := hx7.loadR HWL.out
        have HB7 : Hid (Below w12.heap.size w12 y7) := hbt5.trans (hb57.mono hbt5.size)
        have hne : ∀ W : World, (binOp .neq 49 (.agg (itC V.1)) (.agg (itC V.1))).run Tryz.prog W = .ok (.bool false) W := fun W => by
          rw [neq_itemsR W HWL.out HWL.out, itEq_iff.2 rfl]; rfl
        clear hd3 hd5 hx5 hx7 hb3 hb4 hb5 hb6 hb7 hb35 hb57 hbt hbt5
        obtain ⟨V1, V2, V3⟩ := V
        dsimp only at *
        go_wp2_with (first
          | (refine wpList_storeR rfl _ _ rfl y6.heap.size V1 it0 rfl rfl HWL.out len0 hn7 ?_; rw [hy7])
          | (refine wpList_loadG rfl 45 _ rfl _ rfl _ lx.out ?_)
          | (refine wpList_loadG rfl 49 _ rfl _ rfl _ ly.out ?_))
        go_roundw
        case rel => exact ⟨i + 1, by omega, by go_num, HB7⟩
        case measure => simp [intOf]; omega
      · obtain rfl : i = n := by omega
        have hltI : ¬ (i : Int) < i := by omega
        have lx : Hid _ := (HX12.out.below HB.out).loadW HZL.out
        have ly : Hid _ := (HY12.out.below HB.out).loadR HZL.out
        have heq : ∀ W : World, (binOp .eql 49 (.agg (itC Z.1)) (.agg (itC Z.1))).run Tryz.prog W = .ok (.bool true) W := fun W => by
          rw [eq_itemsR W HZL.out HZL.out, itEq_iff.2 rfl]
        go_wp2_with (first
          | (refine wpList_loadG rfl 45 _ rfl _ rfl _ lx.out ?_)
          | (refine wpList_loadG rfl 49 _ rfl _ rfl _ ly.out ?_))
        go_ret
        exact ⟨rfl, thenB HB12.out HB.out⟩

/-! ### The row -/
set_option maxRecDepth 100000 in
theorem lifted (os : Os) (started : os.Started) (H : Type) (enc : TypeId × Value → H) :
    ReturnsInHanded {} Tryz.checked os 3 .any (Rows.viewGetsSpec.pre6 enc Tryz.prog Tryz.f3 Rows.viewGetsRow.domain false) (Rows.viewGetsSpec.post enc Tryz.prog Tryz.f3 false true false false) := by
  refine returnsInHanded_of_change (C := Tryz.checked) own started (by kernel_rfl) Tryz.func3
    (ChangeSpec.witness6 (enc := enc) (C := Tryz.checked) false ⟨#[], #[.slice none 0 0, .slice none 0 0, .agg #[.int .u32 0, .int .i64 0, .string ByteArray.empty, .int .u32 0]], []⟩ 8 (by kernel_rfl) (by kernel_rfl) (by kernel_rfl) (by kernel_rfl)) ?_
  intro W base args ds gs before hval0 hW hcnd _
  have hval : ∀ (j : Nat) t v, Tryz.f3.params[j]? = some t → args[j]? = some v → Value.okWide Tryz.prog W .any base t v := hval0
  have hW' := hW
  obtain ⟨p, q, hA0, hV, rfl, hfz, hnd⟩ := hW
  have hA : DataW.TrodAll enc Tryz.prog W 0 (fun _ => true) true Tryz.f3.params.toList args.toList ds p := hA0
  rw [Tryz.params3] at hA hval
  obtain ⟨v0, vs0, d0, ds0, p0, q0, hargs, rfl, rfl, h0, r0⟩ := trodAll_cons hA
  obtain ⟨v1, vs1, d1, ds1, p1, q1, rfl, rfl, rfl, h1, r1⟩ := trodAll_cons r0
  obtain ⟨v2, vs2, d2, ds2, p2, q2, rfl, rfl, rfl, h2, r2⟩ := trodAll_cons r1
  obtain ⟨rfl, rfl, rfl⟩ := trodAll_nil r2
  obtain rfl : args = #[v0, v1, v2] := by cases args; simp_all
  obtain ⟨rfl, rfl⟩ := trodVars_none hV
  obtain ⟨a0, len0, cap0, rfl⟩ := okWide_slice Tryz.underlying22 (hval 0 22 v0 rfl rfl)
  have k0 := h0
  have lt0 : ∀ x ∈ p0, x.block < W.heap.size := by obtain ⟨m, hm⟩ := k0; exact DataW.trod_lt m _ _ _ hm
  obtain ⟨o0, w0, ws0⟩ : ∃ os, RdK W a0 len0 cap0 os ∧ KvsOk os := by
    obtain ⟨fuel, hf⟩ := h0
    exact kvs_of hf
  obtain ⟨a1, len1, cap1, rfl⟩ := okWide_slice Tryz.underlying23 (hval 1 23 v1 rfl rfl)
  have k1 := h1
  have lt1 : ∀ x ∈ p1, x.block < W.heap.size := by obtain ⟨m, hm⟩ := k1; exact DataW.trod_lt m _ _ _ hm
  obtain ⟨o1, w1⟩ : ∃ os, CgsAt W a1 len1 cap1 os := by
    obtain ⟨fuel, hf⟩ := h1
    exact cgs_of hf
  obtain ⟨cs2, rfl, sz2⟩ := okWide_struct Tryz.underlying26 (hval 2 26 v2 rfl rfl)
  have k2 := h2
  have lt2 : ∀ x ∈ p2, x.block < W.heap.size := by obtain ⟨m, hm⟩ := k2; exact DataW.trod_lt m _ _ _ hm
  obtain ⟨a2, w2, rfl⟩ : ∃ q : Pl, PlOk q ∧ cs2 = plCells q := by
    obtain ⟨fuel, hf⟩ := h2
    exact place_of sz2 hf
  clear hA0 hval0
  refine (walk a0 len0 cap0 o0 a1 len1 cap1 o1 a2 W w0 ws0 w1 w2).mono fun e W' ⟨he, bel⟩ => ?_
  subst he
  exact ⟨_, rfl, _, _, _, [], _, [], hW', trodAll_mk1 (shut_bool Tryz.underlying4 _), (trodAll_cons_mk (Below.trod laidOut (by kernel_rfl) (of_decide_eq_true (by kernel_rfl)) k0 bel lt0) (trodAll_cons_mk (Below.trod laidOut (by kernel_rfl) (of_decide_eq_true (by kernel_rfl)) k1 bel lt1) (trodAll_cons_mk (Below.trod laidOut (by kernel_rfl) (of_decide_eq_true (by kernel_rfl)) k2 bel lt2) trodAll_mk0))), rfl, bel.frame _, fun h => by cases h⟩

theorem over : Rows.viewGetsRow.holds Tryz.pinned (OpenSpec.ofChange Rows.viewGetsSpec) :=
  OpenClaim.holds_of_wide 3 Tryz.f3 rfl rfl rfl rfl rfl rfl rfl ⟨rfl, rfl, rfl, rfl, rfl⟩ rfl rfl rfl rfl rfl (by kernel_rfl) Tryz.func3 (by kernel_rfl)
    (of_decide_eq_true (by kernel_rfl)) (by unfold Func.isWrapper; first | (rw [if_pos (by decide +kernel)]; kernel_rfl) | (rw [if_neg (by decide +kernel)]; exact ⟨rfl, rfl⟩))
    (fun os started H enc _ => lifted os started H enc)

end Go.Proofs.YtjlglnhmkheidaaGreat.viewGets

namespace Go.Proofs.YtjlglnhmkheidaaGreat
/-- The statement. -/
theorem viewGets_proved : Rows.ViewGetsSaid := viewGets.over
#print axioms viewGets_proved
end Go.Proofs.YtjlglnhmkheidaaGreat
