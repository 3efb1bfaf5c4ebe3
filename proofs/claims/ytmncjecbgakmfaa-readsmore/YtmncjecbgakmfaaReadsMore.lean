/- Proved: for whatever was added to a history (up to 60 versions), and whatever was read (a and b, up to 100 together): what is read in two lots, in either order, meets just if one of both does; nothing read meets nothing; and what meets above a version meets above the one before it; the chapter's examples hold; no condition. -/
import Derived.Test.YtmncjecbgakmfaaRtMore
import Derived.Test.YtmncjecbgakmfaaRtArg
import Derived.Deep.RegionHeld3
import Derived.BigQuiet
import Derived.Deep.QuietTactic
import Derived.WalkSmall
import Derived.ProofKit
import Derived.OpenShut
import Derived.ShutString
import Derived.ChangeOld
import Derived.Below
import Derived.Carry
import Derived.Deep.CutRange
import Derived.Deep.CutBlock
import Derived.Deep.LoopGhost
namespace Go.Proofs.Ytmncjecbgakmfaa.readsMore
open Go.ChangeShapes Go.WideShapes Go.ChangeAt Go.RowKit Go.Maps
open Go.ChangeMaps (open_string shut_string)
set_option linter.unusedVariables false
set_option linter.unusedSimpArgs false

theorem own : ownKnob Try.prog.godebug = none := by kernel_rfl
theorem laidOut : laidOutB Try.prog = true := by kernel_rfl

theorem own_lt {w : World} {base n k : Nat} {e : TypeId} {v : Value} {xs : List Value} (h : w.ownsRow base e k v n xs) : ∀ q ∈ v.ownBlock.toList, base ≤ q ∧ q < w.heap.size := by
  intro q hq
  rw [Option.mem_toList] at hq
  obtain ⟨h1, ⟨rfl, h2⟩ | ⟨g, cap, cur, rfl, h3, h4, _⟩⟩ := h
  · cases hq
  · cases hq; exact ⟨h3, (Array.getElem?_eq_some_iff.1 h4).1⟩

set_option maxRecDepth 100000 in
set_option maxHeartbeats 16000000 in
theorem walk (ao : Option Addr) (no co : Nat) (lo : List Act1) (since : Int) (aa : Option Addr) (na ca : Nat) (la : List Tc) (ab : Option Addr) (nb cb : Nat) (lb : List Tc) (w : World) (ho : RdA w (.slice ao no co) lo) (hsi : (Lit.int .u64 since).wf = true) (ha : RdT w (.slice aa na ca) la) (hsa : na ≤ 17592186043904) (hb : RdT w (.slice ab nb cb) lb) (hsb : nb ≤ 17592186043904) :
    Calls Try.prog 6 #[.slice ao no co, .int .u64 since, .slice aa na ca, .slice ab nb cb] w fun e w' => e = .returned (.bool true) ∧ Below w.heap.size w w' := by
  obtain ⟨hlo, hnco, hcmo⟩ := ho.1.len
  obtain ⟨hla, hnca, hcma⟩ := ha.1.len
  obtain ⟨hlb, hncb, hcmb⟩ := hb.1.len
  have hsi' := bounds_u64 hsi
  have HSI : Hid (0 ≤ since ∧ since ≤ 18446744073709551615) := hsi'
  have HO : Hid (RdA w (.slice ao no co) lo) := ho
  have HA : Hid (RdT w (.slice aa na ca) la) := ha
  have HB : Hid (RdT w (.slice ab nb cb) lb) := hb
  have HLO : Hid (lo.length = no) := hlo
  have HLA : Hid (la.length = na) := hla
  have HLB : Hid (lb.length = nb) := hlb
  clear ho ha hb hlo hla hlb hnco hcmo hnca hcma hncb hcmb hsi hsi'
  go_enter Try.func6, Try.ntmps6
  go_wp2_with fail
  refine (live_any _).mono ?_
  rintro e w1 ⟨rfl, hb1⟩
  go_wp2_with fail
  refine (newH_any _).mono ?_
  rintro e w2 ⟨rfl, hs2, hb2⟩
  have hF2 : HistF w.heap.size w w2 w1.heap.size [] [] := HistF.made hb1 hb1.size (Nat.le_refl _) hs2 hb2
  have HB2 : Hid (Below w.heap.size w w2) := thenB hb1 hb2
  obtain ⟨P, hP⟩ : ∃ P, w1.heap.size = P := ⟨_, rfl⟩
  rw [hP] at hF2
  rw [hP]
  clear hP hb1 hb2 hs2
  have HF2 : Hid (∃ V : List (Int × List Tc), HistF w.heap.size w w2 P V [] ∧ V.length ≤ 0) := ⟨[], hF2, Nat.le_refl _⟩
  clear hF2
  unfold ptr
  have hsum : (na : Int) + (nb : Int) ≤ 9223372036854775807 := by omega
  by_cases hbig : (no : Int) > 60
  · clear hsum
    go_wp2
    go_ret
    exact ⟨rfl, HB2.out⟩
  by_cases hbig2 : (na : Int) + (nb : Int) > 100
  · have hbig' : ¬ (60 < (no : Int)) := by omega
    go_wp2
    go_ret
    exact ⟨rfl, HB2.out⟩
  have hno : no ≤ 60 := by omega
  have hbig' : ¬ (100 < (na : Int) + (nb : Int)) := by omega
  have HN : Hid (na + nb ≤ 100 ∧ no ≤ 60) := by unfold Hid; omega
  clear hbig hbig2
  go_wp2
  clear hsum
  go_loopg [41] no (fun kx s41 wr => ∃ i : Nat, s41 = .int .i64 i ∧ i ≤ no ∧ no - i ≤ kx ∧ Hid (∃ V : List (Int × List Tc), HistF w.heap.size w wr P V [] ∧ V.length ≤ i))
  case atStart => exact ⟨0, rfl, Nat.zero_le _, by omega, HF2.out⟩
  case round =>
    obtain ⟨i, rfl, hin, hkx, HS⟩ := hrel
    by_cases hlt : i < no
    · obtain ⟨⟨D, N1, vv, al⟩, hx⟩ : ∃ o, lo[i]? = some o := ⟨_, List.getElem?_eq_getElem (by have := HLO.out; omega)⟩
      have hok := HO.out.2 _ (List.mem_of_getElem? hx)
      obtain ⟨V, hF, hVi⟩ := HS.out
      obtain ⟨av, cv, e⟩ := rdT_shape hok.t
      dsimp only at e
      subst e
      obtain ⟨bo, oo, rfl, hld⟩ := act_load (HO.out.1.below hF.bel) hx
      dsimp only at hld
      obtain ⟨nv, hnv⟩ : ∃ nv, al.length = nv := ⟨_, rfl⟩
      have hrt : RdT w (.slice av nv cv) al := by have := hok.t; dsimp only at this; rw [hnv] at this; exact this
      have hv01 := hok.a1
      dsimp only at hv01
      rw [hnv] at hld
      have HLD : Hid _ := hld
      have hiI : (i : Int) < (no : Int) := by omega
      have hib : (i : Int) + 1 ≤ 1000 := by omega
      have hbl := bel1 wr (.cells #[.int .i64 D, .int .u64 N1, .slice av nv cv] 45)
      obtain ⟨w5, hw5⟩ : ∃ w5, wr.alloc (.cells #[.int .i64 D, .int .u64 N1, .slice av nv cv] 45) = w5 := ⟨_, rfl⟩
      have hrow : w5.heap[wr.heap.size]? = some (.cells #[.int .i64 D, .int .u64 N1, .slice av nv cv] 45 (0, 0)) := by rw [← hw5]; exact heap_alloc_new wr _
      have c1 : w5.cell? ⟨wr.heap.size, 1, none⟩ = some (.int .u64 N1) := by rw [cell_of_row _ _ _ _ _ (0, 0) hrow]; rfl
      have c2 : w5.cell? ⟨wr.heap.size, 2, none⟩ = some (.slice av nv cv) := by rw [cell_of_row _ _ _ _ _ (0, 0) hrow]; rfl
      rw [hw5] at hbl
      have hF5 := hF.below hbl
      have HI : Hid (i ≤ no ∧ no - i ≤ gk ∧ V.length ≤ i ∧ i < no ∧ no ≤ 60) := ⟨hin, hkx, hVi, hlt, hno⟩
      by_cases hnv1 : nv ≤ 100
      · have hnvI : (nv : Int) ≤ 100 := by omega
        have hadd := hadd_any hF5 (by omega) N1 hv01.1 hv01.2 av nv cv al (hrt.below hF5.bel) hnv1
        unfold ptr at hadd
        clear hx hok hF hld hbl hrow hF5 HS hrt hv01 hnv hin hkx hVi hlt hno
        go_wp2_with (first | (refine wpList_loadG rfl 45 _ rfl _ rfl _ HLD.out ?_))
        refine hadd.mono ?_
        rintro e w6 ⟨rfl, hF6, _⟩
        have HF6 : Hid (∃ V : List (Int × List Tc), HistF w.heap.size w w6 P V [] ∧ V.length ≤ i + 1) := ⟨_, hF6, by have := addV_len V N1 al; have := HI.out; omega⟩
        clear hadd hF6
        go_wp2
        go_roundg (no - (i + 1))
        case measure => (have := HI.out; omega)
        case rel => exact ⟨i + 1, by rw [show ((i : Int) + 1) = ((i + 1 : Nat) : Int) by omega], by have := HI.out; omega, by have := HI.out; omega, HF6.out⟩
      · have hnvI : ¬ (nv : Int) ≤ 100 := by omega
        have HF6 : Hid (∃ V : List (Int × List Tc), HistF w.heap.size w w5 P V [] ∧ V.length ≤ i + 1) := ⟨V, hF5, by omega⟩
        clear hx hok hF hld hbl hrow hF5 HS hrt hv01 hnv hin hkx hVi hlt hno
        go_wp2_with (first | (refine wpList_loadG rfl 45 _ rfl _ rfl _ HLD.out ?_))
        go_roundg (no - (i + 1))
        case measure => (have := HI.out; omega)
        case rel => exact ⟨i + 1, by rw [show ((i : Int) + 1) = ((i + 1 : Nat) : Int) by omega], by have := HI.out; omega, by have := HI.out; omega, HF6.out⟩
    · obtain rfl : no = i := by omega
      obtain ⟨V, hF, hVi⟩ := HS.out
      have hVl : V.length ≤ 1000 := by omega
      have hna : na ≤ 1000000 := by have := HN.out; omega
      have hnb : nb ≤ 1000000 := by have := HN.out; omega
      have HV : Hid (V.length ≤ 1000 ∧ na ≤ 1000000 ∧ nb ≤ 1000000) := ⟨hVl, hna, hnb⟩
      obtain ⟨X, hX⟩ : ∃ X, meetsV V since la = X := ⟨_, rfl⟩
      obtain ⟨Y, hY⟩ : ∃ Y, meetsV V since lb = Y := ⟨_, rfl⟩
      have HX : Hid (meetsV V since la = X ∧ meetsV V since lb = Y) := ⟨hX, hY⟩
      have m1 := hF.meets hVl since aa na ca la (HA.out.1.below hF.bel) hna
      rw [hX] at m1
      unfold ptr at m1
      clear HS hkx hin hlt hX hY hVi hno
      go_wp2_with fail
      refine m1.mono ?_
      rintro e w3 ⟨rfl, hb3⟩
      have hF3 := hF.below hb3
      have m2 := hF3.meets HV.out.1 since ab nb cb lb (HB.out.1.below hF3.bel) HV.out.2.2
      rw [HX.out.2] at m2
      unfold ptr at m2
      clear m1 hF hb3
      go_wp2_with fail
      refine m2.mono ?_
      rintro e w4 ⟨rfl, hb4⟩
      have hF4 := hF3.below hb4
      clear m2 hF3 hb4
      have hra := HA.out.1.below hF4.bel
      have hrb := HB.out.1.below hF4.bel
      obtain ⟨iE, hiE, hz0, hz1, hz2⟩ := info_parts info_tc
      have hon : OwnL w4.heap.size 24 5 tcE w4 (.slice none 0 0) [] := OwnL.nil _ _ _ _ _
      go_wp2_with (first
        | (refine wpList_append_E tc_len tc_one Try.underlying32 hiE hz0 hz1 hz2 rfl (by decide) (by decide) rfl _ _ rfl w4.heap.size _ _ rfl hon _ la rfl hra (by have := HN.out; have := HLA.out; simp; omega) (Nat.le_refl _) ?_
           rintro v5 w5 ho5 hg5
           have hb5 : Below w4.heap.size w4 w5 := grown_below (Below.refl _ _) hg5 (fun g hg => by cases hg) (Nat.le_refl _)
           rw [List.nil_append] at ho5
           have hrb5 := hrb.below hb5)
        | (refine wpList_append_E tc_len tc_one Try.underlying32 hiE hz0 hz1 hz2 rfl (by decide) (by decide) rfl _ _ rfl w4.heap.size _ _ rfl ho5 _ lb rfl hrb5 (by have := HN.out; have := HLA.out; have := HLB.out; omega) hb5.size ?_
           rintro v6 w6 ho6 hg6
           have hb6 : Below w4.heap.size w4 w6 := grown_below hb5 hg6 (fun g hg => (own_lt ho5 g (by rw [Option.mem_toList]; exact hg)).1) hb5.size
           have hr6 : RdZ 5 tcE w6 v6 (la ++ lb) := rdZ_own tc_len ho6
           obtain ⟨a6, n6, c6, rfl⟩ : ∃ a n c, v6 = .slice a n c := by
             obtain ⟨⟨a, c, e, _⟩, _⟩ := hr6
             exact ⟨_, _, _, e⟩))
      have hF6 := hF4.below hb6
      obtain ⟨hl6, _, _⟩ := hr6.len
      have m3 := hF6.meets HV.out.1 since a6 n6 c6 (la ++ lb) hr6 (by rw [← hl6, List.length_append]; have := HLA.out; have := HLB.out; have := HN.out; omega)
      rw [meetsV_app, HX.out.1, HX.out.2] at m3
      unfold ptr at m3
      refine m3.mono ?_
      rintro e w7 ⟨rfl, hb7⟩
      have hF7 := hF6.below hb7
      clear m3 hb7 hF6 hr6 hb6 hg6 ho6 hrb5 hb5 ho5 hg5 hon hra hrb hF4 hl6
      have hra := HA.out.1.below hF7.bel
      have hrb := HB.out.1.below hF7.bel
      have hon : OwnL w7.heap.size 24 5 tcE w7 (.slice none 0 0) [] := OwnL.nil _ _ _ _ _
      go_wp2_with (first
        | (refine wpList_append_E tc_len tc_one Try.underlying32 hiE hz0 hz1 hz2 rfl (by decide) (by decide) rfl _ _ rfl w7.heap.size _ _ rfl hon _ lb rfl hrb (by have := HN.out; have := HLB.out; simp; omega) (Nat.le_refl _) ?_
           rintro v8 w8 ho8 hg8
           have hb8 : Below w7.heap.size w7 w8 := grown_below (Below.refl _ _) hg8 (fun g hg => by cases hg) (Nat.le_refl _)
           rw [List.nil_append] at ho8
           have hra8 := hra.below hb8)
        | (refine wpList_append_E tc_len tc_one Try.underlying32 hiE hz0 hz1 hz2 rfl (by decide) (by decide) rfl _ _ rfl w7.heap.size _ _ rfl ho8 _ la rfl hra8 (by have := HN.out; have := HLA.out; have := HLB.out; omega) hb8.size ?_
           rintro v9 w9 ho9 hg9
           have hb9 : Below w7.heap.size w7 w9 := grown_below hb8 hg9 (fun g hg => (own_lt ho8 g (by rw [Option.mem_toList]; exact hg)).1) hb8.size
           have hr9 : RdZ 5 tcE w9 v9 (lb ++ la) := rdZ_own tc_len ho9
           obtain ⟨a9, n9, c9, rfl⟩ : ∃ a n c, v9 = .slice a n c := by
             obtain ⟨⟨a, c, e, _⟩, _⟩ := hr9
             exact ⟨_, _, _, e⟩))
      have hF9 := hF7.below hb9
      obtain ⟨hl9, _, _⟩ := hr9.len
      have m4 := hF9.meets HV.out.1 since a9 n9 c9 (lb ++ la) hr9 (by rw [← hl9, List.length_append]; have := HLA.out; have := HLB.out; have := HN.out; omega)
      rw [meetsV_app, HX.out.1, HX.out.2, Bool.or_comm] at m4
      unfold ptr at m4
      refine m4.mono ?_
      rintro e w10 ⟨rfl, hb10⟩
      have hF10 := hF9.below hb10
      clear m4 hb10 hF9 hr9 hb9 hg9 ho9 hra8 hb8 ho8 hg8 hon hra hrb hF7 hl9 hiE hz0 hz1 hz2
      have m5 := hF10.meets HV.out.1 since none 0 0 [] (RdZ.nil _ _ _) (by omega)
      rw [meetsV_nil] at m5
      unfold ptr at m5
      have last : ∀ W, Below w10.heap.size w10 W → X = true → Calls Try.prog 22 #[ptr P, .int .u64 (since - 1), .slice aa na ca] W fun e w' => e = .returned (.bool true) ∧ Below W.heap.size W w' := fun W hW hXt => by
        have hFW := hF10.below hW
        have := hFW.meets HV.out.1 (since - 1) aa na ca la (HA.out.1.below hFW.bel) HV.out.2.1
        rw [meetsV_mono V since (since - 1) (by omega) la (by rw [HX.out.1]; exact hXt)] at this
        exact this
      have HBB : Hid (Below w.heap.size w w10) := hF10.bel
      have HUP : Hid (w.heap.size ≤ w10.heap.size) := hF10.up
      clear hF10 HX
      unfold ptr at last
      cases X with
      | false =>
        clear last
        cases Y with
        | false =>
          go_wp2_with fail
          refine m5.mono ?_
          rintro e w11 ⟨rfl, hb11⟩
          go_wp2
          go_ret
          exact ⟨rfl, HBB.out.trans (hb11.mono HUP.out)⟩
        | true =>
          go_wp2_with fail
          refine m5.mono ?_
          rintro e w11 ⟨rfl, hb11⟩
          go_wp2
          go_ret
          exact ⟨rfl, HBB.out.trans (hb11.mono HUP.out)⟩
      | true =>
        by_cases hz : since = 0
        · subst hz
          clear last
          go_wp2_with fail
          refine m5.mono ?_
          rintro e w11 ⟨rfl, hb11⟩
          go_wp2
          go_ret
          exact ⟨rfl, HBB.out.trans (hb11.mono HUP.out)⟩
        · have LAST : Hid _ := last
          clear last
          have hs1 : 1 ≤ since := by have := HSI.out; omega
          have hs2 : since ≤ 18446744073709551615 := HSI.out.2
          go_wp2_with fail
          refine m5.mono ?_
          rintro e w11 ⟨rfl, hb11⟩
          have hlst := LAST.out w11 hb11 (by first | trivial | rfl)
          clear m5
          go_wp2_with fail
          refine hlst.mono ?_
          rintro e w12 ⟨rfl, hb12⟩
          have HB12 : Hid (Below w10.heap.size w10 w12) := thenB hb11 hb12
          clear hb11 hb12 hlst
          go_wp2
          go_ret
          exact ⟨rfl, HBB.out.trans (HB12.out.mono HUP.out)⟩

/-! ### The row -/
set_option maxRecDepth 100000 in
theorem lifted (os : Os) (started : os.Started) (H : Type) (enc : TypeId × Value → H) :
    ReturnsInHanded {} Try.checked os 6 .any (Rows.readsMoreSpec.pre6 enc Try.prog Try.f6 Rows.readsMoreRow.domain false) (Rows.readsMoreSpec.post enc Try.prog Try.f6 false true false false) := by
  refine returnsInHanded_of_change_sized (C := Try.checked) own started (by kernel_rfl) Try.func6
    (ChangeSpec.witness6 (enc := enc) (C := Try.checked) false ⟨#[], #[.slice none 0 0, .int .u64 0, .slice none 0 0, .slice none 0 0], []⟩ 8 (by kernel_rfl) (by kernel_rfl) (by kernel_rfl) (by kernel_rfl)) ?_
  intro W base args ds gs before hval0 hW hcnd hsz0 _
  have hsz : (DataW.weightsEach Try.prog (Try.f6.params.toList ++ Rows.readsMoreSpec.plain.varTypes Try.prog) (ds ++ gs)).all (· ≤ reachBytes) = true := hsz0
  clear hsz0
  have hval : ∀ (j : Nat) t v, Try.f6.params[j]? = some t → args[j]? = some v → Value.okWide Try.prog W .any base t v := hval0
  have hW' := hW
  obtain ⟨p, q, hA0, hV, rfl, hfz, hnd⟩ := hW
  have hA : DataW.TrodAll enc Try.prog W 0 (fun _ => true) true Try.f6.params.toList args.toList ds p := hA0
  rw [Try.params6] at hA hval hsz
  obtain ⟨v0, vs0, d0, ds0, p0, q0, hargs, rfl, rfl, h0, r0⟩ := trodAll_cons hA
  obtain ⟨v1, vs1, d1, ds1, p1, q1, rfl, rfl, rfl, h1, r1⟩ := trodAll_cons r0
  obtain ⟨v2, vs2, d2, ds2, p2, q2, rfl, rfl, rfl, h2, r2⟩ := trodAll_cons r1
  obtain ⟨v3, vs3, d3, ds3, p3, q3, rfl, rfl, rfl, h3, r3⟩ := trodAll_cons r2
  obtain ⟨rfl, rfl, rfl⟩ := trodAll_nil r3
  obtain rfl : args = #[v0, v1, v2, v3] := by cases args; simp_all
  obtain ⟨rfl, rfl⟩ := trodVars_none hV
  obtain ⟨a0, len0, cap0, rfl⟩ := okWide_slice Try.underlying39 (hval 0 39 v0 rfl rfl)
  have k0 := h0
  have lt0 : ∀ x ∈ p0, x.block < W.heap.size := by obtain ⟨m, hm⟩ := k0; exact DataW.trod_lt m _ _ _ hm
  obtain ⟨o0, w0⟩ : ∃ os, RdA W (.slice a0 len0 cap0) os := by
    obtain ⟨fuel, hf⟩ := h0
    exact acts_of hf
  obtain ⟨a1, rfl, rfl, rfl, w1⟩ := open_int Try.underlying43 (hval 1 43 v1 rfl rfl) h1
  obtain ⟨a2, len2, cap2, rfl⟩ := okWide_slice Try.underlying32 (hval 2 32 v2 rfl rfl)
  have k2 := h2
  have lt2 : ∀ x ∈ p2, x.block < W.heap.size := by obtain ⟨m, hm⟩ := k2; exact DataW.trod_lt m _ _ _ hm
  obtain ⟨o2, w2, ws2⟩ : ∃ os, RdT W (.slice a2 len2 cap2) os ∧ len2 ≤ 17592186043904 := by
    obtain ⟨fuel, hf⟩ := h2
    obtain ⟨os, hos⟩ := tcs_of hf
    exact ⟨os, hos, tcs_sized hf hsz (j := 2) rfl rfl⟩
  obtain ⟨a3, len3, cap3, rfl⟩ := okWide_slice Try.underlying32 (hval 3 32 v3 rfl rfl)
  have k3 := h3
  have lt3 : ∀ x ∈ p3, x.block < W.heap.size := by obtain ⟨m, hm⟩ := k3; exact DataW.trod_lt m _ _ _ hm
  obtain ⟨o3, w3, ws3⟩ : ∃ os, RdT W (.slice a3 len3 cap3) os ∧ len3 ≤ 17592186043904 := by
    obtain ⟨fuel, hf⟩ := h3
    obtain ⟨os, hos⟩ := tcs_of hf
    exact ⟨os, hos, tcs_sized hf hsz (j := 3) rfl rfl⟩
  clear hA0 hval0
  refine (walk a0 len0 cap0 o0 a1 a2 len2 cap2 o2 a3 len3 cap3 o3 W w0 w1 w2 ws2 w3 ws3).mono fun e W' ⟨he, bel⟩ => ?_
  subst he
  exact ⟨_, rfl, _, _, _, [], _, [], hW', trodAll_mk1 (shut_bool Try.underlying4 _), (trodAll_cons_mk (Below.trod laidOut (by kernel_rfl) (of_decide_eq_true (by kernel_rfl)) k0 bel lt0) (trodAll_cons_mk (shut_int Try.underlying43 w1) (trodAll_cons_mk (Below.trod laidOut (by kernel_rfl) (of_decide_eq_true (by kernel_rfl)) k2 bel lt2) (trodAll_cons_mk (Below.trod laidOut (by kernel_rfl) (of_decide_eq_true (by kernel_rfl)) k3 bel lt3) trodAll_mk0)))), rfl, bel.frame _, fun h => by cases h⟩

theorem over : Rows.readsMoreRow.holds Try.pinned (OpenSpec.ofChange Rows.readsMoreSpec) :=
  OpenClaim.holds_of_wide 6 Try.f6 rfl rfl rfl rfl rfl rfl rfl ⟨rfl, rfl, rfl, rfl, rfl⟩ rfl rfl rfl rfl rfl (by kernel_rfl) Try.func6 (by kernel_rfl)
    (of_decide_eq_true (by kernel_rfl)) (by unfold Func.isWrapper; first | (rw [if_pos (by decide +kernel)]; kernel_rfl) | (rw [if_neg (by decide +kernel)]; exact ⟨rfl, rfl⟩))
    (fun os started H enc _ => lifted os started H enc)

end Go.Proofs.Ytmncjecbgakmfaa.readsMore

namespace Go.Proofs.Ytmncjecbgakmfaa
/-- The statement. -/
theorem readsMore_proved : Rows.ReadsMoreSaid := readsMore.over
#print axioms readsMore_proved
end Go.Proofs.Ytmncjecbgakmfaa
