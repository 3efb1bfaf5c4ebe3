/- Proved: for all touches a and b (few enough): Undo of the Mark that was taken behind a leaves what was there then, whatever of a and b was added behind it; what is added again is there once; the chapter's examples hold; no condition. -/
import Derived.Test.YtmncjecbgakmfaaRtSetF
import Derived.Test.YtmncjecbgakmfaaRtArg
import Derived.Deep.RegionHeld3
import Derived.BigQuiet
import Derived.Deep.QuietTactic
import Derived.WalkSmall
import Derived.ProofKit
import Derived.OpenShut
import Derived.ShutString
import Derived.ChangeOld
import Derived.Below
import Derived.Carry
import Derived.Deep.CutRange
import Derived.Deep.CutBlock
import Derived.Deep.LoopGhost
namespace Go.Proofs.Ytmncjecbgakmfaa.readsUndone
open Go.ChangeShapes Go.WideShapes Go.ChangeAt Go.RowKit Go.Maps
open Go.ChangeMaps (open_string shut_string)
set_option linter.unusedVariables false
set_option linter.unusedSimpArgs false

theorem own : ownKnob Try.prog.godebug = none := by kernel_rfl
theorem laidOut : laidOutB Try.prog = true := by kernel_rfl

theorem own_lt {w : World} {base n k : Nat} {e : TypeId} {v : Value} {xs : List Value} (h : w.ownsRow base e k v n xs) : ∀ q ∈ v.ownBlock.toList, base ≤ q ∧ q < w.heap.size := by
  intro q hq
  rw [Option.mem_toList] at hq
  obtain ⟨h1, ⟨rfl, h2⟩ | ⟨g, cap, cur, rfl, h3, h4, _⟩⟩ := h
  · cases hq
  · cases hq; exact ⟨h3, (Array.getElem?_eq_some_iff.1 h4).1⟩

set_option maxRecDepth 100000 in
set_option maxHeartbeats 16000000 in
theorem walk (aa : Option Addr) (na ca : Nat) (la : List Tc) (ab : Option Addr) (nb cb : Nat) (lb : List Tc) (w : World) (ha : RdT w (.slice aa na ca) la) (hsa : na ≤ 17592186043904) (hb : RdT w (.slice ab nb cb) lb) (hsb : nb ≤ 17592186043904) :
    Calls Try.prog 8 #[.slice aa na ca, .slice ab nb cb] w fun e w' => e = .returned (.bool true) ∧ Below w.heap.size w w' := by
  obtain ⟨hla, hnca, hcma⟩ := ha.1.len
  obtain ⟨hlb, hncb, hcmb⟩ := hb.1.len
  unfold maxLen at hcma hcmb
  have HA : Hid _ := ha
  have HB : Hid _ := hb
  have HLA : Hid (la.length = na ∧ na ≤ ca ∧ ca ≤ 2 ^ 63 - 1) := ⟨hla, hnca, hcma⟩
  have HLB : Hid (lb.length = nb ∧ nb ≤ cb ∧ cb ≤ 2 ^ 63 - 1) := ⟨hlb, hncb, hcmb⟩
  clear ha hb hla hlb hnca hncb hcma hcmb
  go_enter Try.func8, Try.ntmps8
  go_wp2_with fail
  refine (live_any _).mono ?_
  rintro e w1 ⟨rfl, hb1⟩
  go_wp2_with fail
  refine (new_any _).mono ?_
  rintro e w2 ⟨rfl, hs2, hb2⟩
  have hF2 : SetF w.heap.size w w2 (w1.heap.size + 1) w1.heap.size [] [] := SetF.made hb1 hb1.size (by omega) (Nat.le_refl _) hs2 hb2
  have HB2 : Hid (Below w.heap.size w w2) := thenB hb1 hb2
  obtain ⟨P, hP⟩ : ∃ P, w1.heap.size + 1 = P := ⟨_, rfl⟩
  obtain ⟨M, hM⟩ : ∃ M, w1.heap.size = M := ⟨_, rfl⟩
  rw [hP, hM] at hF2
  rw [hP]
  clear hP hM hb1 hb2 hs2
  have HF2 : Hid _ := hF2
  clear hF2
  unfold ptr
  have hsum : (na : Int) + (nb : Int) ≤ 9223372036854775807 := by omega
  by_cases hbig : (na : Int) + (nb : Int) > 100
  · go_wp2
    go_ret
    exact ⟨rfl, HB2.out⟩
  have hbig' : ¬ (100 < (na : Int) + (nb : Int)) := by omega
  have HN : Hid (na + nb ≤ 100) := by unfold Hid; omega
  clear hbig
  go_wp2
  go_loopg [36] na (fun kx s36 wr => ∃ i : Nat, s36 = .int .i64 i ∧ i ≤ na ∧ na - i ≤ kx ∧ Hid (SetF w.heap.size w wr P M (addAll [] (la.take i)) []))
  case atStart => exact ⟨0, rfl, Nat.zero_le _, by omega, HF2.out⟩
  case round =>
    obtain ⟨i, rfl, hina, hkx, HF⟩ := hrel
    by_cases hlt : i < na
    · obtain ⟨x, hx⟩ : ∃ x, la[i]? = some x := ⟨_, List.getElem?_eq_getElem (by have := HLA.out; omega)⟩
      have HX : Hid (la[i]? = some x) := hx
      have hxo : TcOk x := HA.out.2 x (List.mem_of_getElem? hx)
      have hrd := HA.out.1.below HF.out.bel
      obtain ⟨ba, oa, rfl⟩ : ∃ ba oa, aa = some ⟨ba, oa, none⟩ := by
        obtain ⟨⟨a1, c1, e1, k1, k2, k3⟩, _⟩ := hrd
        obtain ⟨b1, o1, e2, _⟩ := k3 (by intro e; subst e; simp at hx)
        simp only [Value.slice.injEq] at e1
        exact ⟨b1, o1, e1.1.trans e2⟩
      have HLD : Hid _ := tc_load hrd hx
      have hF5 := HF.out.below (bel1 wr (.cells #[.int .i64 x.kind, .int .u32 x.ino, .string x.name, .int .i64 x.lo, .int .i64 x.hi] 24))
      have hiI : (i : Int) < (na : Int) := by omega
      have hib : (i : Int) + 1 ≤ 9223372036854775807 := by omega
      obtain ⟨w5, hw5⟩ : ∃ w5, wr.alloc (.cells #[.int .i64 x.kind, .int .u32 x.ino, .string x.name, .int .i64 x.lo, .int .i64 x.hi] 24) = w5 := ⟨_, rfl⟩
      have ht5 : TcAt w5 wr.heap.size x := by rw [← hw5]; exact TcAt.laid wr x
      have HL5 : Hid _ := ht5.load
      rw [hw5] at hF5
      clear hx hrd HF
      go_wp2_with (first | (refine wpList_loadG rfl 24 _ rfl _ rfl _ HLD.out ?_) | (refine wpList_loadG rfl 24 _ rfl _ rfl _ HL5.out ?_))
      refine (hF5.add x hxo (by have h1 := addAll_len (la.take i) []; rw [List.length_take, List.length_nil] at h1; have h2 := HN.out; omega)).mono ?_
      rintro e w6 ⟨rfl, hF6, _⟩
      have HF6 : Hid _ := hF6
      clear hF6 hF5 ht5 HL5
      go_wp2
      go_roundg (na - (i + 1))
      case measure => omega
      case rel => exact ⟨i + 1, by rw [show ((i : Int) + 1) = ((i + 1 : Nat) : Int) by omega], by omega, by omega, by rw [addAll_next HX.out]; exact HF6.out⟩
    · obtain rfl : na = i := by omega
      have hF := HF.out
      rw [List.take_of_length_le (by have := HLA.out; omega)] at hF
      have hln : (addAll [] la).length ≤ na := by
        have h1 := addAll_len la []
        have h2 := HLA.out
        rw [List.length_nil] at h1
        omega
      clear HF hkx hina hlt
      go_wp2_with fail
      refine (hF.all (by have := HN.out; omega)).mono ?_
      rintro e w6 ⟨u6, rfl, ho6, hb6⟩
      have hF6 := hF.more hb6 _ (own_lt ho6)
      have hr6 : RdZ 5 tcE w6 u6 (addAll [] la) := rdZ_own tc_len ho6
      obtain ⟨a6, c6, rfl⟩ := row_slice ho6
      obtain ⟨L1, hL1⟩ : ∃ L1, addAll [] la = L1 := ⟨_, rfl⟩
      have HL1 : Hid (addAll [] la = L1) := hL1
      rw [hL1] at hF6 hr6 hln
      rw [hL1]
      clear hL1 ho6 hb6 hF
      obtain ⟨n1, hn1⟩ : ∃ n1, L1.length = n1 := ⟨_, rfl⟩
      have HN1 : Hid (L1.length = n1) := hn1
      rw [hn1] at hF6 hr6 hln
      rw [hn1]
      have hmk := hF6.mark
      rw [hn1] at hmk
      clear hn1
      unfold ptr at hmk
      go_wp2_with fail
      refine hmk.mono ?_
      rintro e w7 ⟨rfl, rfl⟩
      have hra := HA.out.1.below hF6.bel
      have hrb0 := HB.out.1.below hF6.bel
      obtain ⟨iE, hiE, hz0, hz1, hz2⟩ := info_parts info_tc
      have hon : OwnL w6.heap.size 24 5 tcE w6 (.slice none 0 0) [] := OwnL.nil _ _ _ _ _
      clear hmk
      go_wp2_with (first
        | (refine wpList_append_E tc_len tc_one Try.underlying32 hiE hz0 hz1 hz2 rfl (by decide) (by decide) rfl _ _ rfl w6.heap.size _ _ rfl hon _ la rfl hra (by have := HN.out; have := HLA.out; simp; omega) (Nat.le_refl _) ?_
           rintro v7 w7 ho7 hg7
           have hb7 : Below w6.heap.size w6 w7 := grown_below (Below.refl _ _) hg7 (fun g hg => by cases hg) (Nat.le_refl _)
           rw [List.nil_append] at ho7
           have hrb := hrb0.below hb7)
        | (refine wpList_append_E tc_len tc_one Try.underlying32 hiE hz0 hz1 hz2 rfl (by decide) (by decide) rfl _ _ rfl w6.heap.size _ _ rfl ho7 _ lb rfl hrb (by have := HN.out; have := HLA.out; have := HLB.out; omega) hb7.size ?_
           rintro v8 w8 ho8x hg8
           have ho8 : w8.ownsRow w6.heap.size 24 5 v8 (la ++ lb).length ((la ++ lb).flatMap tcE) := ho8x
           clear ho8x
           obtain ⟨T, hT⟩ : ∃ T, la ++ lb = T := ⟨_, rfl⟩
           rw [hT] at ho8
           have HT : Hid (la ++ lb = T) := hT
           obtain ⟨nt, hnt⟩ : ∃ nt, T.length = nt := ⟨_, rfl⟩
           rw [hnt] at ho8
           have HNT0 : Hid (T.length = nt) := hnt
           clear hT hnt
           obtain ⟨a8, c8, rfl⟩ := row_slice ho8))
      have hb8 : Below w6.heap.size w6 w8 := grown_below hb7 hg8 (fun g hg => (own_lt ho7 g (by rw [Option.mem_toList]; exact hg)).1) hb7.size
      have hF8 := hF6.more hb8 _ (own_lt ho8)
      have hr8 : RdZ 5 tcE w8 (.slice a8 nt c8) T := by
        refine rdZ_own tc_len (base := w6.heap.size) (e := 24) ?_
        rw [HNT0.out]; exact ho8
      have hq8 := hr6.below hb8
      clear ho8 hg8 hb8 hrb hb7 ho7 hg7 hra hrb0 hon hF6 hr6 hiE hz0 hz1 hz2 iE
      have HNT : Hid (T.length = nt ∧ nt = na + nb) := ⟨HNT0.out, by have h1 := HT.out; have h2 := HLA.out; have h3 := HLB.out; rw [← HNT0.out, ← h1, List.length_append]; omega⟩
      have htok : Hid (∀ t ∈ T, TcOk t) := fun t ht => by
        rw [← HT.out] at ht
        rcases List.mem_append.1 ht with h | h
        · exact HA.out.2 t h
        · exact HB.out.2 t h
      have HF8 : Hid (SetF w.heap.size w w8 P M L1 ((Value.slice a8 nt c8).ownBlock.toList ++ ((Value.slice a6 n1 c6).ownBlock.toList ++ []))) := hF8
      have HR8 : Hid (RdZ 5 tcE w8 (.slice a8 nt c8) T ∧ RdZ 5 tcE w8 (.slice a6 n1 c6) L1) := ⟨hr8, hq8⟩
      clear hF8 hr8 hq8
      have hnt100 : nt ≤ 100 := by have := HNT.out; have := HN.out; omega
      go_wp2
      go_loopg [53] nt (fun kx s53 wr => ∃ i : Nat, s53 = .int .i64 i ∧ i ≤ nt ∧ nt - i ≤ kx ∧ Hid (SetF w.heap.size w wr P M (addAll L1 (T.take i)) ((Value.slice a8 nt c8).ownBlock.toList ++ ((Value.slice a6 n1 c6).ownBlock.toList ++ []))) ∧ Hid (RdZ 5 tcE wr (.slice a8 nt c8) T ∧ RdZ 5 tcE wr (.slice a6 n1 c6) L1))
      case atStart => exact ⟨0, rfl, Nat.zero_le _, by omega, HF8.out, HR8.out⟩
      case round =>
        obtain ⟨i, rfl, hint, hkx, HF, HR⟩ := hrel
        by_cases hlt : i < nt
        · obtain ⟨x, hx⟩ : ∃ x, T[i]? = some x := ⟨_, List.getElem?_eq_getElem (by have := HNT.out; omega)⟩
          have HX : Hid (T[i]? = some x) := hx
          have hxo : TcOk x := htok.out x (List.mem_of_getElem? hx)
          have hrd := HR.out.1
          obtain ⟨b8, o8, rfl⟩ : ∃ b8 o8, a8 = some ⟨b8, o8, none⟩ := by
            obtain ⟨⟨a1, c1, e1, k1, k2, k3⟩, _⟩ := hrd
            obtain ⟨b1, o1, e2, _⟩ := k3 (by intro e; subst e; simp at hx)
            simp only [Value.slice.injEq] at e1
            exact ⟨b1, o1, e1.1.trans e2⟩
          have HLD : Hid _ := tc_load hrd hx
          have hbl := bel1 wr (.cells #[.int .i64 x.kind, .int .u32 x.ino, .string x.name, .int .i64 x.lo, .int .i64 x.hi] 24)
          have hF5 := HF.out.below hbl
          have hR5 := And.intro (HR.out.1.below hbl) (HR.out.2.below hbl)
          have hiI : (i : Int) < (nt : Int) := by omega
          have hib : (i : Int) + 1 ≤ 9223372036854775807 := by omega
          obtain ⟨w5, hw5⟩ : ∃ w5, wr.alloc (.cells #[.int .i64 x.kind, .int .u32 x.ino, .string x.name, .int .i64 x.lo, .int .i64 x.hi] 24) = w5 := ⟨_, rfl⟩
          have ht5 : TcAt w5 wr.heap.size x := by rw [← hw5]; exact TcAt.laid wr x
          have HL5 : Hid _ := ht5.load
          rw [hw5] at hF5 hR5
          clear hx hrd HF HR hbl
          have HR5 : Hid _ := hR5
          clear hR5
          go_wp2_with (first | (refine wpList_loadG rfl 24 _ rfl _ rfl _ HLD.out ?_) | (refine wpList_loadG rfl 24 _ rfl _ rfl _ HL5.out ?_))
          refine (hF5.add x hxo (by have h1 := addAll_len (T.take i) L1; rw [List.length_take, HN1.out] at h1; omega)).mono ?_
          rintro e w6' ⟨rfl, hF6, hk6⟩
          have HF6 : Hid (SetF w.heap.size w w6' P M (addL (addAll L1 (T.take i)) x) ((Value.slice (some ⟨b8, o8, none⟩) nt c8).ownBlock.toList ++ ((Value.slice a6 n1 c6).ownBlock.toList ++ []))) := hF6
          have HR6 : Hid (RdZ 5 tcE w6' (.slice (some ⟨b8, o8, none⟩) nt c8) T ∧ RdZ 5 tcE w6' (.slice a6 n1 c6) L1) := ⟨HR5.out.1.keepG hk6 (fun q hq => by simp [hq]), HR5.out.2.keepG hk6 (fun q hq => by simp [hq])⟩
          clear hF6 hF5 ht5 HL5 hk6 HR5
          go_wp2
          go_roundg (nt - (i + 1))
          case measure => omega
          case rel => exact ⟨i + 1, by rw [show ((i : Int) + 1) = ((i + 1 : Nat) : Int) by omega], by omega, by omega, by rw [addAll_next HX.out]; exact HF6.out, HR6.out⟩
        · obtain rfl : nt = i := by omega
          have hF := HF.out
          have hR := HR.out
          rw [List.take_of_length_le (by have := HNT.out; omega)] at hF
          have htk : (addAll L1 T).take n1 = L1 := by rw [← HN1.out, ← HL1.out, ← HT.out]; exact undone la lb
          have hfew : (addAll L1 T).length ≤ n1 + nb := by
            have h1 := few la lb
            rw [HL1.out, HT.out, HN1.out, HLB.out.1] at h1
            exact h1
          have hge : n1 ≤ (addAll L1 T).length := by
            have h1 := (addAll_pre T L1).length_le
            rw [HN1.out] at h1
            exact h1
          have hmk := hF.mark
          have hud := hF.undo n1 hge
          rw [htk] at hud
          obtain ⟨mm, hmm⟩ : ∃ mm, (addAll L1 T).length = mm := ⟨_, rfl⟩
          rw [hmm] at hmk hfew hge
          clear HF HR hkx hint hlt htk hmm hF
          unfold ptr at hmk hud
          go_wp2_with fail
          refine hmk.mono ?_
          rintro e w9 ⟨rfl, rfl⟩
          go_wp2_with fail
          refine hud.mono ?_
          rintro e w10 ⟨rfl, hF10, hk10⟩
          have hq10 : RdZ 5 tcE w10 (.slice a6 n1 c6) L1 := hR.2.keepG hk10 (fun q hq => by simp [hq])
          clear hk10 hR hud hmk
          have hal := hF10.all (by have := HN1.out; omega)
          rw [HN1.out] at hal
          unfold ptr at hal
          go_wp2_with fail
          refine hal.mono ?_
          rintro e w11 ⟨u11, rfl, ho11, hb11⟩
          have ho11' : w11.ownsRow w10.heap.size 24 5 u11 L1.length (L1.flatMap tcE) := by rw [HN1.out]; exact ho11
          have hr11 : RdZ 5 tcE w11 u11 L1 := rdZ_own tc_len ho11'
          have hq11 := hq10.below hb11
          have HBB : Hid (Below w.heap.size w w11) := (hF10.below hb11).bel
          obtain ⟨a11, c11, rfl⟩ := row_slice ho11
          clear ho11 ho11' hb11 hF10 hal hq10
          have hm1 : ¬ ((mm : Int) > (n1 : Int) + (nb : Int)) := by omega
          have hm2 : (mm : Int) ≤ (n1 : Int) + (nb : Int) := by omega
          have hm3 : (n1 : Int) + (nb : Int) ≤ 9223372036854775807 := by omega
          have HR11 : Hid (RdZ 5 tcE w11 (.slice a6 n1 c6) L1 ∧ RdZ 5 tcE w11 (.slice a11 n1 c11) L1) := ⟨hq11, hr11⟩
          clear hq11 hr11
          go_wp2
          go_loopg [87] n1 (fun kx s87 wr => ∃ i : Nat, s87 = .int .i64 i ∧ i ≤ n1 ∧ n1 - i ≤ kx ∧ Hid (Below w11.heap.size w11 wr))
          case atStart => exact ⟨0, rfl, Nat.zero_le _, by omega, Below.refl _ _⟩
          case round =>
            obtain ⟨i, rfl, hin, hkx, HW⟩ := hrel
            by_cases hlt : i < n1
            · obtain ⟨x, hx⟩ : ∃ x, L1[i]? = some x := ⟨_, List.getElem?_eq_getElem (by have := HN1.out; omega)⟩
              obtain ⟨b6, o6, rfl, d0, d1, d2, d3, d4⟩ := tc_cells (HR11.out.1.below HW.out) hx
              obtain ⟨b11, o11, rfl, f0, f1, f2, f3, f4⟩ := tc_cells (HR11.out.2.below HW.out) hx
              have heq := fun W => neq_tcs W x.kind x.ino x.lo x.hi x.kind x.ino x.lo x.hi x.name x.name
              rw [tcEq_self] at heq
              have hiI : (i : Int) < (n1 : Int) := by omega
              have hib : (i : Int) + 1 ≤ 9223372036854775807 := by omega
              clear hx
              go_wp2
              go_quiet (fail)
              go_wp2
              go_roundg (n1 - (i + 1))
              case measure => omega
              case rel => exact ⟨i + 1, by rw [show ((i : Int) + 1) = ((i + 1 : Nat) : Int) by omega], by omega, by omega, thenB HW.out (belowQ _ _ _)⟩
            · obtain rfl : n1 = i := by omega
              go_wp2
              go_ret
              exact ⟨rfl, HBB.out.trans (HW.out.mono HBB.out.size)⟩

/-! ### The row -/
set_option maxRecDepth 100000 in
theorem lifted (os : Os) (started : os.Started) (H : Type) (enc : TypeId × Value → H) :
    ReturnsInHanded {} Try.checked os 8 .any (Rows.readsUndoneSpec.pre6 enc Try.prog Try.f8 Rows.readsUndoneRow.domain false) (Rows.readsUndoneSpec.post enc Try.prog Try.f8 false true false false) := by
  refine returnsInHanded_of_change_sized (C := Try.checked) own started (by kernel_rfl) Try.func8
    (ChangeSpec.witness6 (enc := enc) (C := Try.checked) false ⟨#[], #[.slice none 0 0, .slice none 0 0], []⟩ 8 (by kernel_rfl) (by kernel_rfl) (by kernel_rfl) (by kernel_rfl)) ?_
  intro W base args ds gs before hval0 hW hcnd hsz0 _
  have hsz : (DataW.weightsEach Try.prog (Try.f8.params.toList ++ Rows.readsUndoneSpec.plain.varTypes Try.prog) (ds ++ gs)).all (· ≤ reachBytes) = true := hsz0
  clear hsz0
  have hval : ∀ (j : Nat) t v, Try.f8.params[j]? = some t → args[j]? = some v → Value.okWide Try.prog W .any base t v := hval0
  have hW' := hW
  obtain ⟨p, q, hA0, hV, rfl, hfz, hnd⟩ := hW
  have hA : DataW.TrodAll enc Try.prog W 0 (fun _ => true) true Try.f8.params.toList args.toList ds p := hA0
  rw [Try.params8] at hA hval hsz
  obtain ⟨v0, vs0, d0, ds0, p0, q0, hargs, rfl, rfl, h0, r0⟩ := trodAll_cons hA
  obtain ⟨v1, vs1, d1, ds1, p1, q1, rfl, rfl, rfl, h1, r1⟩ := trodAll_cons r0
  obtain ⟨rfl, rfl, rfl⟩ := trodAll_nil r1
  obtain rfl : args = #[v0, v1] := by cases args; simp_all
  obtain ⟨rfl, rfl⟩ := trodVars_none hV
  obtain ⟨a0, len0, cap0, rfl⟩ := okWide_slice Try.underlying32 (hval 0 32 v0 rfl rfl)
  have k0 := h0
  have lt0 : ∀ x ∈ p0, x.block < W.heap.size := by obtain ⟨m, hm⟩ := k0; exact DataW.trod_lt m _ _ _ hm
  obtain ⟨o0, w0, ws0⟩ : ∃ os, RdT W (.slice a0 len0 cap0) os ∧ len0 ≤ 17592186043904 := by
    obtain ⟨fuel, hf⟩ := h0
    obtain ⟨os, hos⟩ := tcs_of hf
    exact ⟨os, hos, tcs_sized hf hsz (j := 0) rfl rfl⟩
  obtain ⟨a1, len1, cap1, rfl⟩ := okWide_slice Try.underlying32 (hval 1 32 v1 rfl rfl)
  have k1 := h1
  have lt1 : ∀ x ∈ p1, x.block < W.heap.size := by obtain ⟨m, hm⟩ := k1; exact DataW.trod_lt m _ _ _ hm
  obtain ⟨o1, w1, ws1⟩ : ∃ os, RdT W (.slice a1 len1 cap1) os ∧ len1 ≤ 17592186043904 := by
    obtain ⟨fuel, hf⟩ := h1
    obtain ⟨os, hos⟩ := tcs_of hf
    exact ⟨os, hos, tcs_sized hf hsz (j := 1) rfl rfl⟩
  clear hA0 hval0
  refine (walk a0 len0 cap0 o0 a1 len1 cap1 o1 W w0 ws0 w1 ws1).mono fun e W' ⟨he, bel⟩ => ?_
  subst he
  exact ⟨_, rfl, _, _, _, [], _, [], hW', trodAll_mk1 (shut_bool Try.underlying4 _), (trodAll_cons_mk (Below.trod laidOut (by kernel_rfl) (of_decide_eq_true (by kernel_rfl)) k0 bel lt0) (trodAll_cons_mk (Below.trod laidOut (by kernel_rfl) (of_decide_eq_true (by kernel_rfl)) k1 bel lt1) trodAll_mk0)), rfl, bel.frame _, fun h => by cases h⟩

theorem over : Rows.readsUndoneRow.holds Try.pinned (OpenSpec.ofChange Rows.readsUndoneSpec) :=
  OpenClaim.holds_of_wide 8 Try.f8 rfl rfl rfl rfl rfl rfl rfl ⟨rfl, rfl, rfl, rfl, rfl⟩ rfl rfl rfl rfl rfl (by kernel_rfl) Try.func8 (by kernel_rfl)
    (of_decide_eq_true (by kernel_rfl)) (by unfold Func.isWrapper; first | (rw [if_pos (by decide +kernel)]; kernel_rfl) | (rw [if_neg (by decide +kernel)]; exact ⟨rfl, rfl⟩))
    (fun os started H enc _ => lifted os started H enc)

end Go.Proofs.Ytmncjecbgakmfaa.readsUndone

namespace Go.Proofs.Ytmncjecbgakmfaa
/-- The statement. -/
theorem readsUndone_proved : Rows.ReadsUndoneSaid := readsUndone.over
#print axioms readsUndone_proved
end Go.Proofs.Ytmncjecbgakmfaa
