/- Proved: whatever is added to a history, asked of it and forgotten (up to 60 calls of up to 100 touches), it tells just what the document says; what was handed to it may be written over behind the call; the chapter's examples hold; no condition. -/
import Derived.Test.YtmncjecbgakmfaaRtHist2
import Derived.Test.YtmncjecbgakmfaaRtArg
import Derived.Deep.RegionHeld3
import Derived.BigQuiet
import Derived.Deep.QuietTactic
import Derived.WalkSmall
import Derived.ProofKit
import Derived.OpenShut
import Derived.ShutString
import Derived.ChangeOld
import Derived.Below
import Derived.Carry
import Derived.Deep.CutRange
import Derived.Deep.CutBlock
import Derived.Deep.LoopGhost
namespace Go.Proofs.Ytmncjecbgakmfaa.readsHistory
open Go.ChangeShapes Go.WideShapes Go.ChangeAt Go.RowKit Go.Maps
open Go.ChangeMaps (open_string shut_string)
set_option linter.unusedVariables false
set_option linter.unusedSimpArgs false

theorem own : ownKnob Try.prog.godebug = none := by kernel_rfl
theorem laidOut : laidOutB Try.prog = true := by kernel_rfl

set_option maxRecDepth 100000 in
set_option maxHeartbeats 32000000 in
theorem walk (ao : Option Addr) (no co : Nat) (lo : List Act1) (w : World) (ho : RdA w (.slice ao no co) lo) :
    Calls Try.prog 5 #[.slice ao no co] w fun e w' => e = .returned (.bool true) ∧ Below w.heap.size w w' := by
  obtain ⟨hlo, hnco, hcmo⟩ := ho.1.len
  have HO : Hid (RdA w (.slice ao no co) lo) := ho
  have HLO : Hid (lo.length = no) := hlo
  obtain ⟨iE, hiE, hz0, hz1, hz2⟩ := info_parts info_tc
  obtain ⟨iW, hiW, hy0, hy1, hy2⟩ := info_parts info_wa
  clear ho hlo hnco hcmo
  go_enter Try.func5, Try.ntmps5
  go_wp2_with fail
  refine (live_any _).mono ?_
  rintro e w1 ⟨rfl, hb1⟩
  go_wp2_with fail
  refine (newH_any _).mono ?_
  rintro e w2 ⟨rfl, hs2, hb2⟩
  have hF2 : HistF w.heap.size w w2 w1.heap.size [] [] := HistF.made hb1 hb1.size (Nat.le_refl _) hs2 hb2
  have HB2 : Hid (Below w.heap.size w w2) := thenB hb1 hb2
  obtain ⟨P, hP⟩ : ∃ P, w1.heap.size = P := ⟨_, rfl⟩
  rw [hP] at hF2
  rw [hP]
  clear hP hb1 hb2 hs2
  have HF2 : Hid (HistsAt w w2 P none 0 0 0 []) := ⟨[], [], hF2, OwnL.nil _ _ _ _ _, rfl, (fun x hx => by cases hx), Nat.le_refl _⟩
  clear hF2
  unfold ptr
  by_cases hbig : (no : Int) > 60
  · go_wp2
    go_ret
    exact ⟨rfl, HB2.out⟩
  have hno : no ≤ 60 := by omega
  clear hbig
  go_wp2
  go_loopg [5, 28] no (fun kx s5 s28 wr => ∃ (i : Nat) (ax : Option Addr) (nx cx : Nat), s28 = .int .i64 i ∧ s5 = .slice ax nx cx ∧ i ≤ no ∧ no - i ≤ kx ∧ Hid (HistsAt w wr P ax nx cx i []))
  case atStart => exact ⟨0, none, 0, 0, rfl, rfl, Nat.zero_le _, by omega, HF2.out⟩
  case round =>
    obtain ⟨i, ax, nx, cx, rfl, rfl, hin, hkx, HS⟩ := hrel
    by_cases hlt : i < no
    · obtain ⟨⟨D, N1, vv, al⟩, hx⟩ : ∃ o, lo[i]? = some o := ⟨_, List.getElem?_eq_getElem (by have := HLO.out; omega)⟩
      have hok := HO.out.2 _ (List.mem_of_getElem? hx)
      obtain ⟨av, cv, e⟩ := rdT_shape hok.t
      dsimp only at e
      subst e
      obtain ⟨bo, oo, rfl, hld⟩ := act_load (HO.out.1.below HS.out.bel) hx
      dsimp only at hld
      obtain ⟨nv, hnv⟩ : ∃ nv, al.length = nv := ⟨_, rfl⟩
      have hrt : RdT w (.slice av nv cv) al := by have := hok.t; dsimp only at this; rw [hnv] at this; exact this
      have hv01 := hok.a1
      dsimp only at hv01
      rw [hnv] at hld
      have HLD : Hid _ := hld
      have HRT : Hid (RdT w (.slice av nv cv) al ∧ al.length = nv ∧ (0 ≤ N1 ∧ N1 ≤ 18446744073709551615)) := ⟨hrt, hnv, hv01⟩
      have hiI : (i : Int) < (no : Int) := by omega
      have hib : (i : Int) + 1 ≤ 1000 := by omega
      have hbl := bel1 wr (.cells #[.int .i64 D, .int .u64 N1, .slice av nv cv] 45)
      obtain ⟨w5, hw5⟩ : ∃ w5, wr.alloc (.cells #[.int .i64 D, .int .u64 N1, .slice av nv cv] 45) = w5 := ⟨_, rfl⟩
      have hac : AcAt w5 wr.heap.size D N1 av nv cv := by rw [← hw5]; exact ⟨heap_alloc_new wr _⟩
      have c2 := hac.c2
      rw [hw5] at hbl
      have HS5 : Hid (HistsAt w w5 P ax nx cx i ([wr.heap.size] ++ [])) := HS.out.more hbl [wr.heap.size] (fun q hq => by rw [List.mem_singleton] at hq; subst hq; exact ⟨Nat.le_refl _, hac.lt⟩)
      have HAC : Hid (AcAt w5 wr.heap.size D N1 av nv cv) := hac
      have HI : Hid (i ≤ no ∧ no - i ≤ gk ∧ i < no ∧ no ≤ 60) := ⟨hin, hkx, hlt, hno⟩
      clear hx hok hld hrt hnv hbl hac HS hv01 hin hkx hlt hno
      by_cases hbg : nv > 100
      · have hnvI : (nv : Int) > 100 := by omega
        go_wp2_with (first | (refine wpList_loadG rfl 45 _ rfl _ rfl _ HLD.out ?_))
        go_roundg (no - (i + 1))
        case measure => (have := HI.out; omega)
        case rel => exact ⟨i + 1, ax, nx, cx, by rw [show ((i : Int) + 1) = ((i + 1 : Nat) : Int) by omega], rfl, by have := HI.out; omega, by have := HI.out; omega, HS5.out.sub (fun g hg => by cases hg) (by omega)⟩
      have hnv1 : nv ≤ 100 := by omega
      have hnvI : ¬ (nv : Int) > 100 := by omega
      have hrt5 := HRT.out.1.1.below HS5.out.bel
      have hon : OwnL w5.heap.size 24 5 tcE w5 (.slice none 0 0) [] := OwnL.nil _ _ _ _ _
      obtain ⟨V, X, hF5, hO5, hXV, hWI, hVi⟩ := HS5.out
      have HXV : Hid (X.map Wa.plain = V ∧ WasIn w X ∧ V.length ≤ i ∧ OwnL w.heap.size 49 2 waE w5 (.slice ax nx cx) X ∧ HistF w.heap.size w w5 P V ([wr.heap.size] ++ [] ++ (Value.slice ax nx cx).ownBlock.toList)) := ⟨hXV, hWI, hVi, hO5, hF5⟩
      clear hbg hF5 hO5 hXV hWI hVi HS5
      by_cases h0 : D = 0
      · subst h0
        cases hgd : goodV V N1 al with
        | true =>
          go_wp2_with (first
            | (refine wpList_loadG rfl 45 _ rfl _ rfl _ HLD.out ?_)
            | (refine wpList_append_E tc_len tc_one Try.underlying32 hiE hz0 hz1 hz2 rfl (by decide) (by decide) rfl _ _ rfl w5.heap.size _ _ rfl hon _ al rfl hrt5 (by have := HRT.out; simp only [List.length_nil]; omega) (Nat.le_refl _) ?_
               rintro v8 w8 ho8x hg8
               have ho8 : w8.ownsRow w5.heap.size 24 5 v8 nv (al.flatMap tcE) := by
                 have h0 := ho8x
                 rw [List.nil_append] at h0
                 unfold OwnL at h0
                 rw [HRT.out.2.1] at h0
                 exact h0
               have hb8 : Below w5.heap.size w5 w8 := grown_below (Below.refl _ _) hg8 (fun g hg => by cases hg) (Nat.le_refl _)
               clear ho8x hg8
               obtain ⟨a8, c8, rfl⟩ := row_slice ho8
               have ha8 := HAC.out.below hb8
               have d0 := ha8.c0
               have d1 := ha8.c1
               have d2 := ha8.c2))
          have HA8 : Hid (AcAt w8 wr.heap.size 0 N1 av nv cv) := ha8
          have hF8 := HXV.out.2.2.2.2.more hb8 (Value.slice a8 nv c8).ownBlock.toList (fun q hq => by
            rw [Option.mem_toList] at hq
            refine ⟨?_, own_blk ho8 hq⟩
            obtain ⟨_, ⟨e, _⟩ | ⟨g, cap, cur, e, k3, _⟩⟩ := ho8
            · rw [e] at hq; cases hq
            · rw [e] at hq; cases hq; exact k3)
          have hF8' : HistF w.heap.size w w8 P V (((Value.slice a8 nv c8).ownBlock.toList ++ [wr.heap.size]) ++ (Value.slice ax nx cx).ownBlock.toList) := hF8.sub (fun g hg => by simpa [List.mem_append, or_assoc] using hg)
          have hO8 := OwnL.below HXV.out.2.2.2.1 hb8
          have hR8 : RdT w8 (.slice a8 nv c8) al := ⟨by
            have h0 : w8.ownsRow w5.heap.size 24 5 (.slice a8 nv c8) al.length (al.flatMap tcE) := by rw [HRT.out.2.1]; exact ho8
            exact rdZ_own tc_len h0, HRT.out.1.2⟩
          have hW8 : OwnW w w8 a8 nv := OwnW.of_own ho8 (by have := hF8'.up; have := HXV.out.2.2.2.2.up; omega)
          have hup8 := hF8'.up
          clear hF8 hb8 ho8 hon hrt5
          have hadd := hadd_any hF8' (by have := HXV.out; have := HI.out; omega) N1 HRT.out.2.2.1 HRT.out.2.2.2 a8 nv c8 al hR8 hnv1
          unfold ptr at hadd
          rw [addX, if_pos hgd] at hadd
          refine hadd.mono ?_
          rintro e w9 ⟨rfl, hH9⟩
          have hk9 := hH9.2
          have ha9 := HA8.out.keepG hk9 (by simp)
          have e1 := ha9.c1
          have e2 := ha9.c2
          have hO9 : OwnL w.heap.size 49 2 waE w9 (.slice ax nx cx) X := own_keep hO8 hk9.size (fun q hq _ => hk9.block q (List.mem_append.2 (.inr (by rw [Option.mem_toList]; exact hq))))
          have hX9 : RdZ 2 waE w9 (.slice ax nx cx) X := rdZ_own wa_len (by have h0 := hO9; unfold OwnL at h0; exact h0)
          have hrg := rgood_any ax nx cx X hX9 (by have h0 := own_len hO9; have h1 := HXV.out; rw [← h1.1, List.length_map] at h1; have := HI.out; omega) N1 av nv cv al (HRT.out.1.1.below hH9.1.bel) hnv1
          rw [HXV.out.1, hgd] at hrg
          have hW9 := hW8.keepG hk9 (fun k hk => List.mem_append.2 (.inl (List.mem_append.2 (.inl (by rw [Option.mem_toList]; rw [← hk]; exact own_any _ _ _ _ _)))))
          have hB9 := hH9.1.bel
          have hF9 := hH9.1
          rw [addV, if_pos hgd] at hF9
          have HW9 : Hid (OwnW w w9 a8 nv) := hW9
          have HO9 : Hid (OwnL w.heap.size 49 2 waE w9 (.slice ax nx cx) X) := hO9
          have HF9 : Hid (HistF w.heap.size w w9 P (V ++ [(N1, al)]) (((Value.slice a8 nv c8).ownBlock.toList ++ [wr.heap.size]) ++ (Value.slice ax nx cx).ownBlock.toList)) := hF9
          have HA9 : Hid (AcAt w9 wr.heap.size 0 N1 av nv cv) := ha9
          clear hadd hH9 hk9 ha9 hO9 hX9 hW9 hB9 hF9 hF8' hO8 hR8 hW8 d0 d1 d2
          go_wp2_with fail
          refine hrg.mono ?_
          rintro e w10 ⟨rfl, hb10⟩
          have ha10 := HA9.out.below hb10
          have g1 := ha10.c1
          have g2 := ha10.c2
          have hbl := bel1 w10 (.cells #[.int .u64 N1, .slice av nv cv] 49)
          obtain ⟨w11, hw11⟩ : ∃ w11, w10.alloc (.cells #[.int .u64 N1, .slice av nv cv] 49) = w11 := ⟨_, rfl⟩
          have hrow11 : w11.heap[w10.heap.size]? = some (.cells #[.int .u64 N1, .slice av nv cv] 49 (0, 0)) := by rw [← hw11]; exact heap_alloc_new w10 _
          have hr11 : RdZ 2 waE w11 (.slice (some ⟨w10.heap.size, 0, none⟩) 1 1) [⟨N1, av, nv, cv, al⟩] := wa_rd hrow11
          rw [hw11] at hbl
          have hO11 : OwnL w.heap.size 49 2 waE w11 (.slice ax nx cx) X := OwnL.below (OwnL.below HO9.out hb10) hbl
          have HF11 : Hid (HistF w.heap.size w w11 P (V ++ [(N1, al)]) (((Value.slice a8 nv c8).ownBlock.toList ++ [wr.heap.size]) ++ (Value.slice ax nx cx).ownBlock.toList)) := (HF9.out.below hb10).below hbl
          have HW11 : Hid (OwnW w w11 a8 nv) := (HW9.out.below hb10).below hbl
          have HS11 : Hid (w.heap.size ≤ w11.heap.size) := HF11.out.up
          have HLX : Hid (X.length ≤ 1000) := by unfold Hid; have h1 := HXV.out; rw [← h1.1, List.length_map] at h1; have := HI.out; omega
          clear hb10 hrg e1 e2 ha10 hbl hrow11
          go_wp2_with (first
            | (refine wpList_append_E wa_len wa_one Try.underlying42 hiW hy0 hy1 hy2 rfl (by decide) (by decide) rfl _ _ rfl w.heap.size _ _ rfl hO11 _ [⟨N1, av, nv, cv, al⟩] rfl hr11 (by have := HLX.out; simp only [List.length_singleton]; omega) HS11.out ?_
               rintro v12 w12 ho12 hg12
               have hq12 : RdZ 2 waE w12 v12 (X ++ [⟨N1, av, nv, cv, al⟩]) := rdZ_own wa_len (by have h0 := ho12; unfold OwnL at h0; exact h0)
               obtain ⟨a12, n12, c12, e12⟩ : ∃ a n c, v12 = .slice a n c := by
                 obtain ⟨⟨a, c, e, _⟩, _⟩ := hq12
                 exact ⟨_, _, _, e⟩
               subst e12
               have HHT : Hid (HistsAt w w12 P a12 n12 c12 (i + 1) (Value.slice a8 nv c8).ownBlock.toList) := (hists_grown HF11.out (fun k hk => by
                 obtain ⟨_, ⟨e, _⟩ | ⟨g', cap, cur, e, h3, _⟩⟩ := hO11
                 · rw [e] at hk; cases hk
                 · rw [e] at hk; cases hk; exact h3) HXV.out.1 HXV.out.2.1 HXV.out.2.2.1 rfl (fun x hx => by rw [List.mem_singleton] at hx; subst hx; exact ⟨HRT.out.1.1, hnv1⟩) hg12 ho12).sub (fun g hg => List.mem_append.2 (.inl hg)) (Nat.le_refl _)
               have HOW : Hid (OwnW w w12 a8 nv) := by
                 refine ⟨HW11.out.1, fun hn => ?_⟩
                 obtain ⟨g, cs, e, hg, hcs⟩ := HW11.out.2 hn
                 refine ⟨g, cs, e, (hg12.block g (Array.getElem?_eq_some_iff.1 hg).1 (fun e' => ?_)).trans hg, hcs⟩
                 obtain ⟨cs', h'⟩ := own_row hO11 e'.symm
                 exact ne_of_type h' hg (by decide) rfl
               clear hq12 ho12 hg12 hO11 hr11))
          go_loopg [101] nv (fun kx s101 wq => ∃ j : Nat, s101 = .int .i64 j ∧ j ≤ nv ∧ nv - j ≤ kx ∧ Hid (HistsAt w wq P a12 n12 c12 (i + 1) (Value.slice a8 nv c8).ownBlock.toList) ∧ Hid (OwnW w wq a8 nv))
          case atStart => exact ⟨0, rfl, Nat.zero_le _, by omega, HHT.out, HOW.out⟩
          case round =>
            obtain ⟨j, rfl, hjn, hjk, HH2, HO2⟩ := hrel
            by_cases hjlt : j < nv
            · obtain ⟨g, rfl⟩ := HO2.out.shape (by omega)
              obtain ⟨⟨vz, f1⟩, fz⟩ := HO2.out.cell hjlt
              have hjI : (j : Int) < (nv : Int) := by omega
              have hjb : (j : Int) + 1 ≤ 1000 := by omega
              have HWR : Hid (HistsAt w (wr.setCell ⟨g, j * 5 + 1, none⟩ (.int .u32 0)) P a12 n12 c12 (i + 1) (Value.slice (some ⟨g, 0, none⟩) nv c8).ownBlock.toList ∧ OwnW w (wr.setCell ⟨g, j * 5 + 1, none⟩ (.int .u32 0)) (some ⟨g, 0, none⟩) nv) := HH2.out.write nv HO2.out (by omega) (j * 5 + 1) (.int .u32 0)
              have HJ : Hid (j ≤ nv ∧ nv - j ≤ gk ∧ j < nv) := ⟨hjn, hjk, hjlt⟩
              clear HH2 HO2 hjn hjk hjlt
              go_wp2
              go_roundg (nv - (j + 1))
              case measure => (have := HJ.out; omega)
              case rel => exact ⟨j + 1, by rw [show ((j : Int) + 1) = ((j + 1 : Nat) : Int) by omega], by have := HJ.out; omega, by have := HJ.out; omega, HWR.out.1, HWR.out.2⟩
            · obtain rfl : nv = j := by omega
              have hln := HH2.out.len
              unfold ptr at hln
              have HFIN : Hid (HistsAt w wr P a12 n12 c12 (i + 1) []) := HH2.out.sub (fun g hg => by cases hg) (Nat.le_refl _)
              clear HH2 HO2 hjn hjk hjlt
              go_wp2_with fail
              refine hln.mono ?_
              rintro e wz ⟨rfl, rfl⟩
              clear hln
              go_wp2
              go_roundg (no - (i + 1))
              case measure => (have := HI.out; omega)
              case rel => exact ⟨i + 1, a12, n12, c12, by rw [show ((i : Int) + 1) = ((i + 1 : Nat) : Int) by omega], rfl, by have := HI.out; omega, by have := HI.out; omega, HFIN.out⟩
        | false =>
          go_wp2_with (first
            | (refine wpList_loadG rfl 45 _ rfl _ rfl _ HLD.out ?_)
            | (refine wpList_append_E tc_len tc_one Try.underlying32 hiE hz0 hz1 hz2 rfl (by decide) (by decide) rfl _ _ rfl w5.heap.size _ _ rfl hon _ al rfl hrt5 (by have := HRT.out; simp only [List.length_nil]; omega) (Nat.le_refl _) ?_
               rintro v8 w8 ho8x hg8
               have ho8 : w8.ownsRow w5.heap.size 24 5 v8 nv (al.flatMap tcE) := by
                 have h0 := ho8x
                 rw [List.nil_append] at h0
                 unfold OwnL at h0
                 rw [HRT.out.2.1] at h0
                 exact h0
               have hb8 : Below w5.heap.size w5 w8 := grown_below (Below.refl _ _) hg8 (fun g hg => by cases hg) (Nat.le_refl _)
               clear ho8x hg8
               obtain ⟨a8, c8, rfl⟩ := row_slice ho8
               have ha8 := HAC.out.below hb8
               have d0 := ha8.c0
               have d1 := ha8.c1
               have d2 := ha8.c2))
          have HA8 : Hid (AcAt w8 wr.heap.size 0 N1 av nv cv) := ha8
          have hF8 := HXV.out.2.2.2.2.more hb8 (Value.slice a8 nv c8).ownBlock.toList (fun q hq => by
            rw [Option.mem_toList] at hq
            refine ⟨?_, own_blk ho8 hq⟩
            obtain ⟨_, ⟨e, _⟩ | ⟨g, cap, cur, e, k3, _⟩⟩ := ho8
            · rw [e] at hq; cases hq
            · rw [e] at hq; cases hq; exact k3)
          have hF8' : HistF w.heap.size w w8 P V (((Value.slice a8 nv c8).ownBlock.toList ++ [wr.heap.size]) ++ (Value.slice ax nx cx).ownBlock.toList) := hF8.sub (fun g hg => by simpa [List.mem_append, or_assoc] using hg)
          have hO8 := OwnL.below HXV.out.2.2.2.1 hb8
          have hR8 : RdT w8 (.slice a8 nv c8) al := ⟨by
            have h0 : w8.ownsRow w5.heap.size 24 5 (.slice a8 nv c8) al.length (al.flatMap tcE) := by rw [HRT.out.2.1]; exact ho8
            exact rdZ_own tc_len h0, HRT.out.1.2⟩
          have hW8 : OwnW w w8 a8 nv := OwnW.of_own ho8 (by have := hF8'.up; have := HXV.out.2.2.2.2.up; omega)
          have hup8 := hF8'.up
          clear hF8 hb8 ho8 hon hrt5
          have hadd := hadd_any hF8' (by have := HXV.out; have := HI.out; omega) N1 HRT.out.2.2.1 HRT.out.2.2.2 a8 nv c8 al hR8 hnv1
          unfold ptr at hadd
          rw [addX, if_neg (by rw [hgd]; simp)] at hadd
          refine hadd.mono ?_
          rintro e w9 ⟨rfl, hH9⟩
          have hk9 := hH9.2
          have ha9 := HA8.out.keepG hk9 (by simp)
          have e1 := ha9.c1
          have e2 := ha9.c2
          have hO9 : OwnL w.heap.size 49 2 waE w9 (.slice ax nx cx) X := own_keep hO8 hk9.size (fun q hq _ => hk9.block q (List.mem_append.2 (.inr (by rw [Option.mem_toList]; exact hq))))
          have hX9 : RdZ 2 waE w9 (.slice ax nx cx) X := rdZ_own wa_len (by have h0 := hO9; unfold OwnL at h0; exact h0)
          have hrg := rgood_any ax nx cx X hX9 (by have h0 := own_len hO9; have h1 := HXV.out; rw [← h1.1, List.length_map] at h1; have := HI.out; omega) N1 av nv cv al (HRT.out.1.1.below hH9.1.bel) hnv1
          rw [HXV.out.1, hgd] at hrg
          have hW9 := hW8.keepG hk9 (fun k hk => List.mem_append.2 (.inl (List.mem_append.2 (.inl (by rw [Option.mem_toList]; rw [← hk]; exact own_any _ _ _ _ _)))))
          have hB9 := hH9.1.bel
          have hF9 := hH9.1
          rw [addV, if_neg (by rw [hgd]; simp)] at hF9
          have HW9 : Hid (OwnW w w9 a8 nv) := hW9
          have HO9 : Hid (OwnL w.heap.size 49 2 waE w9 (.slice ax nx cx) X) := hO9
          have HF9 : Hid (HistF w.heap.size w w9 P (V) (((Value.slice a8 nv c8).ownBlock.toList ++ [wr.heap.size]) ++ (Value.slice ax nx cx).ownBlock.toList)) := hF9
          have HA9 : Hid (AcAt w9 wr.heap.size 0 N1 av nv cv) := ha9
          clear hadd hH9 hk9 ha9 hO9 hX9 hW9 hB9 hF9 hF8' hO8 hR8 hW8 d0 d1 d2
          go_wp2_with fail
          refine hrg.mono ?_
          rintro e w10 ⟨rfl, hb10⟩
          have HHT : Hid (HistsAt w w10 P ax nx cx (i + 1) (Value.slice a8 nv c8).ownBlock.toList) := (HistsAt.below ⟨V, X, HF9.out, HO9.out, HXV.out.1, HXV.out.2.1, HXV.out.2.2.1⟩ hb10).sub (fun g hg => List.mem_append.2 (.inl hg)) (by omega)
          have HOW : Hid (OwnW w w10 a8 nv) := HW9.out.below hb10
          clear hb10 hrg e1 e2
          go_wp2
          go_loopg [101] nv (fun kx s101 wq => ∃ j : Nat, s101 = .int .i64 j ∧ j ≤ nv ∧ nv - j ≤ kx ∧ Hid (HistsAt w wq P ax nx cx (i + 1) (Value.slice a8 nv c8).ownBlock.toList) ∧ Hid (OwnW w wq a8 nv))
          case atStart => exact ⟨0, rfl, Nat.zero_le _, by omega, HHT.out, HOW.out⟩
          case round =>
            obtain ⟨j, rfl, hjn, hjk, HH2, HO2⟩ := hrel
            by_cases hjlt : j < nv
            · obtain ⟨g, rfl⟩ := HO2.out.shape (by omega)
              obtain ⟨⟨vz, f1⟩, fz⟩ := HO2.out.cell hjlt
              have hjI : (j : Int) < (nv : Int) := by omega
              have hjb : (j : Int) + 1 ≤ 1000 := by omega
              have HWR : Hid (HistsAt w (wr.setCell ⟨g, j * 5 + 1, none⟩ (.int .u32 0)) P ax nx cx (i + 1) (Value.slice (some ⟨g, 0, none⟩) nv c8).ownBlock.toList ∧ OwnW w (wr.setCell ⟨g, j * 5 + 1, none⟩ (.int .u32 0)) (some ⟨g, 0, none⟩) nv) := HH2.out.write nv HO2.out (by omega) (j * 5 + 1) (.int .u32 0)
              have HJ : Hid (j ≤ nv ∧ nv - j ≤ gk ∧ j < nv) := ⟨hjn, hjk, hjlt⟩
              clear HH2 HO2 hjn hjk hjlt
              go_wp2
              go_roundg (nv - (j + 1))
              case measure => (have := HJ.out; omega)
              case rel => exact ⟨j + 1, by rw [show ((j : Int) + 1) = ((j + 1 : Nat) : Int) by omega], by have := HJ.out; omega, by have := HJ.out; omega, HWR.out.1, HWR.out.2⟩
            · obtain rfl : nv = j := by omega
              have hln := HH2.out.len
              unfold ptr at hln
              have HFIN : Hid (HistsAt w wr P ax nx cx (i + 1) []) := HH2.out.sub (fun g hg => by cases hg) (Nat.le_refl _)
              clear HH2 HO2 hjn hjk hjlt
              go_wp2_with fail
              refine hln.mono ?_
              rintro e wz ⟨rfl, rfl⟩
              clear hln
              go_wp2
              go_roundg (no - (i + 1))
              case measure => (have := HI.out; omega)
              case rel => exact ⟨i + 1, ax, nx, cx, by rw [show ((i : Int) + 1) = ((i + 1 : Nat) : Int) by omega], rfl, by have := HI.out; omega, by have := HI.out; omega, HFIN.out⟩
      by_cases h1 : D = 1
      · subst h1
        clear h0
        go_wp2_with (first
          | (refine wpList_loadG rfl 45 _ rfl _ rfl _ HLD.out ?_)
          | (refine wpList_append_E tc_len tc_one Try.underlying32 hiE hz0 hz1 hz2 rfl (by decide) (by decide) rfl _ _ rfl w5.heap.size _ _ rfl hon _ al rfl hrt5 (by have := HRT.out; simp only [List.length_nil]; omega) (Nat.le_refl _) ?_
             rintro v8 w8 ho8x hg8
             have ho8 : w8.ownsRow w5.heap.size 24 5 v8 nv (al.flatMap tcE) := by
               have h0 := ho8x
               rw [List.nil_append] at h0
               unfold OwnL at h0
               rw [HRT.out.2.1] at h0
               exact h0
             have hb8 : Below w5.heap.size w5 w8 := grown_below (Below.refl _ _) hg8 (fun g hg => by cases hg) (Nat.le_refl _)
             clear ho8x hg8
             obtain ⟨a8, c8, rfl⟩ := row_slice ho8
             have ha8 := HAC.out.below hb8
             have d0 := ha8.c0
             have d1 := ha8.c1
             have d2 := ha8.c2))
        have HA8 : Hid (AcAt w8 wr.heap.size 1 N1 av nv cv) := ha8
        have hF8 := HXV.out.2.2.2.2.more hb8 (Value.slice a8 nv c8).ownBlock.toList (fun q hq => by
          rw [Option.mem_toList] at hq
          refine ⟨?_, own_blk ho8 hq⟩
          obtain ⟨_, ⟨e, _⟩ | ⟨g, cap, cur, e, k3, _⟩⟩ := ho8
          · rw [e] at hq; cases hq
          · rw [e] at hq; cases hq; exact k3)
        have hF8' : HistF w.heap.size w w8 P V (((Value.slice a8 nv c8).ownBlock.toList ++ [wr.heap.size]) ++ (Value.slice ax nx cx).ownBlock.toList) := hF8.sub (fun g hg => by simpa [List.mem_append, or_assoc] using hg)
        have hO8 := OwnL.below HXV.out.2.2.2.1 hb8
        have hR8 : RdT w8 (.slice a8 nv c8) al := ⟨by
          have h0 : w8.ownsRow w5.heap.size 24 5 (.slice a8 nv c8) al.length (al.flatMap tcE) := by rw [HRT.out.2.1]; exact ho8
          exact rdZ_own tc_len h0, HRT.out.1.2⟩
        have hW8 : OwnW w w8 a8 nv := OwnW.of_own ho8 (by have := hF8'.up; have := HXV.out.2.2.2.2.up; omega)
        have hup8 := hF8'.up
        clear hF8 hb8 ho8 hon hrt5
        have hX8 : RdZ 2 waE w8 (.slice ax nx cx) X := rdZ_own wa_len (by have h0 := hO8; unfold OwnL at h0; exact h0)
        have hlen8 : X.length = nx := own_len hO8
        have hm1 := hF8'.meets (by have := HXV.out; have := HI.out; omega) N1 a8 nv c8 al hR8.1 (by omega)
        have hm2 : ∀ W, Below w8.heap.size w8 W → Calls Try.prog 23 #[.slice ax nx cx, .int .u64 N1, .slice av nv cv] W fun e w' => e = .returned (.bool (meetsV V N1 al)) ∧ Below W.heap.size W w' := fun W hW => by
          have h0 := rmeets_any (w := W) ax nx cx X (hX8.below hW) (HXV.out.2.1.below ((hF8'.below hW).bel)) (by have h1 := HXV.out; rw [← h1.1, List.length_map] at h1; have := HI.out; omega) N1 av nv cv al (HRT.out.1.1.below (hF8'.below hW).bel) hnv1
          rw [HXV.out.1] at h0
          exact h0
        have hm1' : Calls Try.prog 22 #[ptr P, .int .u64 N1, .slice a8 nv c8] w8.drew fun e w' => e = .returned (.bool (meetsV V N1 al)) ∧ Below w8.drew.heap.size w8.drew w' := (hF8'.below (Below.refl _ w8).drew).meets (by have := HXV.out; have := HI.out; omega) N1 a8 nv c8 al (hR8.1.below (Below.refl _ w8).drew) (by omega)
        generalize meetsV V N1 al = MM at *
        unfold ptr at hm1'
        have HHF : Hid (HistsAt w w8 P ax nx cx i ((Value.slice a8 nv c8).ownBlock.toList ++ [wr.heap.size])) := ⟨V, X, hF8', hO8, HXV.out.1, HXV.out.2.1, HXV.out.2.2.1⟩
        have HW8 : Hid (OwnW w w8 a8 nv) := hW8
        clear hm1 hX8 hlen8 hF8' hO8 hR8 hW8
        refine wp_region_noPanic ?_
        refine wp_region_held_drew (S := fun W => AcAt W wr.heap.size 1 N1 av nv cv) (by kernel_rfl) ⟨HA8.out.row⟩ (fun hHeld => ?_)
        refine wpAnyH_take (i := 0) (v := .pointer (some ⟨P, 0, none⟩)) rfl (by kernel_rfl) (by kernel_rfl) (by kernel_rfl) (fun _ _ _ h => h) (Or.inl ⟨by rfl, fun W hSw => by (try dsimp only at hSw); go_simp⟩) (by assumption) ?_
        try simp only [List.getElem_toArray, List.getElem_cons_zero, List.getElem_cons_succ, Act.put, List.setIfInBounds_toArray, List.set_cons_zero, List.set_cons_succ]
        refine wpAnyH_take (i := 1) (v := .pointer (some ⟨wr.heap.size, 1, none⟩)) rfl (by kernel_rfl) (by kernel_rfl) (by kernel_rfl) (fun _ _ _ h => h) (Or.inl ⟨by rfl, fun W hSw => by (try dsimp only at hSw); go_simp⟩) (by assumption) ?_
        try simp only [List.getElem_toArray, List.getElem_cons_zero, List.getElem_cons_succ, Act.put, List.setIfInBounds_toArray, List.set_cons_zero, List.set_cons_succ]
        refine wpAnyH_take (i := 2) (v := .int .u64 N1) rfl (by kernel_rfl) (by kernel_rfl) (by kernel_rfl) (fun _ _ _ h => h) (yields_load (by rfl) _ _ rfl _ rfl _ (fun W h => h.load1)) (by assumption) ?_
        try simp only [List.getElem_toArray, List.getElem_cons_zero, List.getElem_cons_succ, Act.put, List.setIfInBounds_toArray, List.set_cons_zero, List.set_cons_succ]
        refine wpAnyH_take (i := 3) (v := .slice a8 nv c8) rfl (by kernel_rfl) (by kernel_rfl) (by kernel_rfl) (fun _ _ _ h => h) (Or.inl ⟨by rfl, fun W hSw => by (try dsimp only at hSw); go_simp⟩) (by assumption) ?_
        try simp only [List.getElem_toArray, List.getElem_cons_zero, List.getElem_cons_succ, Act.put, List.setIfInBounds_toArray, List.set_cons_zero, List.set_cons_succ]
        refine wpAnyH_take (i := 5) (v := .slice ax nx cx) rfl (by kernel_rfl) (by kernel_rfl) (by kernel_rfl) (fun _ _ _ h => h) (Or.inl ⟨by rfl, fun W hSw => by (try dsimp only at hSw); go_simp⟩) (by assumption) ?_
        try simp only [List.getElem_toArray, List.getElem_cons_zero, List.getElem_cons_succ, Act.put, List.setIfInBounds_toArray, List.set_cons_zero, List.set_cons_succ]
        refine wpAnyH_take (i := 6) (v := .pointer (some ⟨wr.heap.size, 1, none⟩)) rfl (by kernel_rfl) (by kernel_rfl) (by kernel_rfl) (fun _ _ _ h => h) (Or.inl ⟨by rfl, fun W hSw => by (try dsimp only at hSw); go_simp⟩) (by assumption) ?_
        try simp only [List.getElem_toArray, List.getElem_cons_zero, List.getElem_cons_succ, Act.put, List.setIfInBounds_toArray, List.set_cons_zero, List.set_cons_succ]
        refine wpAnyH_take (i := 7) (v := .int .u64 N1) rfl (by kernel_rfl) (by kernel_rfl) (by kernel_rfl) (fun _ _ _ h => h) (yields_load (by rfl) _ _ rfl _ rfl _ (fun W h => h.load1)) (by assumption) ?_
        try simp only [List.getElem_toArray, List.getElem_cons_zero, List.getElem_cons_succ, Act.put, List.setIfInBounds_toArray, List.set_cons_zero, List.set_cons_succ]
        refine wpAnyH_take (i := 8) (v := .pointer (some ⟨wr.heap.size, 2, none⟩)) rfl (by kernel_rfl) (by kernel_rfl) (by kernel_rfl) (fun _ _ _ h => h) (Or.inl ⟨by rfl, fun W hSw => by (try dsimp only at hSw); go_simp⟩) (by assumption) ?_
        try simp only [List.getElem_toArray, List.getElem_cons_zero, List.getElem_cons_succ, Act.put, List.setIfInBounds_toArray, List.set_cons_zero, List.set_cons_succ]
        refine wpAnyH_take (i := 9) (v := .slice av nv cv) rfl (by kernel_rfl) (by kernel_rfl) (by kernel_rfl) (fun _ _ _ h => h) (yields_load (by rfl) _ _ rfl _ rfl _ (fun W h => h.load2)) (by assumption) ?_
        try simp only [List.getElem_toArray, List.getElem_cons_zero, List.getElem_cons_succ, Act.put, List.setIfInBounds_toArray, List.set_cons_zero, List.set_cons_succ]
        refine wpAnyH_ready (rs := [4]) (by kernel_rfl) (by simp) ?_
        refine AllReadyH.cons rfl (fun K hK => ?_) AllReadyH.nil
        go_simp
        go_wp2_with (go_at_call 22; refine hm1'.mono ?_; rintro e w9 ⟨rfl, hb9x⟩)
        have hb9 : Below w8.heap.size w8 w9 := (Below.refl _ w8).drew.trans (hb9x.mono (Nat.le_refl _))
        refine hK.out _ _ (HA8.out.below hb9) (fun hHeld2 => ?_)
        clear hK K
        refine wpAnyH_ready (rs := [10]) (by kernel_rfl) (by simp) ?_
        refine AllReadyH.cons rfl (fun K hK => ?_) AllReadyH.nil
        go_simp
        go_wp2_with (go_at_call 23; refine (hm2 w9 hb9).mono ?_; rintro e w10 ⟨rfl, hb10⟩)
        have hb10' : Below w8.heap.size w8 w10 := thenB hb9 hb10
        refine hK.out _ _ (HA8.out.below hb10') (fun hHeld3 => ?_)
        clear hK K
        refine wpAnyH_take (i := 11) (v := .bool false) rfl (by kernel_rfl) (by kernel_rfl) (by kernel_rfl) (fun _ _ _ h => h) (Or.inl ⟨by rfl, fun W hSw => by (try dsimp only at hSw); go_simp⟩) (by assumption) ?_
        try simp only [List.getElem_toArray, List.getElem_cons_zero, List.getElem_cons_succ, Act.put, List.setIfInBounds_toArray, List.set_cons_zero, List.set_cons_succ]
        refine wpAnyH_done (by kernel_rfl) ?_ _
        refine NoPanic.normal ?_
        have HHT : Hid (HistsAt w w10 P ax nx cx (i + 1) (Value.slice a8 nv c8).ownBlock.toList) := (HHF.out.below hb10').sub (fun g hg => List.mem_append.2 (.inl hg)) (by omega)
        have HOW : Hid (OwnW w w10 a8 nv) := HW8.out.below hb10'
        clear hHeld hHeld2 hHeld3 hb9 hb10 hb10' hm1' hm2 hb9x
        go_wp2
        go_loopg [101] nv (fun kx s101 wq => ∃ j : Nat, s101 = .int .i64 j ∧ j ≤ nv ∧ nv - j ≤ kx ∧ Hid (HistsAt w wq P ax nx cx (i + 1) (Value.slice a8 nv c8).ownBlock.toList) ∧ Hid (OwnW w wq a8 nv))
        case atStart => exact ⟨0, rfl, Nat.zero_le _, by omega, HHT.out, HOW.out⟩
        case round =>
          obtain ⟨j, rfl, hjn, hjk, HH2, HO2⟩ := hrel
          by_cases hjlt : j < nv
          · obtain ⟨g, rfl⟩ := HO2.out.shape (by omega)
            obtain ⟨⟨vz, f1⟩, fz⟩ := HO2.out.cell hjlt
            have hjI : (j : Int) < (nv : Int) := by omega
            have hjb : (j : Int) + 1 ≤ 1000 := by omega
            have HWR : Hid (HistsAt w (wr.setCell ⟨g, j * 5 + 1, none⟩ (.int .u32 0)) P ax nx cx (i + 1) (Value.slice (some ⟨g, 0, none⟩) nv c8).ownBlock.toList ∧ OwnW w (wr.setCell ⟨g, j * 5 + 1, none⟩ (.int .u32 0)) (some ⟨g, 0, none⟩) nv) := HH2.out.write nv HO2.out (by omega) (j * 5 + 1) (.int .u32 0)
            have HJ : Hid (j ≤ nv ∧ nv - j ≤ gk ∧ j < nv) := ⟨hjn, hjk, hjlt⟩
            clear HH2 HO2 hjn hjk hjlt
            go_wp2
            go_roundg (nv - (j + 1))
            case measure => (have := HJ.out; omega)
            case rel => exact ⟨j + 1, by rw [show ((j : Int) + 1) = ((j + 1 : Nat) : Int) by omega], by have := HJ.out; omega, by have := HJ.out; omega, HWR.out.1, HWR.out.2⟩
          · obtain rfl : nv = j := by omega
            have hln := HH2.out.len
            unfold ptr at hln
            have HFIN : Hid (HistsAt w wr P ax nx cx (i + 1) []) := HH2.out.sub (fun g hg => by cases hg) (Nat.le_refl _)
            clear HH2 HO2 hjn hjk hjlt
            go_wp2_with fail
            refine hln.mono ?_
            rintro e wz ⟨rfl, rfl⟩
            clear hln
            go_wp2
            go_roundg (no - (i + 1))
            case measure => (have := HI.out; omega)
            case rel => exact ⟨i + 1, ax, nx, cx, by rw [show ((i : Int) + 1) = ((i + 1 : Nat) : Int) by omega], rfl, by have := HI.out; omega, by have := HI.out; omega, HFIN.out⟩
      by_cases h2 : D = 2
      · subst h2
        clear h0 h1
        go_wp2_with (first
          | (refine wpList_loadG rfl 45 _ rfl _ rfl _ HLD.out ?_)
          | (refine wpList_append_E tc_len tc_one Try.underlying32 hiE hz0 hz1 hz2 rfl (by decide) (by decide) rfl _ _ rfl w5.heap.size _ _ rfl hon _ al rfl hrt5 (by have := HRT.out; simp only [List.length_nil]; omega) (Nat.le_refl _) ?_
             rintro v8 w8 ho8x hg8
             have ho8 : w8.ownsRow w5.heap.size 24 5 v8 nv (al.flatMap tcE) := by
               have h0 := ho8x
               rw [List.nil_append] at h0
               unfold OwnL at h0
               rw [HRT.out.2.1] at h0
               exact h0
             have hb8 : Below w5.heap.size w5 w8 := grown_below (Below.refl _ _) hg8 (fun g hg => by cases hg) (Nat.le_refl _)
             clear ho8x hg8
             obtain ⟨a8, c8, rfl⟩ := row_slice ho8
             have ha8 := HAC.out.below hb8
             have d0 := ha8.c0
             have d1 := ha8.c1
             have d2 := ha8.c2))
        have HA8 : Hid (AcAt w8 wr.heap.size 2 N1 av nv cv) := ha8
        have hF8 := HXV.out.2.2.2.2.more hb8 (Value.slice a8 nv c8).ownBlock.toList (fun q hq => by
          rw [Option.mem_toList] at hq
          refine ⟨?_, own_blk ho8 hq⟩
          obtain ⟨_, ⟨e, _⟩ | ⟨g, cap, cur, e, k3, _⟩⟩ := ho8
          · rw [e] at hq; cases hq
          · rw [e] at hq; cases hq; exact k3)
        have hF8' : HistF w.heap.size w w8 P V (((Value.slice a8 nv c8).ownBlock.toList ++ [wr.heap.size]) ++ (Value.slice ax nx cx).ownBlock.toList) := hF8.sub (fun g hg => by simpa [List.mem_append, or_assoc] using hg)
        have hO8 := OwnL.below HXV.out.2.2.2.1 hb8
        have hR8 : RdT w8 (.slice a8 nv c8) al := ⟨by
          have h0 : w8.ownsRow w5.heap.size 24 5 (.slice a8 nv c8) al.length (al.flatMap tcE) := by rw [HRT.out.2.1]; exact ho8
          exact rdZ_own tc_len h0, HRT.out.1.2⟩
        have hW8 : OwnW w w8 a8 nv := OwnW.of_own ho8 (by have := hF8'.up; have := HXV.out.2.2.2.2.up; omega)
        have hup8 := hF8'.up
        clear hF8 hb8 ho8 hon hrt5
        have hfg := hforget_any hF8' (by have := HXV.out; have := HI.out; omega) N1
        unfold ptr at hfg
        refine hfg.mono ?_
        rintro e w9 ⟨rfl, hH9⟩
        have hk9 := hH9.2
        have ha9 := HA8.out.keepG hk9 (by simp)
        have e1 := ha9.c1
        have hO9 : OwnL w.heap.size 49 2 waE w9 (.slice ax nx cx) X := own_keep hO8 hk9.size (fun q hq _ => hk9.block q (List.mem_append.2 (.inr (by rw [Option.mem_toList]; exact hq))))
        have hX9 : RdZ 2 waE w9 (.slice ax nx cx) X := rdZ_own wa_len (by have h0 := hO9; unfold OwnL at h0; exact h0)
        have hrf := rforget_any ax nx cx X hX9 (by have h0 := own_len hO9; have h1 := HXV.out; rw [← h1.1, List.length_map] at h1; have := HI.out; omega) N1
        have hW9 := hW8.keepG hk9 (fun k hk => List.mem_append.2 (.inl (List.mem_append.2 (.inl (by rw [Option.mem_toList]; rw [← hk]; exact own_any _ _ _ _ _)))))
        have HH9 : Hid (HOut w.heap.size w w8 w9 P (forgetV V N1) (((Value.slice a8 nv c8).ownBlock.toList ++ [wr.heap.size]) ++ (Value.slice ax nx cx).ownBlock.toList)) := hH9
        have HW9 : Hid (OwnW w w9 a8 nv) := hW9
        clear hfg hH9 hk9 ha9 hO9 hX9 hW9 hF8' hO8 hR8 hW8 d0 d1 d2
        go_wp2_with fail
        refine hrf.mono ?_
        rintro e w10 ⟨u10, rfl, ho10, hb10⟩
        have hq10 : RdZ 2 waE w10 u10 (X.filter (fun d => decide (N1 < d.ver))) := rdZ_own wa_len (by have h0 := ho10; unfold OwnL at h0; exact h0)
        obtain ⟨a10, n10, c10, e10⟩ : ∃ a n c, u10 = .slice a n c := by
          obtain ⟨⟨a, c, e, _⟩, _⟩ := hq10
          exact ⟨_, _, _, e⟩
        subst e10
        have HHT : Hid (HistsAt w w10 P a10 n10 c10 (i + 1) (Value.slice a8 nv c8).ownBlock.toList) := (hists_forgot HXV.out.1 HXV.out.2.1 HXV.out.2.2.1 HH9.out hb10 ho10).sub (fun g hg => List.mem_append.2 (.inl hg)) (by omega)
        have HOW : Hid (OwnW w w10 a8 nv) := HW9.out.below hb10
        clear hq10 ho10 hb10 hrf e1
        go_wp2
        go_loopg [101] nv (fun kx s101 wq => ∃ j : Nat, s101 = .int .i64 j ∧ j ≤ nv ∧ nv - j ≤ kx ∧ Hid (HistsAt w wq P a10 n10 c10 (i + 1) (Value.slice a8 nv c8).ownBlock.toList) ∧ Hid (OwnW w wq a8 nv))
        case atStart => exact ⟨0, rfl, Nat.zero_le _, by omega, HHT.out, HOW.out⟩
        case round =>
          obtain ⟨j, rfl, hjn, hjk, HH2, HO2⟩ := hrel
          by_cases hjlt : j < nv
          · obtain ⟨g, rfl⟩ := HO2.out.shape (by omega)
            obtain ⟨⟨vz, f1⟩, fz⟩ := HO2.out.cell hjlt
            have hjI : (j : Int) < (nv : Int) := by omega
            have hjb : (j : Int) + 1 ≤ 1000 := by omega
            have HWR : Hid (HistsAt w (wr.setCell ⟨g, j * 5 + 1, none⟩ (.int .u32 0)) P a10 n10 c10 (i + 1) (Value.slice (some ⟨g, 0, none⟩) nv c8).ownBlock.toList ∧ OwnW w (wr.setCell ⟨g, j * 5 + 1, none⟩ (.int .u32 0)) (some ⟨g, 0, none⟩) nv) := HH2.out.write nv HO2.out (by omega) (j * 5 + 1) (.int .u32 0)
            have HJ : Hid (j ≤ nv ∧ nv - j ≤ gk ∧ j < nv) := ⟨hjn, hjk, hjlt⟩
            clear HH2 HO2 hjn hjk hjlt
            go_wp2
            go_roundg (nv - (j + 1))
            case measure => (have := HJ.out; omega)
            case rel => exact ⟨j + 1, by rw [show ((j : Int) + 1) = ((j + 1 : Nat) : Int) by omega], by have := HJ.out; omega, by have := HJ.out; omega, HWR.out.1, HWR.out.2⟩
          · obtain rfl : nv = j := by omega
            have hln := HH2.out.len
            unfold ptr at hln
            have HFIN : Hid (HistsAt w wr P a10 n10 c10 (i + 1) []) := HH2.out.sub (fun g hg => by cases hg) (Nat.le_refl _)
            clear HH2 HO2 hjn hjk hjlt
            go_wp2_with fail
            refine hln.mono ?_
            rintro e wz ⟨rfl, rfl⟩
            clear hln
            go_wp2
            go_roundg (no - (i + 1))
            case measure => (have := HI.out; omega)
            case rel => exact ⟨i + 1, a10, n10, c10, by rw [show ((i : Int) + 1) = ((i + 1 : Nat) : Int) by omega], rfl, by have := HI.out; omega, by have := HI.out; omega, HFIN.out⟩
      · go_wp2_with (first
          | (refine wpList_loadG rfl 45 _ rfl _ rfl _ HLD.out ?_)
          | (refine wpList_append_E tc_len tc_one Try.underlying32 hiE hz0 hz1 hz2 rfl (by decide) (by decide) rfl _ _ rfl w5.heap.size _ _ rfl hon _ al rfl hrt5 (by have := HRT.out; simp only [List.length_nil]; omega) (Nat.le_refl _) ?_
             rintro v8 w8 ho8x hg8
             have ho8 : w8.ownsRow w5.heap.size 24 5 v8 nv (al.flatMap tcE) := by
               have h0 := ho8x
               rw [List.nil_append] at h0
               unfold OwnL at h0
               rw [HRT.out.2.1] at h0
               exact h0
             have hb8 : Below w5.heap.size w5 w8 := grown_below (Below.refl _ _) hg8 (fun g hg => by cases hg) (Nat.le_refl _)
             clear ho8x hg8
             obtain ⟨a8, c8, rfl⟩ := row_slice ho8
             have ha8 := HAC.out.below hb8
             have d0 := ha8.c0
             have d1 := ha8.c1
             have d2 := ha8.c2))
        have HA8 : Hid (AcAt w8 wr.heap.size D N1 av nv cv) := ha8
        have hF8 := HXV.out.2.2.2.2.more hb8 (Value.slice a8 nv c8).ownBlock.toList (fun q hq => by
          rw [Option.mem_toList] at hq
          refine ⟨?_, own_blk ho8 hq⟩
          obtain ⟨_, ⟨e, _⟩ | ⟨g, cap, cur, e, k3, _⟩⟩ := ho8
          · rw [e] at hq; cases hq
          · rw [e] at hq; cases hq; exact k3)
        have hF8' : HistF w.heap.size w w8 P V (((Value.slice a8 nv c8).ownBlock.toList ++ [wr.heap.size]) ++ (Value.slice ax nx cx).ownBlock.toList) := hF8.sub (fun g hg => by simpa [List.mem_append, or_assoc] using hg)
        have hO8 := OwnL.below HXV.out.2.2.2.1 hb8
        have hR8 : RdT w8 (.slice a8 nv c8) al := ⟨by
          have h0 : w8.ownsRow w5.heap.size 24 5 (.slice a8 nv c8) al.length (al.flatMap tcE) := by rw [HRT.out.2.1]; exact ho8
          exact rdZ_own tc_len h0, HRT.out.1.2⟩
        have hW8 : OwnW w w8 a8 nv := OwnW.of_own ho8 (by have := hF8'.up; have := HXV.out.2.2.2.2.up; omega)
        have hup8 := hF8'.up
        clear hF8 hb8 ho8 hon hrt5
        have HHT : Hid (HistsAt w w8 P ax nx cx (i + 1) (Value.slice a8 nv c8).ownBlock.toList) := HistsAt.sub (i := i) (G := ((Value.slice a8 nv c8).ownBlock.toList ++ [wr.heap.size])) ⟨V, X, hF8', hO8, HXV.out.1, HXV.out.2.1, HXV.out.2.2.1⟩ (fun g hg => List.mem_append.2 (.inl hg)) (by omega)
        have HOW : Hid (OwnW w w8 a8 nv) := hW8
        clear hF8' hO8 hR8 hW8 d0 d1 d2
        go_loopg [101] nv (fun kx s101 wq => ∃ j : Nat, s101 = .int .i64 j ∧ j ≤ nv ∧ nv - j ≤ kx ∧ Hid (HistsAt w wq P ax nx cx (i + 1) (Value.slice a8 nv c8).ownBlock.toList) ∧ Hid (OwnW w wq a8 nv))
        case atStart => exact ⟨0, rfl, Nat.zero_le _, by omega, HHT.out, HOW.out⟩
        case round =>
          obtain ⟨j, rfl, hjn, hjk, HH2, HO2⟩ := hrel
          by_cases hjlt : j < nv
          · obtain ⟨g, rfl⟩ := HO2.out.shape (by omega)
            obtain ⟨⟨vz, f1⟩, fz⟩ := HO2.out.cell hjlt
            have hjI : (j : Int) < (nv : Int) := by omega
            have hjb : (j : Int) + 1 ≤ 1000 := by omega
            have HWR : Hid (HistsAt w (wr.setCell ⟨g, j * 5 + 1, none⟩ (.int .u32 0)) P ax nx cx (i + 1) (Value.slice (some ⟨g, 0, none⟩) nv c8).ownBlock.toList ∧ OwnW w (wr.setCell ⟨g, j * 5 + 1, none⟩ (.int .u32 0)) (some ⟨g, 0, none⟩) nv) := HH2.out.write nv HO2.out (by omega) (j * 5 + 1) (.int .u32 0)
            have HJ : Hid (j ≤ nv ∧ nv - j ≤ gk ∧ j < nv) := ⟨hjn, hjk, hjlt⟩
            clear HH2 HO2 hjn hjk hjlt
            go_wp2
            go_roundg (nv - (j + 1))
            case measure => (have := HJ.out; omega)
            case rel => exact ⟨j + 1, by rw [show ((j : Int) + 1) = ((j + 1 : Nat) : Int) by omega], by have := HJ.out; omega, by have := HJ.out; omega, HWR.out.1, HWR.out.2⟩
          · obtain rfl : nv = j := by omega
            have hln := HH2.out.len
            unfold ptr at hln
            have HFIN : Hid (HistsAt w wr P ax nx cx (i + 1) []) := HH2.out.sub (fun g hg => by cases hg) (Nat.le_refl _)
            clear HH2 HO2 hjn hjk hjlt
            go_wp2_with fail
            refine hln.mono ?_
            rintro e wz ⟨rfl, rfl⟩
            clear hln
            go_wp2
            go_roundg (no - (i + 1))
            case measure => (have := HI.out; omega)
            case rel => exact ⟨i + 1, ax, nx, cx, by rw [show ((i : Int) + 1) = ((i + 1 : Nat) : Int) by omega], rfl, by have := HI.out; omega, by have := HI.out; omega, HFIN.out⟩
    · obtain rfl : no = i := by omega
      have HBB : Hid (Below w.heap.size w wr) := HS.out.bel
      clear HS
      go_wp2
      go_ret
      exact ⟨rfl, HBB.out⟩

/-! ### The row -/
set_option maxRecDepth 100000 in
theorem lifted (os : Os) (started : os.Started) (H : Type) (enc : TypeId × Value → H) :
    ReturnsInHanded {} Try.checked os 5 .any (Rows.readsHistorySpec.pre6 enc Try.prog Try.f5 Rows.readsHistoryRow.domain false) (Rows.readsHistorySpec.post enc Try.prog Try.f5 false true false false) := by
  refine returnsInHanded_of_change (C := Try.checked) own started (by kernel_rfl) Try.func5
    (ChangeSpec.witness6 (enc := enc) (C := Try.checked) false ⟨#[], #[.slice none 0 0], []⟩ 8 (by kernel_rfl) (by kernel_rfl) (by kernel_rfl) (by kernel_rfl)) ?_
  intro W base args ds gs before hval0 hW hcnd _
  have hval : ∀ (j : Nat) t v, Try.f5.params[j]? = some t → args[j]? = some v → Value.okWide Try.prog W .any base t v := hval0
  have hW' := hW
  obtain ⟨p, q, hA0, hV, rfl, hfz, hnd⟩ := hW
  have hA : DataW.TrodAll enc Try.prog W 0 (fun _ => true) true Try.f5.params.toList args.toList ds p := hA0
  rw [Try.params5] at hA hval
  obtain ⟨v0, vs0, d0, ds0, p0, q0, hargs, rfl, rfl, h0, r0⟩ := trodAll_cons hA
  obtain ⟨rfl, rfl, rfl⟩ := trodAll_nil r0
  obtain rfl : args = #[v0] := by cases args; simp_all
  obtain ⟨rfl, rfl⟩ := trodVars_none hV
  obtain ⟨a0, len0, cap0, rfl⟩ := okWide_slice Try.underlying39 (hval 0 39 v0 rfl rfl)
  have k0 := h0
  have lt0 : ∀ x ∈ p0, x.block < W.heap.size := by obtain ⟨m, hm⟩ := k0; exact DataW.trod_lt m _ _ _ hm
  obtain ⟨o0, w0⟩ : ∃ os, RdA W (.slice a0 len0 cap0) os := by
    obtain ⟨fuel, hf⟩ := h0
    exact acts_of hf
  clear hA0 hval0
  refine (walk a0 len0 cap0 o0 W w0).mono fun e W' ⟨he, bel⟩ => ?_
  subst he
  exact ⟨_, rfl, _, _, _, [], _, [], hW', trodAll_mk1 (shut_bool Try.underlying4 _), (trodAll_cons_mk (Below.trod laidOut (by kernel_rfl) (of_decide_eq_true (by kernel_rfl)) k0 bel lt0) trodAll_mk0), rfl, bel.frame _, fun h => by cases h⟩

theorem over : Rows.readsHistoryRow.holds Try.pinned (OpenSpec.ofChange Rows.readsHistorySpec) :=
  OpenClaim.holds_of_wide 5 Try.f5 rfl rfl rfl rfl rfl rfl rfl ⟨rfl, rfl, rfl, rfl, rfl⟩ rfl rfl rfl rfl rfl (by kernel_rfl) Try.func5 (by kernel_rfl)
    (of_decide_eq_true (by kernel_rfl)) (by unfold Func.isWrapper; first | (rw [if_pos (by decide +kernel)]; kernel_rfl) | (rw [if_neg (by decide +kernel)]; exact ⟨rfl, rfl⟩))
    (fun os started H enc _ => lifted os started H enc)

end Go.Proofs.Ytmncjecbgakmfaa.readsHistory

namespace Go.Proofs.Ytmncjecbgakmfaa
/-- The statement. -/
theorem readsHistory_proved : Rows.ReadsHistorySaid := readsHistory.over
#print axioms readsHistory_proved
end Go.Proofs.Ytmncjecbgakmfaa
