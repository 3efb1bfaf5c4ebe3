/- The contract of slices' breakPatterns at numbers of 32 bits: what it leaves is as it was, some places changed. -/
import Derived.Test.YtakifnlfgaedjaaVPivot
import Derived.Sort.LotD1
namespace Go.Proofs.Ytakifnlfgaedjaa
open Go.RowKit Go.Sort
set_option linter.unusedVariables false
set_option linter.unusedSimpArgs false
set_option maxRecDepth 4000

def XsAt (w : World) (s X : Nat) : Prop := w.heap[s]? = some (.cells #[.int .u64 X] 92 (0, 0))

set_option maxHeartbeats 2000000 in
theorem break_any {w : World} {g : Nat} {d : Array Int} (h : HoldU w g d) (n cap a b : Nat) (hn : n = d.size) (hab : a + 12 < b) (hb : b ≤ n) (hc : n ≤ cap) (hcm : cap ≤ maxLen) (hsz : n ≤ 100000) :
    Calls Try.prog 44 #[.slice (some ⟨g, 0, none⟩) n cap, .int .i64 a, .int .i64 b] w fun e w' => e = .returned (.tuple #[]) ∧ SortOut w g d (fun d' => PermIn a b d d') w' := by
  unfold maxLen at hcm
  obtain ⟨l, hl⟩ : ∃ l, b = a + l := ⟨b - a, by omega⟩
  have hl1 : (b : Int) - (a : Int) = (l : Int) := by omega
  have hwl : IntKind.i64.wrap (l : Int) = (l : Int) := Go.IntWalk.i64_in _ (by omega)
  have hwlu : IntKind.u64.wrap (l : Int) = (l : Int) := Go.IntWalk.u64_in _ (by omega)
  obtain ⟨q, hq⟩ : ∃ q, q = l / 4 := ⟨_, rfl⟩
  have hq1 : (l : Int) / 4 = (q : Int) := by omega
  have hq2 : (l : Int).tdiv 4 = (q : Int) := by rw [Int.tdiv_eq_ediv_of_nonneg (by omega)]; exact hq1
  have hwq : IntKind.i64.wrap (q : Int) = (q : Int) := Go.IntWalk.i64_in _ (by omega)
  have hwq2 : IntKind.i64.wrap ((q : Int) * 2) = (q : Int) * 2 := Go.IntWalk.i64_in _ (by omega)
  obtain ⟨j, hj⟩ : ∃ j, j = a + q * 2 := ⟨_, rfl⟩
  have hj1 : (a : Int) + (q : Int) * 2 = (j : Int) := by omega
  have hwj : IntKind.i64.wrap (j : Int) = (j : Int) := Go.IntWalk.i64_in _ (by omega)
  obtain ⟨i0, hi0⟩ : ∃ i0, j = i0 + 1 := ⟨j - 1, by omega⟩
  have hi1 : (j : Int) - 1 = (i0 : Int) := by omega
  have hwi : IntKind.i64.wrap (i0 : Int) = (i0 : Int) := Go.IntWalk.i64_in _ (by omega)
  have hwj1 : IntKind.i64.wrap ((j : Int) + 1) = (j : Int) + 1 := Go.IntWalk.i64_in _ (by omega)
  have hl8 : (8 : Int) ≤ (l : Int) := by omega
  obtain ⟨M, hM⟩ : ∃ M, M = 1 <<< bitsLen l := ⟨_, rfl⟩
  have hM2 : 1 ≤ M ∧ M ≤ 2 * l := by
    rw [hM, Nat.one_shiftLeft]
    exact ⟨Nat.one_le_two_pow, two_pow_bitsLen_le (by omega)⟩
  have cp := npow_any l (by omega)
  rw [← hM] at cp
  obtain ⟨w1, hw1⟩ : ∃ w1, w.alloc (.cells #[.int .u64 l] 92) = w1 := ⟨_, rfl⟩
  have hB1 : Below w.heap.size w w1 := by rw [← hw1]; exact (Below.refl _ w).alloc (Nat.le_refl _) _
  have k1 : XsAt w1 w.heap.size l := by unfold XsAt; rw [← hw1]; exact heap_alloc_new w _
  have H1 : Hid (HoldU w1 g d) := h.other (Sole.of_below hB1 []) (by simp)
  have hgl : g < w.heap.size := h.lt
  have HX : Hid (b = a + l ∧ q = l / 4 ∧ j = a + q * 2 ∧ j = i0 + 1) := ⟨hl, hq, hj, hi0⟩
  have K1 : Hid (XsAt w1 w.heap.size l) := k1
  have HN : Hid (n = d.size) := hn
  clear h hl hq hj hi0 k1 hn hM
  have hS1 : Sole [g] w w1 := Sole.of_below hB1 [g]
  go_enter Try.func44, Try.ntmps44
  go_wp2_with fail
  refine (cp _).mono ?_
  rintro e1 w2 ⟨rfl, rfl⟩
  clear cp
  go_wp2
  go_loopw [9] (fun t wr => ∃ (i X : Nat), t = .int .i64 i ∧ i0 ≤ i ∧ i ≤ j + 2 ∧ X < 18446744073709551616 ∧ Hid (XsAt wr w.heap.size X) ∧ Hid (∃ dk : Array Int, dk.size = n ∧ HoldU wr g dk ∧ PermIn a b d dk) ∧ Sole [g] w wr ∧ w.heap.size < wr.heap.size) (fun t _ => j + 2 - (intOf t).toNat)
  case atStart => exact ⟨i0, l, rfl, Nat.le_refl _, by have := HX.out; omega, by omega, K1.out, ⟨d, HN.out.symm, H1.out, permIn_refl _ _ _⟩, hS1, by have := (Array.getElem?_eq_some_iff.1 K1.out).1; exact this⟩
  case round =>
    obtain ⟨i, X, rfl, hi2, hi3, hX, HXs, HD, hS, hlt⟩ := hrel
    by_cases hij : i ≤ j + 1
    · have hijI : (i : Int) ≤ (j : Int) + 1 := by omega
      have c0 : wr.cell? ⟨w.heap.size, 0, none⟩ = some (.int .u64 X) := by rw [cell_of_row _ _ 0 _ _ (0, 0) HXs.out]; rfl
      have f0 := frozen_of_row wr w.heap.size 0 _ _ HXs.out
      have cx := xors_any w.heap.size X hX wr c0 f0
      clear c0 f0
      go_wp2_with fail
      refine cx.mono ?_
      rintro e1 w3 ⟨Y, hY, rfl, rfl⟩
      clear cx
      obtain ⟨O, hO⟩ : ∃ O, O = Y &&& (M - 1) := ⟨_, rfl⟩
      have hO2 : O ≤ M - 1 := by rw [hO]; exact Nat.and_le_right
      have eA : bits .and .u64 (Y : Int) ((M : Int) - 1) = (O : Int) := by
        rw [show ((M : Int) - 1) = ((M - 1 : Nat) : Int) by omega, bits_and_u64_nat _ _ hY (by omega), hO]
      have hwM : IntKind.u64.wrap ((M : Int) - 1) = (M : Int) - 1 := Go.IntWalk.u64_in _ (by omega)
      have hwO : IntKind.i64.wrap (O : Int) = (O : Int) := Go.IntWalk.i64_in _ (by omega)
      obtain ⟨dk, h1, h2, h3⟩ := HD.out
      have hS3 : Sole [w.heap.size] wr ((wr.setCell ⟨w.heap.size, 0, none⟩ (.int .u64 Y)).drewN 3) := (Sole.setCell wr _ (by simp)).trans (Sole.drewN _ _ _)
      have H3 : Hid (HoldU ((wr.setCell ⟨w.heap.size, 0, none⟩ (.int .u64 Y)).drewN 3) g dk) := h2.other hS3 (by simp; omega)
      have X3 : Hid (XsAt ((wr.setCell ⟨w.heap.size, 0, none⟩ (.int .u64 Y)).drewN 3) w.heap.size Y) := heap_setCell_same wr w.heap.size 0 _ _ _ HXs.out
      have hS03 : Sole [g] w ((wr.setCell ⟨w.heap.size, 0, none⟩ (.int .u64 Y)).drewN 3) := hS.after hS3 (by simp)
      have hlt3 : w.heap.size < ((wr.setCell ⟨w.heap.size, 0, none⟩ (.int .u64 Y)).drewN 3).heap.size := Nat.lt_of_lt_of_le hlt hS3.size
      have HE : Hid (dk.size = n) := h1
      have HP : Hid (PermIn a b d dk) := h3
      clear HD h1 h2 h3 hO hS3 HXs hS hlt
      generalize (wr.setCell ⟨w.heap.size, 0, none⟩ (.int .u64 Y)).drewN 3 = w4 at *
      have key : ∀ (o P : Nat), o < l → P = a + o → a ≤ P ∧ P < b ∧ P < n ∧ i < n ∧ a ≤ i ∧ i < b := fun o P ho hP => by have := HX.out; omega
      have KEY : Hid _ := key
      have hwOl : IntKind.i64.wrap ((O : Int) - (l : Int)) = (O : Int) - (l : Int) := Go.IntWalk.i64_in _ (by omega)
      clear key
      by_cases hOl : O < l
      · have hOlI : ¬ (l : Int) ≤ (O : Int) := by omega
        obtain ⟨P, hP⟩ : ∃ P, P = a + O := ⟨_, rfl⟩
        have hk := KEY.out O P (by omega) hP
        obtain ⟨hk1, hk2, hk3, hk4, hk5, hk6⟩ := hk
        have hP1 : (a : Int) + (O : Int) = (P : Int) := by omega
        have hiI : (i : Int) < n := by omega
        have ci := H3.out.cell i (by have := HE.out; omega)
        have fi := H3.out.frozen i
        by_cases hPi : P = i
        · have hP2 : (a : Int) + (O : Int) = (i : Int) := by omega
          have hwi2 : IntKind.i64.wrap (i : Int) = (i : Int) := Go.IntWalk.i64_in _ (by omega)
          generalize hGi : dk[i]! = xi at *
          have HGi : Hid (dk[i]! = xi) := hGi
          have HSw : Hid (∀ q, HoldU (((w4.drewN q).setCell ⟨g, i, none⟩ (.int .u32 xi)).setCell ⟨g, i, none⟩ (.int .u32 xi)) g (swp dk i i)) := fun q => by
            have := (H3.out.drewN q).swap i i (by have := HE.out; omega) (by have := HE.out; omega)
            rw [HGi.out] at this
            exact this
          clear hGi hP hP1 hPi
          go_wp2_with fail
          go_region
          all_goals go_wp2
          go_roundw
          case rel =>
            refine ⟨i + 1, Y, by go_num, by omega, by omega, hY, ?_, ⟨swp dk i i, by rw [size_swp]; exact HE.out, HSw.out 1, permIn_trans _ _ _ _ _ HP.out (swp_permIn dk a b i i (by omega) (by omega) (by omega) (by omega) (by have := HE.out; omega))⟩, ((hS03.trans (Sole.drewN _ 1 _)).trans (Sole.setCell _ _ (by simp))).trans (Sole.setCell _ _ (by simp)), by simpa [World.setCell] using hlt3⟩
            have hq : Sole [g] w4 (((w4.drewN 1).setCell ⟨g, i, none⟩ (.int .u32 xi)).setCell ⟨g, i, none⟩ (.int .u32 xi)) := ((Sole.drewN _ 1 _).trans (Sole.setCell _ _ (by simp))).trans (Sole.setCell _ _ (by simp))
            exact (hq.block w.heap.size hlt3 (by simp; omega)).trans X3.out
          case measure => simp [intOf]; omega
        · have hPI : (P : Int) < n := by omega
          have hwP : IntKind.i64.wrap (P : Int) = (P : Int) := Go.IntWalk.i64_in _ (by omega)
          have cP := H3.out.cell P (by have := HE.out; omega)
          have fP := H3.out.frozen P
          have hne : ¬ i = P := fun e => hPi e.symm
          generalize hGi : dk[i]! = xi at *
          generalize hGP : dk[P]! = xP at *
          have HGi : Hid (dk[i]! = xi) := hGi
          have HGP : Hid (dk[P]! = xP) := hGP
          have HSw : Hid (∀ q, HoldU (((w4.drewN q).setCell ⟨g, i, none⟩ (.int .u32 xP)).setCell ⟨g, P, none⟩ (.int .u32 xi)) g (swp dk i P)) := fun q => by
            have := (H3.out.drewN q).swap i P (by have := HE.out; omega) (by have := HE.out; omega)
            rw [HGi.out, HGP.out] at this
            exact this
          clear hGi hGP hP
          go_wp2_with fail
          go_region
          all_goals go_wp2
          go_roundw
          case rel =>
            refine ⟨i + 1, Y, by go_num, by omega, by omega, hY, ?_, ⟨swp dk i P, by rw [size_swp]; exact HE.out, HSw.out 1, permIn_trans _ _ _ _ _ HP.out (swp_permIn dk a b i P (by omega) (by omega) (by omega) (by omega) (by have := HE.out; omega))⟩, ((hS03.trans (Sole.drewN _ 1 _)).trans (Sole.setCell _ _ (by simp))).trans (Sole.setCell _ _ (by simp)), by simpa [World.setCell] using hlt3⟩
            have hq : Sole [g] w4 (((w4.drewN 1).setCell ⟨g, i, none⟩ (.int .u32 xP)).setCell ⟨g, P, none⟩ (.int .u32 xi)) := ((Sole.drewN _ 1 _).trans (Sole.setCell _ _ (by simp))).trans (Sole.setCell _ _ (by simp))
            exact (hq.block w.heap.size hlt3 (by simp; omega)).trans X3.out
          case measure => simp [intOf]; omega
      · have hOlI : (l : Int) ≤ (O : Int) := by omega
        obtain ⟨o, ho⟩ : ∃ o, O = o + l := ⟨O - l, by omega⟩
        have ho1 : (O : Int) - (l : Int) = (o : Int) := by omega
        have hwo : IntKind.i64.wrap (o : Int) = (o : Int) := Go.IntWalk.i64_in _ (by omega)
        have hol : o < l := by omega
        clear ho
        obtain ⟨P, hP⟩ : ∃ P, P = a + o := ⟨_, rfl⟩
        have hk := KEY.out o P (by omega) hP
        obtain ⟨hk1, hk2, hk3, hk4, hk5, hk6⟩ := hk
        have hP1 : (a : Int) + (o : Int) = (P : Int) := by omega
        have hiI : (i : Int) < n := by omega
        have ci := H3.out.cell i (by have := HE.out; omega)
        have fi := H3.out.frozen i
        by_cases hPi : P = i
        · have hP2 : (a : Int) + (o : Int) = (i : Int) := by omega
          have hwi2 : IntKind.i64.wrap (i : Int) = (i : Int) := Go.IntWalk.i64_in _ (by omega)
          generalize hGi : dk[i]! = xi at *
          have HGi : Hid (dk[i]! = xi) := hGi
          have HSw : Hid (∀ q, HoldU (((w4.drewN q).setCell ⟨g, i, none⟩ (.int .u32 xi)).setCell ⟨g, i, none⟩ (.int .u32 xi)) g (swp dk i i)) := fun q => by
            have := (H3.out.drewN q).swap i i (by have := HE.out; omega) (by have := HE.out; omega)
            rw [HGi.out] at this
            exact this
          clear hGi hP hP1 hPi
          go_wp2_with fail
          go_region
          all_goals go_wp2
          go_roundw
          case rel =>
            refine ⟨i + 1, Y, by go_num, by omega, by omega, hY, ?_, ⟨swp dk i i, by rw [size_swp]; exact HE.out, HSw.out 1, permIn_trans _ _ _ _ _ HP.out (swp_permIn dk a b i i (by omega) (by omega) (by omega) (by omega) (by have := HE.out; omega))⟩, ((hS03.trans (Sole.drewN _ 1 _)).trans (Sole.setCell _ _ (by simp))).trans (Sole.setCell _ _ (by simp)), by simpa [World.setCell] using hlt3⟩
            have hq : Sole [g] w4 (((w4.drewN 1).setCell ⟨g, i, none⟩ (.int .u32 xi)).setCell ⟨g, i, none⟩ (.int .u32 xi)) := ((Sole.drewN _ 1 _).trans (Sole.setCell _ _ (by simp))).trans (Sole.setCell _ _ (by simp))
            exact (hq.block w.heap.size hlt3 (by simp; omega)).trans X3.out
          case measure => simp [intOf]; omega
        · have hPI : (P : Int) < n := by omega
          have hwP : IntKind.i64.wrap (P : Int) = (P : Int) := Go.IntWalk.i64_in _ (by omega)
          have cP := H3.out.cell P (by have := HE.out; omega)
          have fP := H3.out.frozen P
          have hne : ¬ i = P := fun e => hPi e.symm
          generalize hGi : dk[i]! = xi at *
          generalize hGP : dk[P]! = xP at *
          have HGi : Hid (dk[i]! = xi) := hGi
          have HGP : Hid (dk[P]! = xP) := hGP
          have HSw : Hid (∀ q, HoldU (((w4.drewN q).setCell ⟨g, i, none⟩ (.int .u32 xP)).setCell ⟨g, P, none⟩ (.int .u32 xi)) g (swp dk i P)) := fun q => by
            have := (H3.out.drewN q).swap i P (by have := HE.out; omega) (by have := HE.out; omega)
            rw [HGi.out, HGP.out] at this
            exact this
          clear hGi hGP hP
          go_wp2_with fail
          go_region
          all_goals go_wp2
          go_roundw
          case rel =>
            refine ⟨i + 1, Y, by go_num, by omega, by omega, hY, ?_, ⟨swp dk i P, by rw [size_swp]; exact HE.out, HSw.out 1, permIn_trans _ _ _ _ _ HP.out (swp_permIn dk a b i P (by omega) (by omega) (by omega) (by omega) (by have := HE.out; omega))⟩, ((hS03.trans (Sole.drewN _ 1 _)).trans (Sole.setCell _ _ (by simp))).trans (Sole.setCell _ _ (by simp)), by simpa [World.setCell] using hlt3⟩
            have hq : Sole [g] w4 (((w4.drewN 1).setCell ⟨g, i, none⟩ (.int .u32 xP)).setCell ⟨g, P, none⟩ (.int .u32 xi)) := ((Sole.drewN _ 1 _).trans (Sole.setCell _ _ (by simp))).trans (Sole.setCell _ _ (by simp))
            exact (hq.block w.heap.size hlt3 (by simp; omega)).trans X3.out
          case measure => simp [intOf]; omega
    · have hijI : ¬ (i : Int) ≤ (j : Int) + 1 := by omega
      go_wp2
      go_end0
      obtain ⟨dk, h1, h2, h3⟩ := HD.out
      exact ⟨rfl, dk, h3, h1.trans HN.out, h2, hS⟩

end Go.Proofs.Ytakifnlfgaedjaa
