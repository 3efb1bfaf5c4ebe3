/- The contract of slices' partialInsertionSort at numbers of 32 bits. -/
import Derived.Test.YtakifnlfgaedjaaVPart
namespace Go.Proofs.Ytakifnlfgaedjaa
open Go.RowKit Go.Sort
set_option linter.unusedVariables false
set_option linter.unusedSimpArgs false
set_option maxRecDepth 4000

def dnF (a i : Nat) (d : Array Int) : Array Int := if i - a ≥ 2 then shiftDown ltInt (i - 1) d else d
def upF (b i : Nat) (d : Array Int) : Array Int := if b - i ≥ 2 then shiftUp ltInt b (i + 1) d else d
theorem pi_step (a b s i0 : Nat) (d : Array Int) : partialIns ltInt a b (s + 1) i0 d = (if scanSorted ltInt d b i0 = b then (d, true) else if b - a < 50 then (d, false) else partialIns ltInt a b s (scanSorted ltInt d b i0) (upF b (scanSorted ltInt d b i0) (dnF a (scanSorted ltInt d b i0) (swp d (scanSorted ltInt d b i0) (scanSorted ltInt d b i0 - 1))))) := rfl
theorem sc_on (d : Array Int) (b i : Nat) (h : i < b) (hl : ltInt d[i]! d[i - 1]! = false) : scanSorted ltInt d b i = scanSorted ltInt d b (i + 1) := by rw [scanSorted, if_pos (by simp [h, hl])]
theorem sc_off (d : Array Int) (b i : Nat) (h : ¬ i < b ∨ ltInt d[i]! d[i - 1]! = true) : scanSorted ltInt d b i = i := by
  rw [scanSorted, if_neg]
  rcases h with h | h
  · simp [h]
  · simp [h]
theorem dn_on (j : Nat) (d : Array Int) (hl : ltInt d[j + 1]! d[j]! = true) : shiftDown ltInt (j + 1) d = shiftDown ltInt j (swp d (j + 1) j) := by rw [shiftDown, if_neg (by simp [hl])]
theorem dn_off (j : Nat) (d : Array Int) (hl : ltInt d[j + 1]! d[j]! = false) : shiftDown ltInt (j + 1) d = d := by rw [shiftDown, if_pos (by simp [hl])]
theorem up_on (b j : Nat) (d : Array Int) (h : j < b) (hl : ltInt d[j]! d[j - 1]! = true) : shiftUp ltInt b j d = shiftUp ltInt b (j + 1) (swp d j (j - 1)) := by rw [shiftUp, if_pos h, if_neg (by simp [hl])]
theorem up_off (b j : Nat) (d : Array Int) (h : ¬ j < b ∨ ltInt d[j]! d[j - 1]! = false) : shiftUp ltInt b j d = d := by
  rw [shiftUp]
  rcases h with h | h
  · rw [if_neg h]
  · split
    · rw [if_pos (by simp [h])]
    · rfl

set_option maxHeartbeats 8000000 in
theorem pins_any {w : World} {g : Nat} {d : Array Int} (h : HoldU w g d) (n cap a b : Nat) (hn : n = d.size) (hab : a + 12 < b) (hb : b ≤ n) (hc : n ≤ cap) (hcm : cap ≤ maxLen) (hsz : n ≤ 100000) :
    Calls Try.prog 47 #[.slice (some ⟨g, 0, none⟩) n cap, .int .i64 a, .int .i64 b] w fun e w' => e = .returned (.bool (partialInsertionSort ltInt d a b).2) ∧ SortOut w g d (fun d' => d' = (partialInsertionSort ltInt d a b).1) w' := by
  have H : Hid (HoldU w g d) := h
  have HN : Hid (n = d.size) := hn
  unfold maxLen at hcm
  obtain ⟨R, hR⟩ : ∃ R, partialInsertionSort ltInt d a b = R := ⟨_, rfl⟩
  rw [hR]
  have HR : Hid (partialIns ltInt a b 5 (a + 1) d = R) := by rw [← hR]; rfl
  obtain ⟨l, hl⟩ : ∃ l, b = a + l := ⟨b - a, by omega⟩
  have hl1 : (b : Int) - (a : Int) = (l : Int) := by omega
  have hwl : IntKind.i64.wrap (l : Int) = (l : Int) := Go.IntWalk.i64_in _ (by omega)
  have HL : Hid (b = a + l) := hl
  clear h hn hR hl
  go_enter Try.func47, Try.ntmps47
  go_wp2
  go_loopw [7, 8] (fun t u wr => ∃ i k : Nat, t = .int .i64 i ∧ u = .int .i64 k ∧ a + 1 ≤ i ∧ i ≤ b ∧ k ≤ 5 ∧ Hid (∃ dk : Array Int, dk.size = n ∧ HoldU wr g dk ∧ partialIns ltInt a b (5 - k) i dk = R) ∧ Sole [g] w wr) (fun _ u _ => 5 - (intOf u).toNat)
  case atStart => exact ⟨a + 1, 0, by go_num, rfl, by omega, by omega, by omega, ⟨d, HN.out.symm, H.out, HR.out⟩, Sole.refl _ _⟩
  case round =>
    obtain ⟨i0, k, rfl, rfl, hi1, hi2, hk, HD, hS0⟩ := hrel
    obtain ⟨w2, hw2⟩ : ∃ w2, w2 = wr := ⟨_, rfl⟩
    subst hw2
    obtain ⟨dk, g1, g2, g3⟩ := HD.out
    have HE : Hid (dk.size = n) := g1
    have HH : Hid (HoldU w2 g dk) := g2
    have HQ : Hid (partialIns ltInt a b (5 - k) i0 dk = R) := g3
    clear HD g1 g2 g3 H HR
    by_cases hk5 : k < 5
    · have hk5I : (k : Int) < 5 := by omega
      obtain ⟨s, hs⟩ : ∃ s, 5 - k = s + 1 := ⟨4 - k, by omega⟩
      have HS : Hid (5 - k = s + 1) := hs
      clear hs
      go_wp2
      go_loopw [7] (fun t wr => ∃ i : Nat, t = .int .i64 i ∧ i0 ≤ i ∧ i ≤ b ∧ Hid (scanSorted ltInt dk b i = scanSorted ltInt dk b i0) ∧ Hid (HoldU wr g dk) ∧ Sole [g] w wr) (fun t _ => b - (intOf t).toNat)
      case atStart => exact ⟨i0, rfl, Nat.le_refl _, hi2, rfl, HH, hS0⟩
      case round =>
        obtain ⟨i, rfl, hi3, hi4, HSC, HW, hSi⟩ := hrel
        obtain ⟨w3, hw3⟩ : ∃ w3, w3 = wr := ⟨_, rfl⟩
        subst hw3
        clear HH hS0
        by_cases hib : i < b
        · have hibI : (i : Int) < b := by omega
          obtain ⟨c, hc1⟩ : ∃ c, i = c + 1 := ⟨i - 1, by omega⟩
          have hc2 : (i : Int) - 1 = (c : Int) := by omega
          have hwc : IntKind.i64.wrap (c : Int) = (c : Int) := Go.IntWalk.i64_in _ (by omega)
          have HC : Hid (i = c + 1) := hc1
          have ci := HW.out.cell i (by have := HE.out; omega)
          have cc := HW.out.cell c (by have := HE.out; omega)
          have hiI : (i : Int) < n := by omega
          have hin : i < n := by omega
          have hcI : (c : Int) < n := by omega
          have hcn : c < n := by omega
          have hne : ¬ i = c := by omega
          have hne' : ¬ c = i := by omega
          generalize hGi : dk[i]! = xi at *
          generalize hGc : dk[c]! = xc at *
          have HGi : Hid (dk[i]! = xi) := hGi
          have HGc : Hid (dk[c]! = xc) := hGc
          have HGc' : Hid (dk[i - 1]! = xc) := by unfold Hid; rw [show i - 1 = c from by omega]; exact hGc
          clear hGi hGc hc1
          go_wp2_with fail
          go_quiet (first | (go_at_call 48; refine Calls.quiet_of_same (less_any _ _ _)))
          obtain ⟨A, hA⟩ : ∃ A, ltInt xi xc = A := ⟨_, rfl⟩
          rw [hA]
          have HA : Hid (ltInt xi xc = A) := hA
          clear hA
          cases A with
          | false =>
            go_wp2
            go_roundw
            case rel => exact ⟨i + 1, by go_num, by omega, by omega, by unfold Hid; rw [← HSC.out, sc_on dk b i hib (by rw [HGi.out, HGc'.out]; exact HA.out)], HW.out.drewN _, hSi.trans (Sole.drewN _ _ _)⟩
            case measure => simp [intOf]; omega
          | true =>
            have HI : Hid (scanSorted ltInt dk b i0 = i) := by unfold Hid; rw [← HSC.out, sc_off dk b i (.inr (by rw [HGi.out, HGc'.out]; exact HA.out))]
            have HW4 : Hid (HoldU (w3.drewN nq) g dk) := HW.out.drewN nq
            have hS4 : Sole [g] w (w3.drewN nq) := hSi.trans (Sole.drewN _ _ _)
            generalize w3.drewN nq = w4 at *
            clear ci cc HW hSi HSC
            have hibn : ¬ (i : Int) = (b : Int) := by omega
            by_cases h50 : l < 50
            · have h50I : (l : Int) < 50 := by omega
              have HRR : Hid (R = (dk, false)) := by
                unfold Hid; rw [← HQ.out, HS.out, pi_step, HI.out, if_neg (by omega), if_pos (by have := HL.out; omega)]
              go_wp2
              go_ret
              exact ⟨by rw [HRR.out]; rfl, dk, by rw [HRR.out], HE.out.trans HN.out, HW4.out, hS4⟩
            · have h50I : ¬ (l : Int) < 50 := by omega
              have HQ2 : Hid (partialIns ltInt a b s i (upF b i (dnF a i (swp dk i c))) = R) := by
                have q := HQ.out
                rw [HS.out, pi_step, HI.out, if_neg (by omega), if_neg (by have := HL.out; omega), show i - 1 = c from by have := HC.out; omega] at q
                exact q
              have zi := HW4.out.cell i (by have := HE.out; omega)
              have zc := HW4.out.cell c (by have := HE.out; omega)
              have ei := HW4.out.frozen i
              have ec := HW4.out.frozen c
              rw [HGi.out] at zi
              rw [HGc.out] at zc
              have HSw : Hid (∀ q, HoldU (((w4.drewN q).setCell ⟨g, i, none⟩ (.int .u32 xc)).setCell ⟨g, c, none⟩ (.int .u32 xi)) g (swp dk i c)) := fun q => by
                have := (HW4.out.drewN q).swap i c (by have := HE.out; omega) (by have := HE.out; omega)
                rw [HGi.out, HGc.out] at this
                exact this
              obtain ⟨m, hm⟩ : ∃ m, i = a + m := ⟨i - a, by omega⟩
              have hm1 : (i : Int) - (a : Int) = (m : Int) := by omega
              have hwm : IntKind.i64.wrap (m : Int) = (m : Int) := Go.IntWalk.i64_in _ (by omega)
              obtain ⟨r, hr⟩ : ∃ r, b = i + r := ⟨b - i, by omega⟩
              have hr1 : (b : Int) - (i : Int) = (r : Int) := by omega
              have hwr : IntKind.i64.wrap (r : Int) = (r : Int) := Go.IntWalk.i64_in _ (by omega)
              have HM : Hid (i = a + m ∧ b = i + r) := ⟨hm, hr⟩
              clear hm hr
              go_wp2_with fail
              go_region
              clear zi zc ei ec
              have HW5 : Hid (HoldU (((w4.drewN 1).setCell ⟨g, i, none⟩ (.int .u32 xc)).setCell ⟨g, c, none⟩ (.int .u32 xi)) g (swp dk i c)) := HSw.out 1
              have hS5 : Sole [g] w (((w4.drewN 1).setCell ⟨g, i, none⟩ (.int .u32 xc)).setCell ⟨g, c, none⟩ (.int .u32 xi)) := ((hS4.trans (Sole.drewN _ 1 _)).trans (Sole.setCell _ _ (by simp))).trans (Sole.setCell _ _ (by simp))
              by_cases hm2 : 2 ≤ m
              · have hm2I : (2 : Int) ≤ (m : Int) := by omega
                go_wp2
                go_loopw [9] (fun t wr => ∃ j : Nat, t = .int .i64 j ∧ j ≤ c ∧ Hid (∃ dz : Array Int, dz.size = n ∧ HoldU wr g dz ∧ partialIns ltInt a b s i (upF b i (shiftDown ltInt j dz)) = R) ∧ Sole [g] w wr) (fun t _ => (intOf t).toNat)
                case atStart => exact ⟨c, by go_num, Nat.le_refl _, ⟨swp dk i c, by rw [size_swp]; exact HE.out, HW5.out, by
                  have q := HQ2.out
                  rw [dnF, if_pos (by have := HM.out; omega), show i - 1 = c from by have := HC.out; omega] at q
                  exact q⟩, hS5⟩
                case round =>
                  obtain ⟨j, rfl, hj1, HZ, hSz⟩ := hrel
                  obtain ⟨w6, hw6⟩ : ∃ w6, w6 = wr := ⟨_, rfl⟩
                  subst hw6
                  obtain ⟨dz, z1, z2, z3⟩ := HZ.out
                  have HZE : Hid (dz.size = n) := z1
                  have HZH : Hid (HoldU w6 g dz) := z2
                  have HZQ : Hid (partialIns ltInt a b s i (upF b i (shiftDown ltInt j dz)) = R) := z3
                  clear HZ z1 z2 z3 HW5 hS5 HSw HW4 hS4
                  by_cases hj0 : 1 ≤ j
                  · have hj0I : (1 : Int) ≤ (j : Int) := by omega
                    obtain ⟨e, he⟩ : ∃ e, j = e + 1 := ⟨j - 1, by omega⟩
                    have he1 : (j : Int) - 1 = (e : Int) := by omega
                    have hwe : IntKind.i64.wrap (e : Int) = (e : Int) := Go.IntWalk.i64_in _ (by omega)
                    have HEE : Hid (j = e + 1) := he
                    have cj := HZH.out.cell j (by have := HZE.out; omega)
                    have ce := HZH.out.cell e (by have := HZE.out; omega)
                    have hjI : (j : Int) < n := by omega
                    have hjn : j < n := by omega
                    have heI : (e : Int) < n := by omega
                    have hen : e < n := by omega
                    have hnj : ¬ j = e := by omega
                    have hnj' : ¬ e = j := by omega
                    generalize hGj : dz[j]! = xj at *
                    generalize hGe : dz[e]! = xe at *
                    have HGj : Hid (dz[j]! = xj) := hGj
                    have HGj' : Hid (dz[e + 1]! = xj) := by unfold Hid; rw [← he]; exact hGj
                    have HGe : Hid (dz[e]! = xe) := hGe
                    clear hGj hGe he
                    go_wp2_with fail
                    go_quiet (first | (go_at_call 48; refine Calls.quiet_of_same (less_any _ _ _)))
                    obtain ⟨B, hB⟩ : ∃ B, ltInt xj xe = B := ⟨_, rfl⟩
                    rw [hB]
                    have HB : Hid (ltInt xj xe = B) := hB
                    clear hB
                    have HW7 : Hid (HoldU (w6.drewN nq) g dz) := HZH.out.drewN nq
                    have hS7 : Sole [g] w (w6.drewN nq) := hSz.trans (Sole.drewN _ _ _)
                    generalize w6.drewN nq = w7 at *
                    clear cj ce
                    cases B with
                    | true =>
                      have zj := HW7.out.cell j (by have := HZE.out; omega)
                      have ze := HW7.out.cell e (by have := HZE.out; omega)
                      have ej := HW7.out.frozen j
                      have ee := HW7.out.frozen e
                      rw [HGj.out] at zj
                      rw [HGe.out] at ze
                      have HSz : Hid (∀ q, HoldU (((w7.drewN q).setCell ⟨g, j, none⟩ (.int .u32 xe)).setCell ⟨g, e, none⟩ (.int .u32 xj)) g (swp dz j e)) := fun q => by
                        have := (HW7.out.drewN q).swap j e (by have := HZE.out; omega) (by have := HZE.out; omega)
                        rw [HGj.out, HGe.out] at this
                        exact this
                      go_wp2_with fail
                      go_region
                      all_goals go_wp2
                      go_roundw
                      case rel =>
                        refine ⟨e, by go_num, by have := HEE.out; omega, ⟨swp dz j e, by rw [size_swp]; exact HZE.out, HSz.out 1, ?_⟩, ((hS7.trans (Sole.drewN _ 1 _)).trans (Sole.setCell _ _ (by simp))).trans (Sole.setCell _ _ (by simp))⟩
                        have q := HZQ.out
                        rw [HEE.out, dn_on e dz (by rw [HGj'.out, HGe.out]; exact HB.out)] at q
                        rw [HEE.out]
                        exact q
                      case measure => simp [intOf]; have := HEE.out; omega
                    | false =>
                      have HZF : Hid (partialIns ltInt a b s i (upF b i dz) = R) := by
                        have q := HZQ.out
                        rw [HEE.out, dn_off e dz (by rw [HGj'.out, HGe.out]; exact HB.out)] at q
                        exact q
                      clear HGj HGj' HGe HB HEE he1 hwe hjI hjn heI hen hnj hnj' hj0 hj0I hj1
                      by_cases hr2 : 2 ≤ r
                      · have hr2I : (2 : Int) ≤ (r : Int) := by omega
                        go_wp2
                        go_loopw [10] (fun t wr => ∃ j : Nat, t = .int .i64 j ∧ i + 1 ≤ j ∧ j ≤ b ∧ Hid (∃ dy : Array Int, dy.size = n ∧ HoldU wr g dy ∧ partialIns ltInt a b s i (shiftUp ltInt b j dy) = R) ∧ Sole [g] w wr) (fun t _ => b - (intOf t).toNat)
                        case atStart => exact ⟨i + 1, by go_num, Nat.le_refl _, by omega, ⟨dz, HZE.out, HW7.out, by
                          have q := HZF.out
                          rw [upF, if_pos (by have := HM.out; omega)] at q
                          exact q⟩, hS7⟩
                        case round =>
                          obtain ⟨j, rfl, hj1, hj2, HY, hSy⟩ := hrel
                          obtain ⟨w8, hw8⟩ : ∃ w8, w8 = wr := ⟨_, rfl⟩
                          subst hw8
                          obtain ⟨dy, y1, y2, y3⟩ := HY.out
                          have HYE : Hid (dy.size = n) := y1
                          have HYH : Hid (HoldU w8 g dy) := y2
                          have HYQ : Hid (partialIns ltInt a b s i (shiftUp ltInt b j dy) = R) := y3
                          clear HY y1 y2 y3
                          by_cases hjb : j < b
                          · have hjbI : (j : Int) < b := by omega
                            obtain ⟨e, he⟩ : ∃ e, j = e + 1 := ⟨j - 1, by omega⟩
                            have he1 : (j : Int) - 1 = (e : Int) := by omega
                            have hwe : IntKind.i64.wrap (e : Int) = (e : Int) := Go.IntWalk.i64_in _ (by omega)
                            have HEE : Hid (j = e + 1) := he
                            have cj := HYH.out.cell j (by have := HYE.out; omega)
                            have ce := HYH.out.cell e (by have := HYE.out; omega)
                            have hjI : (j : Int) < n := by omega
                            have hjn : j < n := by omega
                            have heI : (e : Int) < n := by omega
                            have hen : e < n := by omega
                            have hnj : ¬ j = e := by omega
                            have hnj' : ¬ e = j := by omega
                            generalize hGj : dy[j]! = xj at *
                            generalize hGe : dy[e]! = xe at *
                            have HGj : Hid (dy[j]! = xj) := hGj
                            have HGe : Hid (dy[e]! = xe) := hGe
                            have HGe' : Hid (dy[j - 1]! = xe) := by unfold Hid; rw [show j - 1 = e from by omega]; exact hGe
                            clear hGj hGe he
                            go_wp2_with fail
                            go_quiet (first | (go_at_call 48; refine Calls.quiet_of_same (less_any _ _ _)))
                            obtain ⟨B, hB⟩ : ∃ B, ltInt xj xe = B := ⟨_, rfl⟩
                            rw [hB]
                            have HB : Hid (ltInt xj xe = B) := hB
                            clear hB
                            have HW9 : Hid (HoldU (w8.drewN nq) g dy) := HYH.out.drewN nq
                            have hS9 : Sole [g] w (w8.drewN nq) := hSy.trans (Sole.drewN _ _ _)
                            generalize w8.drewN nq = w9 at *
                            clear cj ce
                            cases B with
                            | true =>
                              have zj := HW9.out.cell j (by have := HYE.out; omega)
                              have ze := HW9.out.cell e (by have := HYE.out; omega)
                              have ej := HW9.out.frozen j
                              have ee := HW9.out.frozen e
                              rw [HGj.out] at zj
                              rw [HGe.out] at ze
                              have HSy : Hid (∀ q, HoldU (((w9.drewN q).setCell ⟨g, j, none⟩ (.int .u32 xe)).setCell ⟨g, e, none⟩ (.int .u32 xj)) g (swp dy j e)) := fun q => by
                                have := (HW9.out.drewN q).swap j e (by have := HYE.out; omega) (by have := HYE.out; omega)
                                rw [HGj.out, HGe.out] at this
                                exact this
                              go_wp2_with fail
                              go_region
                              all_goals go_wp2
                              go_roundw
                              case rel =>
                                refine ⟨j + 1, by go_num, by omega, by omega, ⟨swp dy j e, by rw [size_swp]; exact HYE.out, HSy.out 1, ?_⟩, ((hS9.trans (Sole.drewN _ 1 _)).trans (Sole.setCell _ _ (by simp))).trans (Sole.setCell _ _ (by simp))⟩
                                have q := HYQ.out
                                rw [up_on b j dy hjb (by rw [HGj.out, HGe'.out]; exact HB.out), show j - 1 = e from by have := HEE.out; omega] at q
                                exact q
                              case measure => simp [intOf]; omega
                            | false =>
                              have HYF : Hid (partialIns ltInt a b s i dy = R) := by
                                have q := HYQ.out
                                rw [up_off b j dy (.inr (by rw [HGj.out, HGe'.out]; exact HB.out))] at q
                                exact q
                              go_wp2
                              go_roundw
                              case rel => exact ⟨i, k + 1, rfl, by go_num, by omega, by omega, by omega, ⟨dy, HYE.out, HW9.out, by rw [show 5 - (k + 1) = s from by have := HS.out; omega]; exact HYF.out⟩, hS9⟩
                              case measure => simp [intOf]; omega
                          · have hjbI : ¬ (j : Int) < b := by omega
                            have HYF : Hid (partialIns ltInt a b s i dy = R) := by
                              have q := HYQ.out
                              rw [up_off b j dy (.inl hjb)] at q
                              exact q
                            go_wp2
                            go_roundw
                            case rel => exact ⟨i, k + 1, rfl, by go_num, by omega, by omega, by omega, ⟨dy, HYE.out, HYH.out, by rw [show 5 - (k + 1) = s from by have := HS.out; omega]; exact HYF.out⟩, hSy⟩
                            case measure => simp [intOf]; omega
                      · have hr2I : ¬ (2 : Int) ≤ (r : Int) := by omega
                        have HYF : Hid (partialIns ltInt a b s i (dz) = R) := by
                          have q := HZF.out
                          rw [upF, if_neg (by have := HM.out; omega)] at q
                          exact q
                        go_wp2
                        go_roundw
                        case rel => exact ⟨i, k + 1, rfl, by go_num, by omega, by omega, by omega, ⟨dz, HZE.out, HW7.out, by rw [show 5 - (k + 1) = s from by have := HS.out; omega]; exact HYF.out⟩, hS7⟩
                        case measure => simp [intOf]; omega
                  · have hj0I : ¬ (1 : Int) ≤ (j : Int) := by omega
                    have HZF : Hid (partialIns ltInt a b s i (upF b i dz) = R) := by
                      have q := HZQ.out
                      rw [show j = 0 from by omega] at q
                      exact q
                    have hjz : (j : Int) = 0 := by omega
                    by_cases hr2 : 2 ≤ r
                    · have hr2I : (2 : Int) ≤ (r : Int) := by omega
                      go_wp2
                      go_loopw [10] (fun t wr => ∃ j : Nat, t = .int .i64 j ∧ i + 1 ≤ j ∧ j ≤ b ∧ Hid (∃ dy : Array Int, dy.size = n ∧ HoldU wr g dy ∧ partialIns ltInt a b s i (shiftUp ltInt b j dy) = R) ∧ Sole [g] w wr) (fun t _ => b - (intOf t).toNat)
                      case atStart => exact ⟨i + 1, by go_num, Nat.le_refl _, by omega, ⟨dz, HZE.out, HZH.out, by
                        have q := HZF.out
                        rw [upF, if_pos (by have := HM.out; omega)] at q
                        exact q⟩, hSz⟩
                      case round =>
                        obtain ⟨j, rfl, hj1, hj2, HY, hSy⟩ := hrel
                        obtain ⟨w8, hw8⟩ : ∃ w8, w8 = wr := ⟨_, rfl⟩
                        subst hw8
                        obtain ⟨dy, y1, y2, y3⟩ := HY.out
                        have HYE : Hid (dy.size = n) := y1
                        have HYH : Hid (HoldU w8 g dy) := y2
                        have HYQ : Hid (partialIns ltInt a b s i (shiftUp ltInt b j dy) = R) := y3
                        clear HY y1 y2 y3
                        by_cases hjb : j < b
                        · have hjbI : (j : Int) < b := by omega
                          obtain ⟨e, he⟩ : ∃ e, j = e + 1 := ⟨j - 1, by omega⟩
                          have he1 : (j : Int) - 1 = (e : Int) := by omega
                          have hwe : IntKind.i64.wrap (e : Int) = (e : Int) := Go.IntWalk.i64_in _ (by omega)
                          have HEE : Hid (j = e + 1) := he
                          have cj := HYH.out.cell j (by have := HYE.out; omega)
                          have ce := HYH.out.cell e (by have := HYE.out; omega)
                          have hjI : (j : Int) < n := by omega
                          have hjn : j < n := by omega
                          have heI : (e : Int) < n := by omega
                          have hen : e < n := by omega
                          have hnj : ¬ j = e := by omega
                          have hnj' : ¬ e = j := by omega
                          generalize hGj : dy[j]! = xj at *
                          generalize hGe : dy[e]! = xe at *
                          have HGj : Hid (dy[j]! = xj) := hGj
                          have HGe : Hid (dy[e]! = xe) := hGe
                          have HGe' : Hid (dy[j - 1]! = xe) := by unfold Hid; rw [show j - 1 = e from by omega]; exact hGe
                          clear hGj hGe he
                          go_wp2_with fail
                          go_quiet (first | (go_at_call 48; refine Calls.quiet_of_same (less_any _ _ _)))
                          obtain ⟨B, hB⟩ : ∃ B, ltInt xj xe = B := ⟨_, rfl⟩
                          rw [hB]
                          have HB : Hid (ltInt xj xe = B) := hB
                          clear hB
                          have HW9 : Hid (HoldU (w8.drewN nq) g dy) := HYH.out.drewN nq
                          have hS9 : Sole [g] w (w8.drewN nq) := hSy.trans (Sole.drewN _ _ _)
                          generalize w8.drewN nq = w9 at *
                          clear cj ce
                          cases B with
                          | true =>
                            have zj := HW9.out.cell j (by have := HYE.out; omega)
                            have ze := HW9.out.cell e (by have := HYE.out; omega)
                            have ej := HW9.out.frozen j
                            have ee := HW9.out.frozen e
                            rw [HGj.out] at zj
                            rw [HGe.out] at ze
                            have HSy : Hid (∀ q, HoldU (((w9.drewN q).setCell ⟨g, j, none⟩ (.int .u32 xe)).setCell ⟨g, e, none⟩ (.int .u32 xj)) g (swp dy j e)) := fun q => by
                              have := (HW9.out.drewN q).swap j e (by have := HYE.out; omega) (by have := HYE.out; omega)
                              rw [HGj.out, HGe.out] at this
                              exact this
                            go_wp2_with fail
                            go_region
                            all_goals go_wp2
                            go_roundw
                            case rel =>
                              refine ⟨j + 1, by go_num, by omega, by omega, ⟨swp dy j e, by rw [size_swp]; exact HYE.out, HSy.out 1, ?_⟩, ((hS9.trans (Sole.drewN _ 1 _)).trans (Sole.setCell _ _ (by simp))).trans (Sole.setCell _ _ (by simp))⟩
                              have q := HYQ.out
                              rw [up_on b j dy hjb (by rw [HGj.out, HGe'.out]; exact HB.out), show j - 1 = e from by have := HEE.out; omega] at q
                              exact q
                            case measure => simp [intOf]; omega
                          | false =>
                            have HYF : Hid (partialIns ltInt a b s i dy = R) := by
                              have q := HYQ.out
                              rw [up_off b j dy (.inr (by rw [HGj.out, HGe'.out]; exact HB.out))] at q
                              exact q
                            go_wp2
                            go_roundw
                            case rel => exact ⟨i, k + 1, rfl, by go_num, by omega, by omega, by omega, ⟨dy, HYE.out, HW9.out, by rw [show 5 - (k + 1) = s from by have := HS.out; omega]; exact HYF.out⟩, hS9⟩
                            case measure => simp [intOf]; omega
                        · have hjbI : ¬ (j : Int) < b := by omega
                          have HYF : Hid (partialIns ltInt a b s i dy = R) := by
                            have q := HYQ.out
                            rw [up_off b j dy (.inl hjb)] at q
                            exact q
                          go_wp2
                          go_roundw
                          case rel => exact ⟨i, k + 1, rfl, by go_num, by omega, by omega, by omega, ⟨dy, HYE.out, HYH.out, by rw [show 5 - (k + 1) = s from by have := HS.out; omega]; exact HYF.out⟩, hSy⟩
                          case measure => simp [intOf]; omega
                    · have hr2I : ¬ (2 : Int) ≤ (r : Int) := by omega
                      have HYF : Hid (partialIns ltInt a b s i (dz) = R) := by
                        have q := HZF.out
                        rw [upF, if_neg (by have := HM.out; omega)] at q
                        exact q
                      go_wp2
                      go_roundw
                      case rel => exact ⟨i, k + 1, rfl, by go_num, by omega, by omega, by omega, ⟨dz, HZE.out, HZH.out, by rw [show 5 - (k + 1) = s from by have := HS.out; omega]; exact HYF.out⟩, hSz⟩
                      case measure => simp [intOf]; omega
              · have hm2I : ¬ (2 : Int) ≤ (m : Int) := by omega
                have HZF : Hid (partialIns ltInt a b s i (upF b i (swp dk i c)) = R) := by
                  have q := HQ2.out
                  rw [dnF, if_neg (by have := HM.out; omega)] at q
                  exact q
                by_cases hr2 : 2 ≤ r
                · have hr2I : (2 : Int) ≤ (r : Int) := by omega
                  go_wp2
                  go_loopw [10] (fun t wr => ∃ j : Nat, t = .int .i64 j ∧ i + 1 ≤ j ∧ j ≤ b ∧ Hid (∃ dy : Array Int, dy.size = n ∧ HoldU wr g dy ∧ partialIns ltInt a b s i (shiftUp ltInt b j dy) = R) ∧ Sole [g] w wr) (fun t _ => b - (intOf t).toNat)
                  case atStart => exact ⟨i + 1, by go_num, Nat.le_refl _, by omega, ⟨swp dk i c, (by rw [size_swp]; exact HE.out), HW5.out, by
                    have q := HZF.out
                    rw [upF, if_pos (by have := HM.out; omega)] at q
                    exact q⟩, hS5⟩
                  case round =>
                    obtain ⟨j, rfl, hj1, hj2, HY, hSy⟩ := hrel
                    obtain ⟨w8, hw8⟩ : ∃ w8, w8 = wr := ⟨_, rfl⟩
                    subst hw8
                    obtain ⟨dy, y1, y2, y3⟩ := HY.out
                    have HYE : Hid (dy.size = n) := y1
                    have HYH : Hid (HoldU w8 g dy) := y2
                    have HYQ : Hid (partialIns ltInt a b s i (shiftUp ltInt b j dy) = R) := y3
                    clear HY y1 y2 y3
                    by_cases hjb : j < b
                    · have hjbI : (j : Int) < b := by omega
                      obtain ⟨e, he⟩ : ∃ e, j = e + 1 := ⟨j - 1, by omega⟩
                      have he1 : (j : Int) - 1 = (e : Int) := by omega
                      have hwe : IntKind.i64.wrap (e : Int) = (e : Int) := Go.IntWalk.i64_in _ (by omega)
                      have HEE : Hid (j = e + 1) := he
                      have cj := HYH.out.cell j (by have := HYE.out; omega)
                      have ce := HYH.out.cell e (by have := HYE.out; omega)
                      have hjI : (j : Int) < n := by omega
                      have hjn : j < n := by omega
                      have heI : (e : Int) < n := by omega
                      have hen : e < n := by omega
                      have hnj : ¬ j = e := by omega
                      have hnj' : ¬ e = j := by omega
                      generalize hGj : dy[j]! = xj at *
                      generalize hGe : dy[e]! = xe at *
                      have HGj : Hid (dy[j]! = xj) := hGj
                      have HGe : Hid (dy[e]! = xe) := hGe
                      have HGe' : Hid (dy[j - 1]! = xe) := by unfold Hid; rw [show j - 1 = e from by omega]; exact hGe
                      clear hGj hGe he
                      go_wp2_with fail
                      go_quiet (first | (go_at_call 48; refine Calls.quiet_of_same (less_any _ _ _)))
                      obtain ⟨B, hB⟩ : ∃ B, ltInt xj xe = B := ⟨_, rfl⟩
                      rw [hB]
                      have HB : Hid (ltInt xj xe = B) := hB
                      clear hB
                      have HW9 : Hid (HoldU (w8.drewN nq) g dy) := HYH.out.drewN nq
                      have hS9 : Sole [g] w (w8.drewN nq) := hSy.trans (Sole.drewN _ _ _)
                      generalize w8.drewN nq = w9 at *
                      clear cj ce
                      cases B with
                      | true =>
                        have zj := HW9.out.cell j (by have := HYE.out; omega)
                        have ze := HW9.out.cell e (by have := HYE.out; omega)
                        have ej := HW9.out.frozen j
                        have ee := HW9.out.frozen e
                        rw [HGj.out] at zj
                        rw [HGe.out] at ze
                        have HSy : Hid (∀ q, HoldU (((w9.drewN q).setCell ⟨g, j, none⟩ (.int .u32 xe)).setCell ⟨g, e, none⟩ (.int .u32 xj)) g (swp dy j e)) := fun q => by
                          have := (HW9.out.drewN q).swap j e (by have := HYE.out; omega) (by have := HYE.out; omega)
                          rw [HGj.out, HGe.out] at this
                          exact this
                        go_wp2_with fail
                        go_region
                        all_goals go_wp2
                        go_roundw
                        case rel =>
                          refine ⟨j + 1, by go_num, by omega, by omega, ⟨swp dy j e, by rw [size_swp]; exact HYE.out, HSy.out 1, ?_⟩, ((hS9.trans (Sole.drewN _ 1 _)).trans (Sole.setCell _ _ (by simp))).trans (Sole.setCell _ _ (by simp))⟩
                          have q := HYQ.out
                          rw [up_on b j dy hjb (by rw [HGj.out, HGe'.out]; exact HB.out), show j - 1 = e from by have := HEE.out; omega] at q
                          exact q
                        case measure => simp [intOf]; omega
                      | false =>
                        have HYF : Hid (partialIns ltInt a b s i dy = R) := by
                          have q := HYQ.out
                          rw [up_off b j dy (.inr (by rw [HGj.out, HGe'.out]; exact HB.out))] at q
                          exact q
                        go_wp2
                        go_roundw
                        case rel => exact ⟨i, k + 1, rfl, by go_num, by omega, by omega, by omega, ⟨dy, HYE.out, HW9.out, by rw [show 5 - (k + 1) = s from by have := HS.out; omega]; exact HYF.out⟩, hS9⟩
                        case measure => simp [intOf]; omega
                    · have hjbI : ¬ (j : Int) < b := by omega
                      have HYF : Hid (partialIns ltInt a b s i dy = R) := by
                        have q := HYQ.out
                        rw [up_off b j dy (.inl hjb)] at q
                        exact q
                      go_wp2
                      go_roundw
                      case rel => exact ⟨i, k + 1, rfl, by go_num, by omega, by omega, by omega, ⟨dy, HYE.out, HYH.out, by rw [show 5 - (k + 1) = s from by have := HS.out; omega]; exact HYF.out⟩, hSy⟩
                      case measure => simp [intOf]; omega
                · have hr2I : ¬ (2 : Int) ≤ (r : Int) := by omega
                  have HYF : Hid (partialIns ltInt a b s i (swp dk i c) = R) := by
                    have q := HZF.out
                    rw [upF, if_neg (by have := HM.out; omega)] at q
                    exact q
                  go_wp2
                  go_roundw
                  case rel => exact ⟨i, k + 1, rfl, by go_num, by omega, by omega, by omega, ⟨swp dk i c, (by rw [size_swp]; exact HE.out), HW5.out, by rw [show 5 - (k + 1) = s from by have := HS.out; omega]; exact HYF.out⟩, hS5⟩
                  case measure => simp [intOf]; omega
        · have hibI : ¬ (i : Int) < b := by omega
          have hdj : decide ((i : Int) < (b : Int)) = false := decide_eq_false hibI
          have hibE : (i : Int) = (b : Int) := by omega
          have HI : Hid (scanSorted ltInt dk b i0 = b) := by unfold Hid; rw [← HSC.out, sc_off dk b i (.inl hib)]; omega
          have HRR : Hid (R = (dk, true)) := by
            unfold Hid; rw [← HQ.out, HS.out, pi_step, HI.out, if_pos rfl]
          go_wp2_with fail
          go_quiet (fail)
          have HW4 : Hid (HoldU (w3.drewN nq) g dk) := HW.out.drewN nq
          have hS4 : Sole [g] w (w3.drewN nq) := hSi.trans (Sole.drewN _ _ _)
          generalize w3.drewN nq = w4 at *
          go_wp2
          go_ret
          exact ⟨by rw [HRR.out]; rfl, dk, by rw [HRR.out], HE.out.trans HN.out, HW4.out, hS4⟩
    · have hk5I : ¬ (k : Int) < 5 := by omega
      have HRR : Hid (R = (dk, false)) := by unfold Hid; rw [← HQ.out, show 5 - k = 0 from by omega]; rfl
      go_wp2
      go_ret
      exact ⟨by rw [HRR.out]; rfl, dk, by rw [HRR.out], HE.out.trans HN.out, HH.out, hS0⟩

end Go.Proofs.Ytakifnlfgaedjaa
