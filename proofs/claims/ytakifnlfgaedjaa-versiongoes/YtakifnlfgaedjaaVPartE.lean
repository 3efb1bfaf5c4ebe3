/- The contract of slices' partitionEqual at numbers of 32 bits. -/
import Derived.Test.YtakifnlfgaedjaaVPart
namespace Go.Proofs.Ytakifnlfgaedjaa
open Go.RowKit Go.Sort
set_option linter.unusedVariables false
set_option linter.unusedSimpArgs false
set_option maxRecDepth 4000

set_option maxHeartbeats 8000000 in
theorem partE_any {w : World} {g : Nat} {d : Array Int} (h : HoldU w g d) (n cap a b piv : Nat) (hn : n = d.size) (h1 : a ≤ piv) (h2 : piv < b) (hb : b ≤ n) (hc : n ≤ cap) (hcm : cap ≤ maxLen) (hsz : n ≤ 100000) :
    Calls Try.prog 49 #[.slice (some ⟨g, 0, none⟩) n cap, .int .i64 a, .int .i64 b, .int .i64 piv] w fun e w' => ∃ m : Nat, e = .returned (.int .i64 m) ∧ SortOut w g d (fun d' => PartedE a b m d[piv]! d d') w' := by
  have HN : Hid (n = d.size) := hn
  unfold maxLen at hcm
  obtain ⟨B1, hB1⟩ : ∃ B1, b = B1 + 1 := ⟨b - 1, by omega⟩
  have hb1 : (b : Int) - 1 = (B1 : Int) := by omega
  have hwb : IntKind.i64.wrap (B1 : Int) = (B1 : Int) := Go.IntWalk.i64_in _ (by omega)
  have HB1 : Hid (b = B1 + 1) := hB1
  have haI : (a : Int) < n := by omega
  have han : a < n := by omega
  have hpI : (piv : Int) < n := by omega
  have hpn : piv < n := by omega
  have ca := h.cell a (by omega)
  have cp := h.cell piv (by omega)
  have fa := h.frozen a
  have fp := h.frozen piv
  have hst := Parts.start (fun x => !ltInt d[piv]! x) (d := d) (by omega) h1 h2
  have hsw := fun q => (h.drewN q).swap a piv (by omega) (by omega)
  generalize hGa : d[a]! = xa at *
  generalize hGp : d[piv]! = p at *
  have HP0 : Hid (Parts (fun x => !ltInt p x) a b (a + 1) B1 p d (swp d a piv)) := by rw [show b - 1 = B1 from by omega] at hst; exact hst
  have HSW : Hid (∀ q, HoldU (((w.drewN q).setCell ⟨g, a, none⟩ (.int .u32 p)).setCell ⟨g, piv, none⟩ (.int .u32 xa)) g (swp d a piv)) := hsw
  obtain ⟨y, hy⟩ : ∃ y, (w.setCell ⟨g, a, none⟩ (.int .u32 p)).cell? ⟨g, piv, none⟩ = some y := by
    by_cases e : a = piv
    · rw [← e]; exact ⟨_, ((h.set a p (by omega)).cell a (by simp; omega))⟩
    · exact ⟨_, ((h.set a p (by omega)).cell piv (by simp; omega))⟩
  have HE0 : Hid ((swp d a piv).size = n) := by unfold Hid; rw [size_swp]; exact hn.symm
  clear hst hsw hGa hGp h hn hB1
  go_enter Try.func49, Try.ntmps49
  go_wp2_with fail
  go_region
  all_goals go_wp2
  clear ca cp fa fp hy
  go_loopw [9, 10] (fun t u wr => ∃ i j : Nat, t = .int .i64 i ∧ u = .int .i64 j ∧ Hid (∃ dk : Array Int, dk.size = n ∧ HoldU wr g dk ∧ Parts (fun x => !ltInt p x) a b i j p d dk) ∧ Sole [g] w wr) (fun t u _ => (intOf u).toNat + 1 - (intOf t).toNat)
  case atStart => exact ⟨a + 1, B1, by go_num, by go_num, ⟨swp d a piv, HE0.out, HSW.out 1, HP0.out⟩, ((Sole.drewN w 1 [g]).trans (Sole.setCell _ _ (by simp))).trans (Sole.setCell _ _ (by simp))⟩
  case round =>
    obtain ⟨i0, j0, rfl, rfl, HD, hS0⟩ := hrel
    obtain ⟨w2, hw2⟩ : ∃ w2, w2 = wr := ⟨_, rfl⟩
    subst hw2
    obtain ⟨dk, g1, g2, g3⟩ := HD.out
    have HE : Hid (dk.size = n) := g1
    have HH : Hid (HoldU w2 g dk) := g2
    have HPt : Hid (Parts (fun x => !ltInt p x) a b i0 j0 p d dk) := g3
    clear HD g1 g2 g3 HP0 HSW HE0
    go_wp2
    go_loopw [9] (fun t wr => ∃ i : Nat, t = .int .i64 i ∧ i0 ≤ i ∧ Hid (Parts (fun x => !ltInt p x) a b i j0 p d dk ∧ HoldU wr g dk) ∧ Sole [g] w wr) (fun t _ => j0 + 1 - (intOf t).toNat)
    case atStart => exact ⟨i0, rfl, Nat.le_refl _, ⟨HPt.out, HH.out⟩, hS0⟩
    case round =>
      obtain ⟨i, rfl, hi0, HI, hSi⟩ := hrel
      obtain ⟨w3, hw3⟩ : ∃ w3, w3 = wr := ⟨_, rfl⟩
      subst hw3
      have p1 := HI.out.1.lo
      have p2 := HI.out.1.mid
      have p3 := HI.out.1.hi
      by_cases hij : i ≤ j0
      · have hijI : (i : Int) ≤ (j0 : Int) := by omega
        have hiI : (i : Int) < n := by omega
        have hin : i < n := by omega
        have ci := HI.out.2.cell i (by have := HE.out; omega)
        have ca := HI.out.2.cell a (by have := HE.out; omega)
        rw [HI.out.1.piv] at ca
        generalize hGi : dk[i]! = xi at *
        have HGi : Hid (dk[i]! = xi) := hGi
        clear hGi
        go_wp2_with fail
        go_quiet (first | (go_at_call 48; refine Calls.quiet_of_same (less_any _ _ _)))
        obtain ⟨A, hA⟩ : ∃ A, ltInt p xi = A := ⟨_, rfl⟩
        rw [hA]
        have HA : Hid (ltInt p xi = A) := hA
        clear hA
        cases A with
        | false =>
          go_wp2
          go_roundw
          case rel => exact ⟨i + 1, by go_num, by omega, ⟨Parts.up HI.out.1 hij (by rw [HGi.out]; first | (simp only [HA.out]; rfl) | simp only [HA.out]), HI.out.2.drewN _⟩, hSi.trans (Sole.drewN _ _ _)⟩
          case measure => simp [intOf]; omega
        | true =>
          have HiL : Hid ((fun x => !ltInt p x) dk[i]! = false) := by unfold Hid; rw [HGi.out]; first | (simp only [HA.out]; rfl) | simp only [HA.out]
          have HW4 : Hid (HoldU (w3.drewN nq) g dk) := HI.out.2.drewN nq
          have hS4 : Sole [g] w (w3.drewN nq) := hSi.trans (Sole.drewN _ _ _)
          generalize w3.drewN nq = w4 at *
          clear ci ca
          go_wp2
          go_loopw [10] (fun t wr => ∃ j : Nat, t = .int .i64 j ∧ j ≤ j0 ∧ Hid (Parts (fun x => !ltInt p x) a b i j p d dk ∧ HoldU wr g dk) ∧ Sole [g] w wr) (fun t _ => (intOf t).toNat)
          case atStart => exact ⟨j0, rfl, Nat.le_refl _, ⟨HI.out.1, HW4.out⟩, hS4⟩
          case round =>
            obtain ⟨j, rfl, hj0, HJ, hSj⟩ := hrel
            obtain ⟨w5, hw5⟩ : ∃ w5, w5 = wr := ⟨_, rfl⟩
            subst hw5
            have q1 := HJ.out.1.lo
            have q2 := HJ.out.1.mid
            have q3 := HJ.out.1.hi
            by_cases hij2 : i ≤ j
            · have hij2I : (i : Int) ≤ (j : Int) := by omega
              obtain ⟨k2, hjk⟩ : ∃ k2, j = k2 + 1 := ⟨j - 1, by omega⟩
              have hk1 : (j : Int) - 1 = (k2 : Int) := by omega
              have hwk : IntKind.i64.wrap (k2 : Int) = (k2 : Int) := Go.IntWalk.i64_in _ (by omega)
              have HJK : Hid (j = k2 + 1) := hjk
              have hjI : (j : Int) < n := by omega
              have hjn : j < n := by omega
              have cj := HJ.out.2.cell j (by have := HE.out; omega)
              have ca := HJ.out.2.cell a (by have := HE.out; omega)
              rw [HJ.out.1.piv] at ca
              generalize hGj : dk[j]! = xj at *
              have HGj : Hid (dk[k2 + 1]! = xj) := by unfold Hid; rw [← hjk]; exact hGj
              clear hGj hjk
              go_wp2_with fail
              go_quiet (first | (go_at_call 48; refine Calls.quiet_of_same (less_any _ _ _)))
              obtain ⟨B, hB⟩ : ∃ B, ltInt p xj = B := ⟨_, rfl⟩
              rw [hB]
              have HB : Hid (ltInt p xj = B) := hB
              clear hB
              cases B with
              | true =>
                go_wp2
                go_roundw
                case rel => exact ⟨k2, by simp, by have := HJK.out; omega, ⟨Parts.down (by have := HJ.out.1; rw [HJK.out] at this; exact this) (by have := HJK.out; omega) (by rw [HGj.out]; first | (simp only [HB.out]; rfl) | simp only [HB.out]), HJ.out.2.drewN _⟩, hSj.trans (Sole.drewN _ _ _)⟩
                case measure => simp [intOf]; have := HJK.out; omega
              | false =>
                have HjL : Hid ((fun x => !ltInt p x) dk[k2 + 1]! = true) := by unfold Hid; rw [HGj.out]; first | (simp only [HB.out]; rfl) | simp only [HB.out]
                have HP2 : Hid (Parts (fun x => !ltInt p x) a b i (k2 + 1) p d dk) := by have := HJ.out.1; rw [HJK.out] at this; exact this
                have HW2 : Hid (HoldU (w5.drewN nq) g dk) := HJ.out.2.drewN nq
                have hS6 : Sole [g] w (w5.drewN nq) := hSj.trans (Sole.drewN _ _ _)
                generalize w5.drewN nq = w6 at *
                go_wp2_with fail
                have hiI : (i : Int) < n := by omega
                have hjI2 : (j : Int) < n := by omega
                have zi := HW2.out.cell i (by have := HE.out; omega)
                have zj := HW2.out.cell j (by have := HE.out; omega)
                have ei := HW2.out.frozen i
                have ej := HW2.out.frozen j
                have HNE : Hid (i ≠ k2 + 1) := by
                  intro e
                  have q := HiL.out
                  rw [e, HjL.out] at q
                  cases q
                have hne : ¬ i = j := by have := HNE.out; have := HJK.out; omega
                have hne' : ¬ j = i := fun e => hne e.symm
                have HSw : Hid (∀ q, HoldU (((w6.drewN q).setCell ⟨g, i, none⟩ (.int .u32 dk[j]!)).setCell ⟨g, j, none⟩ (.int .u32 dk[i]!)) g (swp dk i (k2 + 1))) := fun q => by
                  have := (HW2.out.drewN q).swap i j (by have := HE.out; omega) (by have := HE.out; omega)
                  rw [← HJK.out]
                  exact this
                have HPS : Hid (Parts (fun x => !ltInt p x) a b (i + 1) k2 p d (swp dk i (k2 + 1))) := HP2.out.swap (by have := HE.out; omega) (by have := HJK.out; omega) HiL.out HjL.out
                generalize dk[i]! = yi at *
                generalize dk[j]! = yj at *
                go_region
                all_goals go_wp2
                go_roundw
                case rel => exact ⟨i + 1, k2, by go_num, by go_num, ⟨swp dk i (k2 + 1), by rw [size_swp]; exact HE.out, HSw.out 1, HPS.out⟩, ((hS6.trans (Sole.drewN _ 1 _)).trans (Sole.setCell _ _ (by simp))).trans (Sole.setCell _ _ (by simp))⟩
                case measure => simp [intOf]; have := HJK.out; omega
            · have hij2I : ¬ (i : Int) ≤ (j : Int) := by omega
              have hji : (j : Int) < (i : Int) := by omega
              have hdj : decide ((i : Int) ≤ (j : Int)) = false := decide_eq_false hij2I
              go_wp2_with fail
              go_quiet (fail)
              have HW7 : Hid (HoldU (w5.drewN nq) g dk) := HJ.out.2.drewN nq
              have HP7 : Hid (Parts (fun x => !ltInt p x) a b i j p d dk) := HJ.out.1
              have hS7 : Sole [g] w (w5.drewN nq) := hSj.trans (Sole.drewN _ _ _)
              generalize w5.drewN nq = w7 at *
              go_wp2
              go_ret
              exact ⟨i, rfl, dk, Parts.doneE HP7.out (by omega), HE.out.trans HN.out, HW7.out, hS7⟩
      · have hijI : ¬ (i : Int) ≤ (j0 : Int) := by omega
        have hji : (j0 : Int) < (i : Int) := by omega
        have hdj : decide ((i : Int) ≤ (j0 : Int)) = false := decide_eq_false hijI
        go_wp2_with fail
        go_quiet (fail)
        have HW4 : Hid (HoldU (w3.drewN nq) g dk) := HI.out.2.drewN nq
        have hS4 : Sole [g] w (w3.drewN nq) := hSi.trans (Sole.drewN _ _ _)
        generalize w3.drewN nq = w4 at *
        go_wp2
        go_loopw [10] (fun t wr => t = .int .i64 j0 ∧ wr = w4) (fun _ _ => 0)
        case atStart => exact ⟨rfl, rfl⟩
        case round =>
          obtain ⟨rfl, rfl⟩ := hrel
          obtain ⟨w5, hw5⟩ : ∃ w5, w5 = wr := ⟨_, rfl⟩
          subst hw5
          obtain ⟨j, hj⟩ : ∃ j, j = j0 := ⟨_, rfl⟩
          go_wp2_with fail
          go_quiet (fail)
          have HW7 : Hid (HoldU (w5.drewN nq) g dk) := HW4.out.drewN nq
          have HP7 : Hid (Parts (fun x => !ltInt p x) a b i j p d dk) := by rw [hj]; exact HI.out.1
          have hS7 : Sole [g] w (w5.drewN nq) := hS4.trans (Sole.drewN _ _ _)
          have q1 := HP7.out.lo
          have q2 := HP7.out.mid
          have q3 := HP7.out.hi
          generalize w5.drewN nq = w7 at *
          subst hj
          go_wp2
          go_ret
          exact ⟨i, rfl, dk, Parts.doneE HP7.out (by omega), HE.out.trans HN.out, HW7.out, hS7⟩

end Go.Proofs.Ytakifnlfgaedjaa
