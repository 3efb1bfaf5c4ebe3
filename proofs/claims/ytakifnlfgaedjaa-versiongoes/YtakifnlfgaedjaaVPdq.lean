/- The contracts of slices' pdqsort and Sort at numbers of 32 bits. -/
import Derived.Test.YtakifnlfgaedjaaVPdqM
import Derived.Test.YtakifnlfgaedjaaVIns2
import Derived.Test.YtakifnlfgaedjaaVPartE
import Derived.Test.YtakifnlfgaedjaaVPartW
import Derived.Test.YtakifnlfgaedjaaVBreak
import Derived.Deep.LoopGhost
import Derived.Deep.CutRange
namespace Go.Proofs.Ytakifnlfgaedjaa
open Go.RowKit Go.Sort
set_option linter.unusedVariables false
set_option linter.unusedSimpArgs false
set_option maxRecDepth 4000

/-- A row stands, and the loop's invariant. -/
def PdqAt (w : World) (g n a b a' b' : Nat) (d : Array Int) (W : World) : Prop := ∃ dk : Array Int, HoldU W g dk ∧ dk.size = n ∧ Inv a b a' b' d dk ∧ Sole [g] w W

/-- The same, with what was asked of the pivot. -/
def PdqC (w : World) (g n a b a' b' pv : Nat) (c : Bool) (d : Array Int) (W : World) : Prop := ∃ dk : Array Int, HoldU W g dk ∧ dk.size = n ∧ Inv a b a' b' d dk ∧ Sole [g] w W ∧ (c = true → 0 < a' ∧ ltInt dk[a' - 1]! dk[pv]! = false)

set_option maxHeartbeats 8000000 in
theorem pdq_any (g n cap : Nat) (hc : n ≤ cap) (hcm : cap ≤ maxLen) (hsz : n ≤ 100000) : ∀ (M : Nat) (w : World) (d : Array Int) (a b lim : Nat), b - a ≤ M → HoldU w g d → n = d.size → a ≤ b → b ≤ n → Go.Sort.Below ltInt a b d → lim ≤ 64 →
    Calls Try.prog 39 #[.slice (some ⟨g, 0, none⟩) n cap, .int .i64 a, .int .i64 b, .int .i64 lim] w fun e w' => e = .returned (.tuple #[]) ∧ SortOut w g d (fun d' => PermIn a b d d' ∧ SortedIn ltInt a b d') w' := by
  intro M
  induction M using Nat.strongRecOn with
  | _ M ih =>
  intro w d a b lim hM h hn hab hb hbl hlim
  have HN : Hid (n = d.size) := hn
  have HCM : Hid (cap ≤ maxLen) := hcm
  have IH : Hid _ := ih
  have H0 : Hid (PdqAt w g n a b a b d w) := ⟨d, h, hn.symm, Inv.start hab hbl, Sole.refl _ _⟩
  unfold maxLen at hcm
  clear h hn hbl ih
  go_enter Try.func39, Try.ntmps39
  go_wp2
  go_loopg [1, 2, 3, 8, 9] (b - a) (fun kx s1 s2 s3 s8 s9 wr => ∃ (x y m : Nat) (wb wp : Bool), s1 = .int .i64 x ∧ s2 = .int .i64 y ∧ s3 = .int .i64 m ∧ s8 = .bool wb ∧ s9 = .bool wp ∧ a ≤ x ∧ x ≤ y ∧ y ≤ b ∧ m ≤ 64 ∧ y - x ≤ kx ∧ Hid (PdqAt w g n a b x y d wr))
  case atStart => exact ⟨a, b, lim, true, true, rfl, rfl, rfl, rfl, rfl, Nat.le_refl _, hab, Nat.le_refl _, hlim, Nat.le_refl _, H0⟩
  case round =>
    obtain ⟨x, y, m, wb, wp, rfl, rfl, rfl, rfl, rfl, hx, hxy, hy, hm, hkx, HA⟩ := hrel
    clear H0
    obtain ⟨l, hl⟩ : ∃ l, y = x + l := ⟨y - x, by omega⟩
    have hl1 : (y : Int) - (x : Int) = (l : Int) := by omega
    have hwl : IntKind.i64.wrap (l : Int) = (l : Int) := Go.IntWalk.i64_in _ (by omega)
    have HL : Hid (y = x + l) := hl
    clear hl
    by_cases h12 : l ≤ 12
    · have h12I : (l : Int) ≤ 12 := by omega
      obtain ⟨dk, k1, k2, k3, k4⟩ := HA.out
      have cs := ins_any k1 n cap x y k2.symm hxy (by omega) hc HCM.out hsz
      have HK : Hid (Inv a b x y d dk ∧ dk.size = n ∧ Sole [g] w wr) := ⟨k3, k2, k4⟩
      clear k1 k2 k3 k4
      go_wp2_with fail
      refine cs.mono ?_
      rintro e1 w1 ⟨rfl, d1, rfl, hs1, hh1, hS1⟩
      clear cs
      go_wp2
      refine bodyPost_ret (results_none rfl _ _ _) rfl ?_
      obtain ⟨i1, i2, i3⟩ := HK.out
      have q := insertionSort_holds swo_ltInt dk x y hxy (by omega)
      exact ⟨rfl, _, i1.done (by have := HN.out; omega) q.1 q.2, hs1.trans i1.sz, hh1, i3.trans hS1⟩
    · have h12I : ¬ (l : Int) ≤ 12 := by omega
      have hxl : x + 12 < y := by have := HL.out; omega
      by_cases hm0 : m = 0
      · have hm0I : (m : Int) = 0 := by omega
        obtain ⟨dk, k1, k2, k3, k4⟩ := HA.out
        have cs := heap_any k1 n cap x y k2.symm (by omega) (by omega) hc HCM.out hsz
        have HK : Hid (Inv a b x y d dk ∧ dk.size = n ∧ Sole [g] w wr) := ⟨k3, k2, k4⟩
        clear k1 k2 k3 k4
        go_wp2_with fail
        refine cs.mono ?_
        rintro e1 w1 ⟨rfl, d1, rfl, hs1, hh1, hS1⟩
        clear cs
        go_wp2
        refine bodyPost_ret (results_none rfl _ _ _) rfl ?_
        obtain ⟨i1, i2, i3⟩ := HK.out
        have q := heapSort_holds swo_ltInt dk x y hxy (by omega)
        exact ⟨rfl, _, i1.done (by have := HN.out; omega) q.1 q.2, hs1.trans i1.sz, hh1, i3.trans hS1⟩
      · have hm0I : ¬ (m : Int) = 0 := by omega
        go_upto_if 35 with fail
        go_cut [3] from 19 to 133 (fun s3 wx => ∃ m' : Nat, s3 = .int .i64 m' ∧ m' ≤ 64 ∧ Hid (PdqAt w g n a b x y d wx))
        case first =>
          cases wb with
          | true =>
            go_wp2
            go_meet
            exact ⟨m, rfl, hm, HA⟩
          | false =>
            obtain ⟨dk, k1, k2, k3, k4⟩ := HA.out
            have cs := break_any k1 n cap x y k2.symm hxl (by omega) hc HCM.out hsz
            have HK : Hid (Inv a b x y d dk ∧ dk.size = n ∧ Sole [g] w wr) := ⟨k3, k2, k4⟩
            clear k1 k2 k3 k4
            obtain ⟨m1, hm1⟩ : ∃ m1, m = m1 + 1 := ⟨m - 1, by omega⟩
            have hm2 : (m : Int) - 1 = (m1 : Int) := by omega
            have hwm : IntKind.i64.wrap (m1 : Int) = (m1 : Int) := Go.IntWalk.i64_in _ (by omega)
            have HM1 : Hid (m = m1 + 1) := hm1
            clear hm1
            go_wp2_with fail
            refine cs.mono ?_
            rintro e1 w1 ⟨rfl, d1, hp1, hs1, hh1, hS1⟩
            clear cs
            go_wp2
            go_meet
            obtain ⟨i1, i2, i3⟩ := HK.out
            exact ⟨m1, by simp, by have := HM1.out; omega, d1, hh1, hs1.trans i2, i1.turn (by have := HN.out; omega) hp1, i3.trans hS1⟩
        case rest =>
          obtain ⟨m', rfl, hm', HC1⟩ := hcut
          obtain ⟨dk, k1, k2, k3, k4⟩ := HC1.out
          have cp := pivot_any k1 n cap x y k2.symm hxl (by omega) hc HCM.out hsz
          have HK : Hid (HoldU wc g dk ∧ dk.size = n ∧ Inv a b x y d dk ∧ Sole [g] w wc) := ⟨k1, k2, k3, k4⟩
          clear k1 k2 k3 k4 HC1 HA
          go_wp2_with fail
          refine cp.mono ?_
          rintro e1 w1 ⟨pv, hv, ⟨hp1, hp2, hq⟩, rfl, hB1⟩
          clear cp
          have HC2 : Hid (PdqAt w g n a b x y d w1) := by
            obtain ⟨i1, i2, i3, i4⟩ := HK.out
            exact ⟨dk, i1.other (Sole.of_below hB1 []) (by simp), i2, i3, i4.trans (Sole.of_below hB1 [g])⟩
          clear HK hB1
          go_upto_if 50 with fail
          go_cut [11, 12] from 19 to 133 (fun s11 s12 wx => ∃ pv' hv' : Nat, s11 = .int .i64 pv' ∧ s12 = .int .i64 hv' ∧ x ≤ pv' ∧ pv' < y ∧ Hid (PdqAt w g n a b x y d wx))
          case first =>
            by_cases h2 : hv = 2
            · have h2I : (hv : Int) = 2 := by omega
              obtain ⟨dk, k1, k2, k3, k4⟩ := HC2.out
              have cs := rev_any k1 n cap x y k2.symm (by omega) (by omega) hc HCM.out hsz
              have HK : Hid (Inv a b x y d dk ∧ dk.size = n ∧ Sole [g] w w1) := ⟨k3, k2, k4⟩
              clear k1 k2 k3 k4
              obtain ⟨Y1, hY1⟩ : ∃ Y1, y = Y1 + 1 := ⟨y - 1, by omega⟩
              have hY2 : (y : Int) - 1 = (Y1 : Int) := by omega
              have hwY : IntKind.i64.wrap (Y1 : Int) = (Y1 : Int) := Go.IntWalk.i64_in _ (by omega)
              obtain ⟨q, hq1⟩ : ∃ q, pv = x + q := ⟨pv - x, by omega⟩
              have hq2 : (pv : Int) - (x : Int) = (q : Int) := by omega
              have hwq : IntKind.i64.wrap (q : Int) = (q : Int) := Go.IntWalk.i64_in _ (by omega)
              obtain ⟨r, hr1⟩ : ∃ r, Y1 = q + r := ⟨Y1 - q, by omega⟩
              have hr2 : (Y1 : Int) - (q : Int) = (r : Int) := by omega
              have hwr : IntKind.i64.wrap (r : Int) = (r : Int) := Go.IntWalk.i64_in _ (by omega)
              have HQ : Hid (y = Y1 + 1 ∧ pv = x + q ∧ Y1 = q + r) := ⟨hY1, hq1, hr1⟩
              clear hY1 hq1 hr1 h2
              go_wp2_with fail
              refine cs.mono ?_
              rintro e2 w2 ⟨rfl, d2, rfl, hs2, hh2, hS2⟩
              clear cs
              go_wp2
              go_meet
              obtain ⟨i1, i2, i3⟩ := HK.out
              refine ⟨r, 1, by simp, rfl, by have := HQ.out; omega, by have := HQ.out; omega, _, hh2, hs2.trans i2, i1.turn (by have := HN.out; omega) (reverseRange_holds dk x y hxy (by omega)), i3.trans hS2⟩
            · have h2I : ¬ (hv : Int) = 2 := by omega
              go_wp2
              go_meet
              exact ⟨pv, hv, rfl, rfl, hp1, hp2, HC2⟩
          case rest =>
            clear HC2 hp1 hp2 hq
            obtain ⟨pv', hv', rfl, rfl, hv1, hv2, HC3⟩ := hcut
            go_upto_region 15 with fail
            go_cut [68] from 19 to 133 (fun s68 wx => ∃ B : Bool, s68 = .bool B ∧ Hid (PdqAt w g n a b x y d wx))
            case first =>
              cases wb with
              | false =>
                go_wp2
                go_meet
                exact ⟨_, rfl, HC3⟩
              | true =>
                cases wp with
                | false =>
                  go_wp2
                  go_meet
                  exact ⟨_, rfl, HC3⟩
                | true =>
                  go_wp2
                  go_meet
                  exact ⟨_, rfl, HC3⟩
            case rest =>
              clear HC3
              obtain ⟨B, rfl, HC4⟩ := hcut
              go_upto_if 68 with fail
              go_cut [] from 19 to 133 (fun wx => Hid (PdqAt w g n a b x y d wx))
              case first =>
                cases B with
                | false =>
                  go_wp2
                  go_meet
                  exact HC4
                | true =>
                  obtain ⟨dk, k1, k2, k3, k4⟩ := HC4.out
                  have cs := pins_any k1 n cap x y k2.symm hxl (by omega) hc HCM.out hsz
                  have hpi := partialInsertionSort_holds swo_ltInt dk x y (by omega) (by omega) k3.blw
                  have HK : Hid (Inv a b x y d dk ∧ dk.size = n ∧ Sole [g] w wc) := ⟨k3, k2, k4⟩
                  have HPI : Hid _ := hpi
                  clear k1 k2 k3 k4 hpi
                  obtain ⟨f, hf⟩ : ∃ f, (partialInsertionSort ltInt dk x y).2 = f := ⟨_, rfl⟩
                  rw [hf] at cs
                  have HF : Hid ((partialInsertionSort ltInt dk x y).2 = f) := hf
                  clear hf
                  go_wp2_with fail
                  refine cs.mono ?_
                  rintro e2 w2 ⟨rfl, d2, rfl, hs2, hh2, hS2⟩
                  clear cs
                  cases f with
                  | true =>
                    go_wp2
                    refine bodyPost_ret (results_none rfl _ _ _) rfl ?_
                    obtain ⟨i1, i2, i3⟩ := HK.out
                    exact ⟨rfl, _, i1.done (by have := HN.out; omega) HPI.out.1 (HPI.out.2 HF.out), hs2.trans i1.sz, hh2, i3.trans hS2⟩
                  | false =>
                    go_wp2
                    go_meet
                    obtain ⟨i1, i2, i3⟩ := HK.out
                    exact ⟨_, hh2, hs2.trans i2, i1.turn (by have := HN.out; omega) HPI.out.1, i3.trans hS2⟩
              case rest =>
                clear HC4
                have HC5 : Hid (PdqAt w g n a b x y d wc) := hcut
                clear hcut
                go_upto_region 17 with fail
                go_cut [87] from 19 to 133 (fun s87 wx => ∃ c : Bool, s87 = .bool c ∧ Hid (PdqC w g n a b x y pv' c d wx))
                case first =>
                  obtain ⟨dk, k1, k2, k3, k4⟩ := HC5.out
                  have HK : Hid (HoldU wc g dk ∧ dk.size = n ∧ Inv a b x y d dk ∧ Sole [g] w wc) := ⟨k1, k2, k3, k4⟩
                  by_cases hx0 : 0 < x
                  · have hx0I : (0 : Int) < (x : Int) := by omega
                    obtain ⟨x1, hx1⟩ : ∃ x1, x = x1 + 1 := ⟨x - 1, by omega⟩
                    have hx2 : (x : Int) - 1 = (x1 : Int) := by omega
                    have hwx : IntKind.i64.wrap (x1 : Int) = (x1 : Int) := Go.IntWalk.i64_in _ (by omega)
                    have c1 := k1.cell x1 (by omega)
                    have c2 := k1.cell pv' (by omega)
                    have hxI : (x1 : Int) < n := by omega
                    have hxn : x1 < n := by omega
                    have hpI : (pv' : Int) < n := by omega
                    have hpn : pv' < n := by omega
                    generalize hG1 : dk[x1]! = z1 at *
                    generalize hG2 : dk[pv']! = z2 at *
                    have HG : Hid (dk[x - 1]! = z1 ∧ dk[pv']! = z2) := by unfold Hid; rw [show x - 1 = x1 from by omega]; exact ⟨hG1, hG2⟩
                    clear hG1 hG2 hx1 k1 k2 k3 k4
                    go_wp2_with fail
                    go_quiet (first | (go_at_call 48; refine Calls.quiet_of_same (less_any _ _ _)))
                    go_wp2
                    go_meet
                    obtain ⟨i1, i2, i3, i4⟩ := HK.out
                    refine ⟨_, rfl, dk, i1.drewN _, i2, i3, i4.trans (Sole.drewN _ _ _), fun hc => ⟨hx0, ?_⟩⟩
                    rw [HG.out.1, HG.out.2]
                    simpa using hc
                  · have hx0I : ¬ (0 : Int) < (x : Int) := by omega
                    have hdx : decide ((0 : Int) < (x : Int)) = false := decide_eq_false hx0I
                    clear k1 k2 k3 k4
                    go_wp2_with fail
                    go_quiet (fail)
                    go_wp2
                    go_meet
                    obtain ⟨i1, i2, i3, i4⟩ := HK.out
                    exact ⟨false, rfl, dk, i1.drewN _, i2, i3, i4.trans (Sole.drewN _ _ _), fun hc => by cases hc⟩
                case rest =>
                  clear HC5
                  obtain ⟨c, rfl, HC6⟩ := hcut
                  obtain ⟨dk, k1, k2, k3, k4, k5⟩ := HC6.out
                  cases c with
                  | true =>
                    have cs := partE_any k1 n cap x y pv' k2.symm hv1 hv2 (by omega) hc HCM.out hsz
                    have HK : Hid (Inv a b x y d dk ∧ dk.size = n ∧ Sole [g] w wc ∧ (0 < x ∧ ltInt dk[x - 1]! dk[pv']! = false)) := ⟨k3, k2, k4, k5 rfl⟩
                    clear k1 k2 k3 k4 k5 HC6
                    go_wp2_with fail
                    refine cs.mono ?_
                    rintro e2 w2 ⟨mid, rfl, d2, hp2, hs2, hh2, hS2⟩
                    clear cs
                    have HP2 : Hid _ := hp2
                    have hml := hp2.lo
                    have hmh := hp2.hi
                    clear hp2
                    go_wp2
                    go_roundg (y - mid)
                    case measure => omega
                    case rel =>
                      obtain ⟨i1, i2, i3, i4, i5⟩ := HK.out
                      exact ⟨mid, y, m', wb, wp, rfl, rfl, rfl, rfl, rfl, by omega, hmh, hy, hm', Nat.le_refl _, d2, hh2, hs2.trans i2, i1.equal (by have := HN.out; omega) i4 i5 HP2.out, i3.trans hS2⟩
                  | false =>
                    have cs := part_any k1 n cap x y pv' k2.symm hv1 hv2 (by omega) hc HCM.out hsz
                    have HK : Hid (Inv a b x y d dk ∧ dk.size = n ∧ Sole [g] w wc) := ⟨k3, k2, k4⟩
                    clear k1 k2 k3 k4 k5 HC6
                    go_wp2_with fail
                    refine cs.mono ?_
                    rintro e2 w2 ⟨mid, f, rfl, d2, hp2, hs2, hh2, hS2⟩
                    clear cs
                    have HP2 : Hid (Parted x y mid dk d2) := hp2
                    have hml := hp2.lo
                    have hmh := hp2.hi
                    have HW2 : Hid (HoldU w2 g d2 ∧ d2.size = n) := ⟨hh2, hs2.trans HK.out.2.1⟩
                    clear hp2 hh2 hs2
                    obtain ⟨u, hu⟩ : ∃ u, mid = x + u := ⟨mid - x, by omega⟩
                    have hu1 : (mid : Int) - (x : Int) = (u : Int) := by omega
                    have hwu : IntKind.i64.wrap (u : Int) = (u : Int) := Go.IntWalk.i64_in _ (by omega)
                    obtain ⟨v, hv⟩ : ∃ v, y = mid + v := ⟨y - mid, by omega⟩
                    have hv3 : (y : Int) - (mid : Int) = (v : Int) := by omega
                    have hwv : IntKind.i64.wrap (v : Int) = (v : Int) := Go.IntWalk.i64_in _ (by omega)
                    obtain ⟨t, ht⟩ : ∃ t, t = l / 8 := ⟨_, rfl⟩
                    have ht1 : (l : Int) / 8 = (t : Int) := by omega
                    have ht2 : (l : Int).tdiv 8 = (t : Int) := by rw [Int.tdiv_eq_ediv_of_nonneg (by omega)]; exact ht1
                    have hwt : IntKind.i64.wrap (t : Int) = (t : Int) := Go.IntWalk.i64_in _ (by omega)
                    obtain ⟨mid1, hmid1⟩ : ∃ mid1, mid1 = mid + 1 := ⟨_, rfl⟩
                    have hmd : (mid : Int) + 1 = (mid1 : Int) := by omega
                    have hwd : IntKind.i64.wrap (mid1 : Int) = (mid1 : Int) := Go.IntWalk.i64_in _ (by omega)
                    have HU : Hid (mid = x + u ∧ y = mid + v ∧ mid1 = mid + 1) := ⟨hu, hv, hmid1⟩
                    clear hu hv ht hmid1
                    by_cases huv : u < v
                    · have huvI : (u : Int) < (v : Int) := by omega
                      have cr := IH.out (mid - x) (by omega) w2 d2 x mid m' (Nat.le_refl _) HW2.out.1 HW2.out.2.symm hml (by omega) (Parted.below_left HK.out.1 (by have := HN.out; omega) HP2.out) hm'
                      go_wp2_with fail
                      refine cr.mono ?_
                      rintro e3 w3 ⟨rfl, d3, ⟨hp3, hs3⟩, hz3, hh3, hS3⟩
                      clear cr
                      have HX3 : Hid (PermIn x mid d2 d3 ∧ SortedIn ltInt x mid d3) := ⟨hp3, hs3⟩
                      clear hp3 hs3
                      go_wp2
                      go_roundg (y - mid1)
                      case measure => have := HU.out; omega
                      case rel =>
                        obtain ⟨i1, i2, i3⟩ := HK.out
                        have hU := HU.out
                        refine ⟨mid1, y, m', _, f, rfl, rfl, rfl, rfl, rfl, by omega, by omega, hy, hm', Nat.le_refl _, d3, hh3, hz3.trans HW2.out.2, ?_, (i3.trans hS2).trans hS3⟩
                        rw [hU.2.2]
                        exact i1.left (by have := HN.out; omega) HP2.out HX3.out.1 HX3.out.2
                    · have huvI : ¬ (u : Int) < (v : Int) := by omega
                      have cr := IH.out (y - mid1) (by have := HU.out; omega) w2 d2 mid1 y m' (Nat.le_refl _) HW2.out.1 HW2.out.2.symm (by have := HU.out; omega) (by omega) (by rw [HU.out.2.2]; exact Parted.below_right HP2.out) hm'
                      go_wp2_with fail
                      refine cr.mono ?_
                      rintro e3 w3 ⟨rfl, d3, ⟨hp3, hs3⟩, hz3, hh3, hS3⟩
                      clear cr
                      have HX3 : Hid (PermIn mid1 y d2 d3 ∧ SortedIn ltInt mid1 y d3) := ⟨hp3, hs3⟩
                      clear hp3 hs3
                      go_wp2
                      go_roundg (mid - x)
                      case measure => have := HU.out; omega
                      case rel =>
                        obtain ⟨i1, i2, i3⟩ := HK.out
                        have hU := HU.out
                        have hX := HX3.out
                        rw [hU.2.2] at hX
                        exact ⟨x, mid, m', _, f, rfl, rfl, rfl, rfl, rfl, hx, hml, by omega, hm', Nat.le_refl _, d3, hh3, hz3.trans HW2.out.2, i1.right (by have := HN.out; omega) HP2.out hX.1 hX.2, (i3.trans hS2).trans hS3⟩

set_option maxHeartbeats 1000000 in
theorem sort_any {w : World} {g : Nat} {d : Array Int} (h : HoldU w g d) (n cap : Nat) (hn : n = d.size) (hc : n ≤ cap) (hcm : cap ≤ maxLen) (hsz : n ≤ 100000) :
    Calls Try.prog 33 #[.slice (some ⟨g, 0, none⟩) n cap] w fun e w' => e = .returned (.tuple #[]) ∧ SortOut w g d (fun d' => PermIn 0 n d d' ∧ SortedIn ltInt 0 n d') w' := by
  have cb := blen_any n (by omega) w
  have cq := fun k (hk : k ≤ 64) => pdq_any g n cap hc hcm hsz n w d 0 n k (by omega) h hn (Nat.zero_le _) (Nat.le_refl _) (.inl rfl) hk
  have hwn : IntKind.u64.wrap (n : Int) = (n : Int) := Go.IntWalk.u64_in _ (by omega)
  clear h hn hcm
  go_enter Try.func33, Try.ntmps33
  go_wp2_with fail
  refine cb.mono ?_
  rintro e1 w1 ⟨k, hk, rfl, rfl⟩
  clear cb
  have cq := cq k hk
  go_wp2_with fail
  refine cq.mono ?_
  rintro e2 w2 ⟨rfl, h2⟩
  go_wp2
  go_end0
  exact ⟨rfl, h2⟩

end Go.Proofs.Ytakifnlfgaedjaa
