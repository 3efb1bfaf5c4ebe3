/- The contract of the document's CheckNode. -/
import Derived.Test.YtanbjdcffcnfgaaKRise
import Derived.Test.YtanbjdcffcnfgaaQCheck2
import Derived.Test.YtanbjdcffcnfgaaQInner
namespace Go.Proofs.Ytanbjdcffcnfgaa
open Go.RowKit
set_option linter.unusedVariables false
set_option linter.unusedSimpArgs false
set_option maxRecDepth 4000

def smallB (ps : List (ByteArray × ByteArray)) : Bool := ps.all (fun p => decide (p.2.size ≤ 34))
def noZeroB (cs : List Int) : Bool := cs.all (fun k => k != 0)

theorem nodeE_leaf (ps : List (ByteArray × ByteArray)) (ks : List ByteArray) (cs : List Int) : nodeOk ⟨true, ps, ks, cs⟩ = (smallB ps && decide (1 ≤ ps.length) && decide (ps.length ≤ 10) && risingB (ps.map (·.1)) && decide (ks.length = 0) && decide (cs.length = 0)) := by
  unfold nodeOk smallB
  have e1 : ks.isEmpty = decide (ks.length = 0) := by cases ks <;> simp
  have e2 : cs.isEmpty = decide (cs.length = 0) := by cases cs <;> simp
  dsimp only
  rw [if_pos rfl, e1, e2]
  generalize ps.all _ = a
  generalize decide (1 ≤ ps.length) = b
  generalize decide (ps.length ≤ 10) = c
  cases a <;> cases b <;> cases c <;> rfl

theorem nodeE_inner (ps : List (ByteArray × ByteArray)) (ks : List ByteArray) (cs : List Int) : nodeOk ⟨false, ps, ks, cs⟩ = (decide (2 ≤ cs.length) && decide (cs.length ≤ 24) && decide (ks.length + 1 = cs.length) && risingB ks && decide (ps.length = 0) && noZeroB cs) := by
  unfold nodeOk noZeroB
  have e1 : ps.isEmpty = decide (ps.length = 0) := by cases ps <;> simp
  dsimp only
  rw [if_neg (by decide), e1]

theorem smallB_next {l : List (ByteArray × ByteArray)} {k : Nat} {x : ByteArray × ByteArray} (h : l[k]? = some x) : smallB (l.take (k + 1)) = (smallB (l.take k) && decide (x.2.size ≤ 34)) := by
  unfold smallB; rw [take_next h, List.all_append]; simp

theorem noZeroB_next {l : List Int} {k : Nat} {x : Int} (h : l[k]? = some x) : noZeroB (l.take (k + 1)) = (noZeroB (l.take k) && (x != 0)) := by
  unfold noZeroB; rw [take_next h, List.all_append]; simp

theorem map_next {l : List (ByteArray × ByteArray)} {k : Nat} {x : ByteArray × ByteArray} (h : l[k]? = some x) : ((l.take (k + 1)).map (·.1)).flatMap strE = ((l.take k).map (·.1)).flatMap strE ++ [.string x.1] := by
  rw [take_next h, List.map_append, List.flatMap_append]; rfl

set_option maxHeartbeats 8000000 in
theorem kcheck_inner (w : World) (a1 a2 a3 : Option Addr) (c1 c2 c3 : Nat) (ps : List (ByteArray × ByteArray)) (ks : List ByteArray) (cs : List Int) (hS : RdS w (.slice a2 ks.length c2) ks) (hU : RdU w (.slice a3 cs.length c3) cs) :
    Calls Try.prog 13 #[.agg #[.bool false, .slice a1 ps.length c1, .slice a2 ks.length c2, .slice a3 cs.length c3]] w fun e w' => e = .returned (.int .i64 (nodeE ⟨false, ps, ks, cs⟩)) ∧ Below w.heap.size w w' := by
  have hok := nodeE_inner ps ks cs
  have hB0 := (Below.refl w.heap.size w).alloc (Nat.le_refl _) (.cells #[.bool false, .slice a1 ps.length c1, .slice a2 ks.length c2, .slice a3 cs.length c3] 26)
  have hg := heap_alloc_new w (.cells #[.bool false, .slice a1 ps.length c1, .slice a2 ks.length c2, .slice a3 cs.length c3] 26)
  have hri := krising_any _ a2 _ c2 ks (RdE.below hS hB0)
  obtain ⟨lu, uc, um, uI⟩ := RdU.open (RdE.below hU hB0)
  obtain ⟨ls, sc, sm, _⟩ := RdS.open (RdE.below hS hB0)
  unfold maxLen at um sm
  clear hS hU
  generalize hn1 : ps.length = n1 at *
  generalize hn2 : ks.length = n2 at *
  generalize hn3 : cs.length = n3 at *
  replace lu := hn3
  clear hn1 hn2 hn3 ls
  generalize hW0 : w.alloc (.cells #[.bool false, .slice a1 n1 c1, .slice a2 n2 c2, .slice a3 n3 c3] 26) = W0 at *
  obtain ⟨X0, X1, X2, X3, _⟩ := box4' hg
  clear hg
  generalize risingB ks = R at *
  go_enter Try.func13, Try.ntmps13
  by_cases d1 : 2 ≤ n3
  · have i1 : (2 : Int) ≤ n3 := by omega
    by_cases d2 : n3 ≤ 24
    · have i2 : (n3 : Int) ≤ 24 := by omega
      by_cases d3 : n2 + 1 = n3
      · have i3 : (n2 : Int) = (n3 : Int) - 1 := by omega
        cases R with
        | true =>
          by_cases d5 : n1 = 0
          · subst d5
            replace hok : Hid (nodeOk ⟨false, ps, ks, cs⟩ = (true && noZeroB cs)) := by unfold Hid; rw [hok]; simp [d1, d2, d3]
            go_wp2_with fail
            refine hri.mono ?_
            clear hri
            rintro e w1 ⟨rfl, rfl⟩
            go_wp2
            go_loop [3, 8, 94] (fun g x t => ∃ k : Nat, k ≤ n3 ∧ t = .int .i64 k ∧ g = .bool (true && noZeroB (cs.take k))) (fun _ _ t => n3 - (intOf t).toNat)
            case atStart => exact ⟨0, Nat.zero_le _, rfl, rfl⟩
            case round =>
              obtain ⟨k, hk, rfl, rfl⟩ := hrel
              by_cases hlt : k < n3
              · obtain ⟨b, off, rfl, hb, hcs⟩ := uI (by omega)
                obtain ⟨x, hx⟩ := at_some lu hlt
                have hcx := hcs k x hx
                have hnx := noZeroB_next hx
                have hltI : (k : Int) < n3 := by omega
                clear hcs uI
                by_cases hx0 : x = 0
                · have HN : Hid ((true && noZeroB (cs.take (k + 1))) = false) := by unfold Hid; rw [hnx]; simp [hx0]
                  subst hx0
                  clear hnx
                  cases hq : (true && noZeroB (cs.take k)) <;>
                  · go_wp2
                    go_round
                    case rel => exact ⟨k + 1, by omega, by go_num, by rw [HN.out]⟩
                    case measure => simp [intOf]; omega
                · have HN : Hid ((true && noZeroB (cs.take (k + 1))) = (true && noZeroB (cs.take k))) := by unfold Hid; rw [hnx]; simp [hx0]
                  have hx0' : (x != 0) = true := by simp [hx0]
                  clear hnx
                  cases hq : (true && noZeroB (cs.take k)) <;>
                  · rw [hq] at HN
                    go_wp2
                    go_round
                    case rel => exact ⟨k + 1, by omega, by go_num, by rw [HN.out]; try simp [hx0]⟩
                    case measure => simp [intOf]; omega
              · obtain rfl : k = n3 := by omega
                have hltI : ¬ (k : Int) < k := by omega
                have hfin : Hid (nodeE ⟨false, ps, ks, cs⟩ = if (true && noZeroB (cs.take k)) then 0 else 50) := by
                  unfold Hid nodeE
                  rw [List.take_of_length_le (by omega), hok.out]
                cases hq : (true && noZeroB (cs.take k)) <;>
                · rw [hq] at hfin
                  go_wp2
                  go_ret
                  exact ⟨by rw [hfin.out]; rfl, hB0⟩
          · have i5 : ((n1 : Int) == 0) = false := by simp [d5]
            replace hok : Hid (nodeOk ⟨false, ps, ks, cs⟩ = (false && noZeroB cs)) := by unfold Hid; rw [hok]; simp [d5]
            go_wp2_with fail
            refine hri.mono ?_
            clear hri
            rintro e w1 ⟨rfl, rfl⟩
            go_wp2
            go_loop [3, 8, 94] (fun g x t => ∃ k : Nat, k ≤ n3 ∧ t = .int .i64 k ∧ g = .bool (false && noZeroB (cs.take k))) (fun _ _ t => n3 - (intOf t).toNat)
            case atStart => exact ⟨0, Nat.zero_le _, rfl, rfl⟩
            case round =>
              obtain ⟨k, hk, rfl, rfl⟩ := hrel
              by_cases hlt : k < n3
              · obtain ⟨b, off, rfl, hb, hcs⟩ := uI (by omega)
                obtain ⟨x, hx⟩ := at_some lu hlt
                have hcx := hcs k x hx
                have hnx := noZeroB_next hx
                have hltI : (k : Int) < n3 := by omega
                clear hcs uI
                by_cases hx0 : x = 0
                · have HN : Hid ((false && noZeroB (cs.take (k + 1))) = false) := by unfold Hid; rw [hnx]; simp [hx0]
                  subst hx0
                  clear hnx
                  cases hq : (false && noZeroB (cs.take k)) <;>
                  · go_wp2
                    go_round
                    case rel => exact ⟨k + 1, by omega, by go_num, by rw [HN.out]⟩
                    case measure => simp [intOf]; omega
                · have HN : Hid ((false && noZeroB (cs.take (k + 1))) = (false && noZeroB (cs.take k))) := by unfold Hid; rw [hnx]; simp [hx0]
                  have hx0' : (x != 0) = true := by simp [hx0]
                  clear hnx
                  cases hq : (false && noZeroB (cs.take k)) <;>
                  · rw [hq] at HN
                    go_wp2
                    go_round
                    case rel => exact ⟨k + 1, by omega, by go_num, by rw [HN.out]; try simp [hx0]⟩
                    case measure => simp [intOf]; omega
              · obtain rfl : k = n3 := by omega
                have hltI : ¬ (k : Int) < k := by omega
                have hfin : Hid (nodeE ⟨false, ps, ks, cs⟩ = if (false && noZeroB (cs.take k)) then 0 else 50) := by
                  unfold Hid nodeE
                  rw [List.take_of_length_le (by omega), hok.out]
                cases hq : (false && noZeroB (cs.take k)) <;>
                · rw [hq] at hfin
                  go_wp2
                  go_ret
                  exact ⟨by rw [hfin.out]; rfl, hB0⟩
        | false =>
          replace hok : Hid (nodeOk ⟨false, ps, ks, cs⟩ = (false && noZeroB cs)) := by unfold Hid; rw [hok]; simp
          go_wp2_with fail
          refine hri.mono ?_
          clear hri
          rintro e w1 ⟨rfl, rfl⟩
          go_wp2
          go_loop [3, 8, 94] (fun g x t => ∃ k : Nat, k ≤ n3 ∧ t = .int .i64 k ∧ g = .bool (false && noZeroB (cs.take k))) (fun _ _ t => n3 - (intOf t).toNat)
          case atStart => exact ⟨0, Nat.zero_le _, rfl, rfl⟩
          case round =>
            obtain ⟨k, hk, rfl, rfl⟩ := hrel
            by_cases hlt : k < n3
            · obtain ⟨b, off, rfl, hb, hcs⟩ := uI (by omega)
              obtain ⟨x, hx⟩ := at_some lu hlt
              have hcx := hcs k x hx
              have hnx := noZeroB_next hx
              have hltI : (k : Int) < n3 := by omega
              clear hcs uI
              by_cases hx0 : x = 0
              · have HN : Hid ((false && noZeroB (cs.take (k + 1))) = false) := by unfold Hid; rw [hnx]; simp [hx0]
                subst hx0
                clear hnx
                cases hq : (false && noZeroB (cs.take k)) <;>
                · go_wp2
                  go_round
                  case rel => exact ⟨k + 1, by omega, by go_num, by rw [HN.out]⟩
                  case measure => simp [intOf]; omega
              · have HN : Hid ((false && noZeroB (cs.take (k + 1))) = (false && noZeroB (cs.take k))) := by unfold Hid; rw [hnx]; simp [hx0]
                have hx0' : (x != 0) = true := by simp [hx0]
                clear hnx
                cases hq : (false && noZeroB (cs.take k)) <;>
                · rw [hq] at HN
                  go_wp2
                  go_round
                  case rel => exact ⟨k + 1, by omega, by go_num, by rw [HN.out]; try simp [hx0]⟩
                  case measure => simp [intOf]; omega
            · obtain rfl : k = n3 := by omega
              have hltI : ¬ (k : Int) < k := by omega
              have hfin : Hid (nodeE ⟨false, ps, ks, cs⟩ = if (false && noZeroB (cs.take k)) then 0 else 50) := by
                unfold Hid nodeE
                rw [List.take_of_length_le (by omega), hok.out]
              cases hq : (false && noZeroB (cs.take k)) <;>
              · rw [hq] at hfin
                go_wp2
                go_ret
                exact ⟨by rw [hfin.out]; rfl, hB0⟩
      · have i3 : ¬ (n2 : Int) = (n3 : Int) - 1 := by omega
        replace hok : Hid (nodeOk ⟨false, ps, ks, cs⟩ = (false && noZeroB cs)) := by unfold Hid; rw [hok]; simp [d3]
        clear hri
        go_wp2
        go_loop [3, 8, 94] (fun g x t => ∃ k : Nat, k ≤ n3 ∧ t = .int .i64 k ∧ g = .bool (false && noZeroB (cs.take k))) (fun _ _ t => n3 - (intOf t).toNat)
        case atStart => exact ⟨0, Nat.zero_le _, rfl, rfl⟩
        case round =>
          obtain ⟨k, hk, rfl, rfl⟩ := hrel
          by_cases hlt : k < n3
          · obtain ⟨b, off, rfl, hb, hcs⟩ := uI (by omega)
            obtain ⟨x, hx⟩ := at_some lu hlt
            have hcx := hcs k x hx
            have hnx := noZeroB_next hx
            have hltI : (k : Int) < n3 := by omega
            clear hcs uI
            by_cases hx0 : x = 0
            · have HN : Hid ((false && noZeroB (cs.take (k + 1))) = false) := by unfold Hid; rw [hnx]; simp [hx0]
              subst hx0
              clear hnx
              cases hq : (false && noZeroB (cs.take k)) <;>
              · go_wp2
                go_round
                case rel => exact ⟨k + 1, by omega, by go_num, by rw [HN.out]⟩
                case measure => simp [intOf]; omega
            · have HN : Hid ((false && noZeroB (cs.take (k + 1))) = (false && noZeroB (cs.take k))) := by unfold Hid; rw [hnx]; simp [hx0]
              have hx0' : (x != 0) = true := by simp [hx0]
              clear hnx
              cases hq : (false && noZeroB (cs.take k)) <;>
              · rw [hq] at HN
                go_wp2
                go_round
                case rel => exact ⟨k + 1, by omega, by go_num, by rw [HN.out]; try simp [hx0]⟩
                case measure => simp [intOf]; omega
          · obtain rfl : k = n3 := by omega
            have hltI : ¬ (k : Int) < k := by omega
            have hfin : Hid (nodeE ⟨false, ps, ks, cs⟩ = if (false && noZeroB (cs.take k)) then 0 else 50) := by
              unfold Hid nodeE
              rw [List.take_of_length_le (by omega), hok.out]
            cases hq : (false && noZeroB (cs.take k)) <;>
            · rw [hq] at hfin
              go_wp2
              go_ret
              exact ⟨by rw [hfin.out]; rfl, hB0⟩
    · have i2 : ¬ (n3 : Int) ≤ 24 := by omega
      replace hok : Hid (nodeOk ⟨false, ps, ks, cs⟩ = (false && noZeroB cs)) := by unfold Hid; rw [hok]; simp [d2]
      clear hri
      go_wp2
      go_loop [3, 8, 94] (fun g x t => ∃ k : Nat, k ≤ n3 ∧ t = .int .i64 k ∧ g = .bool (false && noZeroB (cs.take k))) (fun _ _ t => n3 - (intOf t).toNat)
      case atStart => exact ⟨0, Nat.zero_le _, rfl, rfl⟩
      case round =>
        obtain ⟨k, hk, rfl, rfl⟩ := hrel
        by_cases hlt : k < n3
        · obtain ⟨b, off, rfl, hb, hcs⟩ := uI (by omega)
          obtain ⟨x, hx⟩ := at_some lu hlt
          have hcx := hcs k x hx
          have hnx := noZeroB_next hx
          have hltI : (k : Int) < n3 := by omega
          clear hcs uI
          by_cases hx0 : x = 0
          · have HN : Hid ((false && noZeroB (cs.take (k + 1))) = false) := by unfold Hid; rw [hnx]; simp [hx0]
            subst hx0
            clear hnx
            cases hq : (false && noZeroB (cs.take k)) <;>
            · go_wp2
              go_round
              case rel => exact ⟨k + 1, by omega, by go_num, by rw [HN.out]⟩
              case measure => simp [intOf]; omega
          · have HN : Hid ((false && noZeroB (cs.take (k + 1))) = (false && noZeroB (cs.take k))) := by unfold Hid; rw [hnx]; simp [hx0]
            have hx0' : (x != 0) = true := by simp [hx0]
            clear hnx
            cases hq : (false && noZeroB (cs.take k)) <;>
            · rw [hq] at HN
              go_wp2
              go_round
              case rel => exact ⟨k + 1, by omega, by go_num, by rw [HN.out]; try simp [hx0]⟩
              case measure => simp [intOf]; omega
        · obtain rfl : k = n3 := by omega
          have hltI : ¬ (k : Int) < k := by omega
          have hfin : Hid (nodeE ⟨false, ps, ks, cs⟩ = if (false && noZeroB (cs.take k)) then 0 else 50) := by
            unfold Hid nodeE
            rw [List.take_of_length_le (by omega), hok.out]
          cases hq : (false && noZeroB (cs.take k)) <;>
          · rw [hq] at hfin
            go_wp2
            go_ret
            exact ⟨by rw [hfin.out]; rfl, hB0⟩
  · have i1 : ¬ (2 : Int) ≤ n3 := by omega
    replace hok : Hid (nodeOk ⟨false, ps, ks, cs⟩ = (false && noZeroB cs)) := by unfold Hid; rw [hok]; simp [d1]
    clear hri
    go_wp2
    go_loop [3, 8, 94] (fun g x t => ∃ k : Nat, k ≤ n3 ∧ t = .int .i64 k ∧ g = .bool (false && noZeroB (cs.take k))) (fun _ _ t => n3 - (intOf t).toNat)
    case atStart => exact ⟨0, Nat.zero_le _, rfl, rfl⟩
    case round =>
      obtain ⟨k, hk, rfl, rfl⟩ := hrel
      by_cases hlt : k < n3
      · obtain ⟨b, off, rfl, hb, hcs⟩ := uI (by omega)
        obtain ⟨x, hx⟩ := at_some lu hlt
        have hcx := hcs k x hx
        have hnx := noZeroB_next hx
        have hltI : (k : Int) < n3 := by omega
        clear hcs uI
        by_cases hx0 : x = 0
        · have HN : Hid ((false && noZeroB (cs.take (k + 1))) = false) := by unfold Hid; rw [hnx]; simp [hx0]
          subst hx0
          clear hnx
          cases hq : (false && noZeroB (cs.take k)) <;>
          · go_wp2
            go_round
            case rel => exact ⟨k + 1, by omega, by go_num, by rw [HN.out]⟩
            case measure => simp [intOf]; omega
        · have HN : Hid ((false && noZeroB (cs.take (k + 1))) = (false && noZeroB (cs.take k))) := by unfold Hid; rw [hnx]; simp [hx0]
          have hx0' : (x != 0) = true := by simp [hx0]
          clear hnx
          cases hq : (false && noZeroB (cs.take k)) <;>
          · rw [hq] at HN
            go_wp2
            go_round
            case rel => exact ⟨k + 1, by omega, by go_num, by rw [HN.out]; try simp [hx0]⟩
            case measure => simp [intOf]; omega
      · obtain rfl : k = n3 := by omega
        have hltI : ¬ (k : Int) < k := by omega
        have hfin : Hid (nodeE ⟨false, ps, ks, cs⟩ = if (false && noZeroB (cs.take k)) then 0 else 50) := by
          unfold Hid nodeE
          rw [List.take_of_length_le (by omega), hok.out]
        cases hq : (false && noZeroB (cs.take k)) <;>
        · rw [hq] at hfin
          go_wp2
          go_ret
          exact ⟨by rw [hfin.out]; rfl, hB0⟩

set_option maxHeartbeats 8000000 in
theorem kcheck_leaf (w : World) (a1 a2 a3 : Option Addr) (c1 c2 c3 : Nat) (ps : List (ByteArray × ByteArray)) (ks : List ByteArray) (cs : List Int) (hP : RdP w (.slice a1 ps.length c1) ps) (hbig : ps.length ≤ 4398046511104) (hl2 : ks.length ≤ maxLen) (hl3 : cs.length ≤ maxLen) :
    Calls Try.prog 13 #[.agg #[.bool true, .slice a1 ps.length c1, .slice a2 ks.length c2, .slice a3 cs.length c3]] w fun e w' => e = .returned (.int .i64 (nodeE ⟨true, ps, ks, cs⟩)) ∧ Below w.heap.size w w' := by
  have hok := nodeE_leaf ps ks cs
  obtain ⟨iS, hsi, hs0, hs1, hs2⟩ := info_parts Try.infoS
  have hB0 := (Below.refl w.heap.size w).alloc (Nat.le_refl _) (.cells #[.bool true, .slice a1 ps.length c1, .slice a2 ks.length c2, .slice a3 cs.length c3] 26)
  have hg := heap_alloc_new w (.cells #[.bool true, .slice a1 ps.length c1, .slice a2 ks.length c2, .slice a3 cs.length c3] 26)
  obtain ⟨lp, pc, pm, pI⟩ := RdP.open (RdE.below hP hB0)
  unfold maxLen at pm hl2 hl3
  clear hP
  have hri : ∀ W a c, World.ownsRow W (w.heap.size + 1) 9 1 (.slice a ps.length c) (ps.map (·.1)).length ((ps.map (·.1)).flatMap strE) → Calls Try.prog 34 #[.slice a ps.length c] W fun e w' => e = .returned (.bool (risingB (ps.map (·.1)))) ∧ w' = W := fun W a c ho => by
    have := krising_any W a ps.length c (ps.map (·.1)) (rdE_own (enc := strE) (fun _ => rfl) ho)
    exact this
  rw [List.length_map] at hri
  generalize risingB (ps.map (·.1)) = R at *
  have hpl : ps.length = ps.length := rfl
  generalize hn1 : ps.length = n1 at *
  replace hpl := hn1
  generalize hn2 : ks.length = n2 at *
  generalize hn3 : cs.length = n3 at *
  clear hn1 hn2 hn3
  generalize hW0 : w.alloc (.cells #[.bool true, .slice a1 n1 c1, .slice a2 n2 c2, .slice a3 n3 c3] 26) = W0 at *
  obtain ⟨X0, X1, X2, X3, _⟩ := box4' hg
  have z0 : W0.heap.size = w.heap.size + 1 := by rw [← hW0]; simp
  have zlt : w.heap.size < W0.heap.size := by omega
  clear hg
  go_enter Try.func13, Try.ntmps13
  go_wp2
  clear hW0
  go_loopw [3, 4, 6, 14] (fun g v x t wr => ∃ (k : Nat) (a : Option Addr) (c : Nat), k ≤ n1 ∧ t = .int .i64 k ∧ g = .bool (smallB (ps.take k)) ∧ v = .slice a k c ∧ World.ownsRow wr (w.heap.size + 1) 9 1 (.slice a k c) k (((ps.take k).map (·.1)).flatMap strE) ∧ Below W0.heap.size W0 wr) (fun _ _ _ t _ => n1 - (intOf t).toNat)
  case atStart => exact ⟨0, none, 0, Nat.zero_le _, rfl, rfl, rfl, World.ownsRow_nil _ _ _ _, Below.refl _ _⟩
  case round =>
    obtain ⟨k, a, c, hk, rfl, rfl, rfl, hown, HB⟩ := hrel
    obtain ⟨wA, hA⟩ : ∃ wA, wA = wr := ⟨_, rfl⟩
    subst hA
    have hsz := HB.size
    have Y1 := (HB.cell (p := ⟨w.heap.size, 1, none⟩) zlt).trans X1
    have Y2 := (HB.cell (p := ⟨w.heap.size, 2, none⟩) zlt).trans X2
    have Y3 := (HB.cell (p := ⟨w.heap.size, 3, none⟩) zlt).trans X3
    by_cases hlt : k < n1
    · clear hri Y1 Y2 Y3
      obtain ⟨b, off, rfl, hb, hcs⟩ := pI (by omega)
      obtain ⟨x, hx⟩ := at_some hpl hlt
      obtain ⟨hcx, hcy⟩ := hcs k x hx
      have hcx' := (HB.cell (p := ⟨_, _, none⟩) hb).trans hcx
      have hcy' := (HB.cell (p := ⟨_, _, none⟩) hb).trans hcy
      have hsm := smallB_next hx
      have hmp := map_next hx
      obtain ⟨s, t⟩ := x
      dsimp only at hsm hmp hcx' hcy'
      have hltI : (k : Int) < n1 := by omega
      clear hcs pI hcx hcy
      generalize smallB (ps.take k) = G at *
      generalize ((ps.take k).map (·.1)).flatMap strE = L at *
      obtain ⟨W2, hW2⟩ : ∃ W2, (wA.alloc (.cells #[.string s, .string t] 53)).alloc (.cells #[.string s] 9) = W2 := ⟨_, rfl⟩
      have hb2 : Below wA.heap.size wA W2 := by rw [← hW2]; exact ((Below.refl _ wA).alloc (Nat.le_refl _) _).alloc (by simp) _
      have hz2 : W2.heap.size = wA.heap.size + 2 := by rw [← hW2]; simp
      have hnew : W2.heap[wA.heap.size + 1]? = some (.cells #[.string s] 9 (0, 0)) := by rw [← hW2]; exact heap_alloc2_new wA _ _
      have hold : W2.heap[wA.heap.size]? = some (.cells #[.string s, .string t] 53 (0, 0)) := by rw [← hW2]; exact heap_alloc2_old wA _ _
      have hown2 := row_below hown hb2
      go_wp2_with (at_builtin; refine wpList_append_own W2 rfl _ _ 23 rfl (w.heap.size + 1) 9 iS (.string ⟨#[]⟩) 1 16 Try.underlying23 hsi hs0 hs1 hs2 rfl (by decide) _ k L rfl hown2 ⟨wA.heap.size + 1, 0, none⟩ 1 1 [.string s] rfl rfl (new_one hnew) (by simp [Value.oneCell']) ?d1 ?d2 ?d3 ?_)
      case d1 => unfold maxLen; omega
      case d2 => omega
      case d3 => omega
      intro v3 w3 ho3 hg3 _
      have hb3 : Below (w.heap.size + 1) W2 w3 := (Below.refl _ W2).grown hg3 (by omega) (fun q hq => (World.ownsRow.lt hown2 q hq).1)
      have hb23 : Below W0.heap.size W0 w3 := HB.trans ((hb2.mono hsz).trans (by rw [z0]; exact hb3))
      have hk3 : ∀ j u, #[Value.string s, .string t][j]? = some u → w3.cell? ⟨wA.heap.size, j, none⟩ = some u := fun j u hu => by
        have hne : some wA.heap.size ≠ (Value.slice a k c).ownBlock := fun e => by
          have := (World.ownsRow.lt hown wA.heap.size e.symm).2
          omega
        rw [World.cell?_of_block (hg3.block _ (by show wA.heap.size < W2.heap.size; omega) hne), cell_of_row _ _ j _ _ (0, 0) hold]
        exact hu
      have P1 := hk3 1 _ rfl
      obtain ⟨a3', c3', rfl⟩ := row_slice ho3
      rw [← hmp] at ho3
      clear hk3 hnew hold hown hown2 hg3 hmp hW2
      by_cases h34 : t.size ≤ 34
      · have h34I : (t.size : Int) ≤ 34 := by omega
        have HS : Hid (smallB (ps.take (k + 1)) = G) := by unfold Hid; rw [hsm]; simp [h34]
        clear hsm
        cases G <;>
        · go_wp2_with fail
          go_roundw
          case rel => exact ⟨k + 1, a3', c3', by omega, by go_num, by rw [HS.out], rfl, ho3, hb23⟩
          case measure => simp [intOf]; omega
      · have h34I : ¬ (t.size : Int) ≤ 34 := by omega
        have HS : Hid (smallB (ps.take (k + 1)) = false) := by unfold Hid; rw [hsm]; simp [h34]
        clear hsm
        cases G <;>
        · go_wp2_with fail
          go_roundw
          case rel => exact ⟨k + 1, a3', c3', by omega, by go_num, by rw [HS.out], rfl, ho3, hb23⟩
          case measure => simp [intOf]; omega
    · obtain rfl : k = n1 := by omega
      have hltI : ¬ (k : Int) < k := by omega
      rw [List.take_of_length_le (by omega)] at hown ⊢
      have hri1 := hri wA a c hown
      have hBw := hB0.trans (HB.mono hB0.size)
      clear hri hown HB pI hpl
      generalize smallB ps = G at *
      cases G with
      | false =>
        replace hok : Hid (nodeE ⟨true, ps, ks, cs⟩ = 50) := by unfold Hid nodeE; rw [hok]; simp
        clear hri1
        go_wp2
        go_ret
        exact ⟨by rw [hok.out]; rfl, hBw⟩
      | true =>
        by_cases d1 : 1 ≤ k
        · have i1 : (1 : Int) ≤ k := by omega
          by_cases d2 : k ≤ 10
          · have i2 : (k : Int) ≤ 10 := by omega
            cases R with
            | false =>
              replace hok : Hid (nodeE ⟨true, ps, ks, cs⟩ = 50) := by unfold Hid nodeE; rw [hok]; simp
              go_wp2_with fail
              refine hri1.mono ?_
              clear hri1
              rintro e w1 ⟨rfl, rfl⟩
              go_wp2
              go_ret
              exact ⟨by rw [hok.out]; rfl, hBw⟩
            | true =>
              by_cases d3 : n2 = 0
              · have i3 : (n2 : Int) = 0 := by omega
                by_cases d4 : n3 = 0
                · have i4 : (n3 : Int) = 0 := by omega
                  replace hok : Hid (nodeE ⟨true, ps, ks, cs⟩ = 0) := by unfold Hid nodeE; rw [hok]; simp [d1, d2, d3, d4]
                  subst d3 d4
                  go_wp2_with fail
                  refine hri1.mono ?_
                  clear hri1
                  rintro e w1 ⟨rfl, rfl⟩
                  go_wp2
                  go_ret
                  exact ⟨by rw [hok.out]; rfl, hBw⟩
                · have i4 : ((n3 : Int) == 0) = false := by simp [d4]
                  replace hok : Hid (nodeE ⟨true, ps, ks, cs⟩ = 50) := by unfold Hid nodeE; rw [hok]; simp [d4]
                  subst d3
                  go_wp2_with fail
                  refine hri1.mono ?_
                  clear hri1
                  rintro e w1 ⟨rfl, rfl⟩
                  go_wp2
                  go_ret
                  exact ⟨by rw [hok.out]; rfl, hBw⟩
              · have i3 : ¬ (n2 : Int) = 0 := by omega
                replace hok : Hid (nodeE ⟨true, ps, ks, cs⟩ = 50) := by unfold Hid nodeE; rw [hok]; simp [d3]
                go_wp2_with fail
                refine hri1.mono ?_
                clear hri1
                rintro e w1 ⟨rfl, rfl⟩
                go_wp2
                go_ret
                exact ⟨by rw [hok.out]; rfl, hBw⟩
          · have i2 : ¬ (k : Int) ≤ 10 := by omega
            replace hok : Hid (nodeE ⟨true, ps, ks, cs⟩ = 50) := by unfold Hid nodeE; rw [hok]; simp [d2]
            clear hri1
            go_wp2
            go_ret
            exact ⟨by rw [hok.out]; rfl, hBw⟩
        · have i1 : ¬ (1 : Int) ≤ k := by omega
          replace hok : Hid (nodeE ⟨true, ps, ks, cs⟩ = 50) := by unfold Hid nodeE; rw [hok]; simp [d1]
          clear hri1
          go_wp2
          go_ret
          exact ⟨by rw [hok.out]; rfl, hBw⟩

theorem kcheck_any (w : World) (v : Value) (n : Nd) (h : NdAt w v n) (hbig : n.pairs.length ≤ 4398046511104) : Calls Try.prog 13 #[v] w fun e w' => e = .returned (.int .i64 (nodeE n)) ∧ Below w.heap.size w w' := by
  obtain ⟨a1, c1, a2, c2, a3, c3, rfl, hP, hS, hU, _⟩ := h
  obtain ⟨lf, ps, ks, cs⟩ := n
  dsimp only at *
  cases lf with
  | true =>
    obtain ⟨_, s1, s2, _⟩ := hS.open
    obtain ⟨_, u1, u2, _⟩ := hU.open
    exact kcheck_leaf w a1 a2 a3 c1 c2 c3 ps ks cs hP hbig (Nat.le_trans s1 s2) (Nat.le_trans u1 u2)
  | false => exact kcheck_inner w a1 a2 a3 c1 c2 c3 ps ks cs hS hU

end Go.Proofs.Ytanbjdcffcnfgaa
