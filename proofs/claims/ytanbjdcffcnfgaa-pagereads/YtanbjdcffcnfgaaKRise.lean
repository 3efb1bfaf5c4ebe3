/- The contracts of the document's rising and Child. -/
import Derived.Test.YtanbjdcffcnfgaaQRise
import Derived.Test.YtanbjdcffcnfgaaQSame
namespace Go.Proofs.Ytanbjdcffcnfgaa
open Go.RowKit
set_option linter.unusedVariables false
set_option linter.unusedSimpArgs false
set_option maxRecDepth 4000

theorem lastS_take {l : List ByteArray} {k : Nat} {p : ByteArray} (h : l[k]? = some p) : lastS (l.take (k + 1)) = p := by
  rw [take_next h]; exact lastS_snoc _ _

set_option maxHeartbeats 2000000 in
theorem krising_any (w : World) (a : Option Addr) (n cap : Nat) (l : List ByteArray) (h : RdS w (.slice a n cap) l) :
    Calls Try.prog 34 #[.slice a n cap] w fun e w' => e = .returned (.bool (risingB l)) ∧ w' = w := by
  obtain ⟨hl, hnc, hm, hI⟩ := h.open
  unfold maxLen at hm
  clear h
  go_enter Try.func34, Try.ntmps34
  go_wp2
  go_loop [3, 4, 7] (fun i s t => ∃ k : Nat, k ≤ n ∧ t = .int .i64 k ∧ Hid (risingB (l.take k) = true)) (fun _ _ t => n - (intOf t).toNat)
  case atStart => exact ⟨0, Nat.zero_le _, rfl, rfl⟩
  case round =>
    obtain ⟨k, hk, rfl, hr⟩ := hrel
    by_cases hlt : k < n
    · obtain ⟨b, off, rfl, hb, hcs⟩ := hI (by omega)
      obtain ⟨s, hs⟩ := at_some hl hlt
      have hcx := hcs k s hs
      have hsn := ris_snoc (l.take k) s hr.out
      rw [← take_next hs] at hsn
      have hltI : (k : Int) < n := by omega
      by_cases h14 : s.size = 14
      · have h14I : (s.size : Int) = 14 := by omega
        by_cases hz : k = 0
        · have hyes : Hid (risingB (l.take (k + 1)) = true) := by
            unfold Hid
            rw [hsn]; subst hz; simp [h14, lastS, less_empty h14]
          have hz' : ¬ (0 : Int) < k := by omega
          clear hsn hcs hI hz
          go_wp2
          go_round
          case rel => exact ⟨k + 1, by omega, by go_num, hyes⟩
          case measure => simp [intOf]; omega
        · have hz' : (0 : Int) < k := by omega
          obtain ⟨D, rfl⟩ : ∃ D, k = D + 1 := ⟨k - 1, by omega⟩
          obtain ⟨p, hp⟩ := at_some hl (show D < n by omega)
          have hcp := hcs D p hp
          rw [lastS_take hp] at hsn
          have hm1 : (((D + 1 : Nat) : Int) - 1) = (D : Int) := by omega
          clear hcs hI hz
          rcases le_three s p with ⟨q1, hu⟩ | ⟨he, q1, hu⟩ | ⟨q1, q2, hu⟩
          · have q3 : Op.bytesLess p.toList s.toList = false := by unfold upTo lessS at hu; simpa using hu
            have hno : Hid (risingB l = false) := ris_take_no l (D + 1 + 1) (by rw [hsn]; unfold lessS; rw [q3]; simp)
            clear hsn hu
            go_wp2
            go_ret
            exact ⟨by rw [hno.out]; rfl, rfl⟩
          · have hno : Hid (risingB l = false) := ris_take_no l (D + 1 + 1) (by rw [hsn]; unfold upTo at hu; simp at hu; rw [hu]; simp)
            clear hsn hu
            subst he
            go_wp2
            go_ret
            exact ⟨by rw [hno.out]; rfl, rfl⟩
          · have q3 : Op.bytesLess p.toList s.toList = true := by unfold upTo lessS at hu; simpa using hu
            have q4 : (p.toList == s.toList) = false := by
              cases hx : (p.toList == s.toList) with
              | false => rfl
              | true => rw [eq_of_beq hx] at q2; simp at q2
            have hyes : Hid (risingB (l.take (D + 1 + 1)) = true) := by
              unfold Hid
              rw [hsn]; unfold lessS; rw [q3]; simp [h14]
            clear hsn hu
            go_wp2
            go_round
            case rel => exact ⟨D + 1 + 1, by omega, by go_num, hyes⟩
            case measure => simp [intOf]; omega
      · have h14I : ¬ (s.size : Int) = 14 := by omega
        have hno : Hid (risingB l = false) := ris_take_no l (k + 1) (by rw [hsn]; simp [h14])
        clear hsn hcs hI
        go_wp2
        go_ret
        exact ⟨by rw [hno.out]; rfl, rfl⟩
    · obtain rfl : k = n := by omega
      have hyes : Hid (risingB l = true) := by have := hr.out; rwa [List.take_of_length_le (by omega)] at this
      have hltI : ¬ (k : Int) < k := by omega
      go_wp2
      go_ret
      exact ⟨by rw [hyes.out]; rfl, rfl⟩

set_option maxHeartbeats 2000000 in
theorem kchild_any (w : World) (v : Value) (n : Nd) (k : ByteArray) (h : NdAt w v n) : Calls Try.prog 15 #[v, .string k] w fun e w' => e = .returned (.int .i64 (childN n k)) ∧ Below w.heap.size w w' := by
  obtain ⟨a1, c1, a2, c2, a3, c3, rfl, hP, hS, hU, hb⟩ := h
  have hB0 := (Below.refl w.heap.size w).alloc (Nat.le_refl _) (.cells #[.bool n.leaf, .slice a1 n.pairs.length c1, .slice a2 n.keys.length c2, .slice a3 n.kids.length c3] 26)
  have hg := heap_alloc_new w (.cells #[.bool n.leaf, .slice a1 n.pairs.length c1, .slice a2 n.keys.length c2, .slice a3 n.kids.length c3] 26)
  obtain ⟨_, hnc, hm, hI⟩ := RdS.open (RdE.below hS hB0)
  unfold maxLen at hm
  obtain ⟨lf, ps, ks, cs⟩ := n
  dsimp only at *
  have hl : ks.length = ks.length := rfl
  generalize hn2 : ks.length = n2 at *
  replace hl := hn2
  generalize ps.length = n1 at *
  generalize cs.length = n3 at *
  clear hP hS hU hb
  go_enter Try.func15, Try.ntmps15
  go_wp2
  generalize w.alloc (.cells #[.bool lf, .slice a1 n1 c1, .slice a2 n2 c2, .slice a3 n3 c3] 26) = W0 at *
  obtain ⟨X0, X1, X2, X3, _⟩ := box4' hg
  clear hg hn2
  go_loop [5, 7, 11] (fun c x i => ∃ j : Nat, j ≤ n2 ∧ i = .int .i64 j ∧ c = .int .i64 (childN ⟨lf, ps, ks.take j, cs⟩ k)) (fun _ _ i => n2 - (intOf i).toNat)
  case atStart => exact ⟨0, Nat.zero_le _, rfl, by unfold childN; cases lf <;> rfl⟩
  case round =>
    obtain ⟨j, hj, rfl, rfl⟩ := hrel
    by_cases hlt : j < n2
    · obtain ⟨b, off, rfl, hb, hcs⟩ := hI (by omega)
      obtain ⟨s, hs⟩ := at_some hl hlt
      have hcx := hcs j s hs
      have hT := take_next hs
      have hltI : (j : Int) < n2 := by omega
      clear hcs hI
      cases lf with
      | true =>
        have HC : Hid (childN ⟨true, ps, ks.take (j + 1), cs⟩ k = childN ⟨true, ps, ks.take j, cs⟩ k) := rfl
        generalize childN ⟨true, ps, ks.take j, cs⟩ k = C at *
        clear hT
        go_wp2
        go_round
        case rel => exact ⟨j + 1, by omega, by go_num, by rw [HC.out]⟩
        case measure => simp [intOf]; omega
      | false =>
        have hcle : childN ⟨false, ps, ks.take j, cs⟩ k ≤ j := Nat.le_trans List.countP_le_length (by rw [List.length_take]; omega)
        have HD : childN ⟨false, ps, ks.take (j + 1), cs⟩ k = childN ⟨false, ps, ks.take j, cs⟩ k + (if upTo k s = true then 1 else 0) := by
          show (ks.take (j + 1)).countP (upTo k) = (ks.take j).countP (upTo k) + _
          rw [hT, List.countP_append]
          cases hu : upTo k s <;> simp [hu]
        clear hT
        rcases le_three s k with ⟨h1, hu⟩ | ⟨he, h1, hu⟩ | ⟨h1, h2, hu⟩
        · have HC : Hid (childN ⟨false, ps, ks.take (j + 1), cs⟩ k = childN ⟨false, ps, ks.take j, cs⟩ k + 1) := by unfold Hid; rw [HD, hu]; rfl
          generalize childN ⟨false, ps, ks.take j, cs⟩ k = C at *
          clear hu HD
          go_wp2
          go_round
          case rel => exact ⟨j + 1, by omega, by go_num, by rw [HC.out]; go_num⟩
          case measure => simp [intOf]; omega
        · have HC : Hid (childN ⟨false, ps, ks.take (j + 1), cs⟩ k = childN ⟨false, ps, ks.take j, cs⟩ k + 1) := by unfold Hid; rw [HD, hu]; rfl
          generalize childN ⟨false, ps, ks.take j, cs⟩ k = C at *
          clear hu HD
          subst he
          go_wp2
          go_round
          case rel => exact ⟨j + 1, by omega, by go_num, by rw [HC.out]; go_num⟩
          case measure => simp [intOf]; omega
        · have HC : Hid (childN ⟨false, ps, ks.take (j + 1), cs⟩ k = childN ⟨false, ps, ks.take j, cs⟩ k) := by unfold Hid; rw [HD, hu]; rfl
          generalize childN ⟨false, ps, ks.take j, cs⟩ k = C at *
          clear hu HD
          go_wp2
          go_round
          case rel => exact ⟨j + 1, by omega, by go_num, by rw [HC.out]⟩
          case measure => simp [intOf]; omega
    · obtain rfl : j = n2 := by omega
      have HC : Hid (childN ⟨lf, ps, ks.take j, cs⟩ k = childN ⟨lf, ps, ks, cs⟩ k) := by unfold Hid; rw [List.take_of_length_le (by omega)]
      generalize childN ⟨lf, ps, ks.take j, cs⟩ k = C at *
      have hltI : ¬ (j : Int) < j := by omega
      go_wp2
      go_ret
      exact ⟨by rw [HC.out]; rfl, hB0⟩

end Go.Proofs.Ytanbjdcffcnfgaa
