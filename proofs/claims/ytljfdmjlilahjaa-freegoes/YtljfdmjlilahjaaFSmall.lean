/- The contracts of free's lacks, kindOf, Is, release, Give, Defer. -/
import Derived.Test.YtljfdmjlilahjaaFBase
import Derived.BigQuiet
import Derived.Deep.QuietTactic
namespace Go.Proofs.Ytljfdmjlilahjaa
open Go.RowKit
set_option linter.unusedVariables false
set_option linter.unusedSimpArgs false
set_option maxRecDepth 4000

set_option maxHeartbeats 1000000 in
theorem lacks_any {w : World} {p h : Nat} {s : Fr} (H : PAt w p h s) (hk : FrOk s) (i : Int) : Calls Try.prog 25 #[ptr p, .int .i64 i] w fun e w' => e = .returned (.bool (lacksB s i)) ∧ Below w.heap.size w w' := by
  obtain ⟨cap, c0, c1, h1, h2, hp, hh, hne, hc⟩ := FrAt.opened H
  have hm := hk.most
  unfold ptr lacksB
  clear hc H hk
  generalize s.ks.length = n at *
  generalize s.lo = lo at *
  have hwr : IntKind.wrap .i64 ((lo : Int) + n) = (lo : Int) + n := by simp [IntKind.wrap, IntKind.bits, IntKind.signed]; omega
  by_cases d1 : i < lo
  · have e : (!decide ((lo : Int) ≤ i ∧ i < lo + n)) = true := by simp; omega
    rw [e]
    go_enter Try.func25, Try.ntmps25
    go_wp2_with fail
    go_quiet (fail)
    go_wp2
    go_ret
    exact ⟨rfl, belowQ _ _ _⟩
  · by_cases d2 : (lo : Int) + n ≤ i
    · have e : (!decide ((lo : Int) ≤ i ∧ i < lo + n)) = true := by simp; omega
      rw [e]
      go_enter Try.func25, Try.ntmps25
      go_wp2_with fail
      go_quiet (fail)
      go_wp2
      go_ret
      exact ⟨by first | rfl | (show Ending.returned (.bool (decide (i < (lo : Int)) || decide ((lo : Int) + n ≤ i))) = _; rw [decide_eq_false (show ¬ i < (lo : Int) by omega), decide_eq_false (show ¬ (lo : Int) + n ≤ i by omega)]; rfl), belowQ _ _ _⟩
    · have e : (!decide ((lo : Int) ≤ i ∧ i < lo + n)) = false := by simp; omega
      rw [e]
      go_enter Try.func25, Try.ntmps25
      go_wp2_with fail
      go_quiet (fail)
      go_wp2
      go_ret
      exact ⟨by first | rfl | (show Ending.returned (.bool (decide (i < (lo : Int)) || decide ((lo : Int) + n ≤ i))) = _; rw [decide_eq_false (show ¬ i < (lo : Int) by omega), decide_eq_false (show ¬ (lo : Int) + n ≤ i by omega)]; rfl), belowQ _ _ _⟩

set_option maxHeartbeats 1000000 in
theorem kindOf_any {w : World} {p h : Nat} {s : Fr} (H : PAt w p h s) (hk : FrOk s) (i : Int) : Calls Try.prog 26 #[ptr p, .int .i64 i] w fun e w' => e = .returned (.int .i64 (kindOfN s i)) ∧ Below w.heap.size w w' := by
  have hl := lacks_any H hk i
  obtain ⟨cap, c0, c1, h1, h2, hp, hh, hne, hc⟩ := FrAt.opened H
  have hm := hk.most
  unfold kindOfN
  unfold lacksB at hl
  unfold ptr at *
  by_cases d : s.lo ≤ i ∧ i < s.lo + s.ks.length
  · rw [if_pos d]
    rw [decide_eq_true d] at hl
    obtain ⟨j, hj⟩ : ∃ j : Nat, i = s.lo + j := ⟨(i - s.lo).toNat, by omega⟩
    have hjl : j < s.ks.length := by omega
    have hg : s.ks[j]? = some (s.ks.getD (i - s.lo).toNat 0) := by
      rw [show (i - s.lo).toNat = j from by omega, List.getElem?_eq_getElem hjl, List.getD_eq_getElem?_getD, List.getElem?_eq_getElem hjl]; rfl
    have hcj := (hc j _ hg).1
    generalize s.ks.getD (i - s.lo).toNat 0 = K at *
    clear hc hg H hk
    subst hj
    generalize s.ks.length = n at *
    generalize s.lo = lo at *
    have hij : ((lo : Int) + j - lo) = (j : Int) := by omega
    have hjI : (j : Int) < n := by omega
    go_enter Try.func26, Try.ntmps26
    go_wp2_with fail
    refine hl.mono ?_
    rintro e w1 ⟨rfl, hb1⟩
    have x0 := (hb1.cell (p := ⟨p, 0, none⟩) hp).trans c0
    have x1 := (hb1.cell (p := ⟨p, 1, none⟩) hp).trans c1
    have xj := (hb1.cell (p := ⟨h, j, none⟩) hh).trans hcj
    clear c0 c1 hcj hl
    go_wp2_with fail
    go_quiet (fail)
    go_wp2
    go_ret
    exact ⟨rfl, hb1.trans (belowQ _ _ _)⟩
  · rw [if_neg d]
    rw [decide_eq_false d] at hl
    clear hc c0 c1 H hk d
    go_enter Try.func26, Try.ntmps26
    go_wp2_with fail
    refine hl.mono ?_
    rintro e w1 ⟨rfl, hb1⟩
    go_wp2
    go_ret
    exact ⟨rfl, hb1⟩

theorem is_any {w : World} {p h : Nat} {s : Fr} (H : PAt w p h s) (hk : FrOk s) (i : Int) : Calls Try.prog 31 #[ptr p, .int .i64 i] w fun e w' => e = .returned (.int .i64 (kindOfN s i)) ∧ Below w.heap.size w w' := by
  have hl := kindOf_any H hk i
  have hb : kindOfN s i ≤ 3 := by
    unfold kindOfN
    split
    · rename_i d
      have hj : (i - s.lo).toNat < s.ks.length := by omega
      rw [List.getD_eq_getElem?_getD, List.getElem?_eq_getElem hj]
      exact (hk.kinds _ (List.getElem_mem hj)).2
    · omega
  unfold ptr at *
  generalize kindOfN s i = K at *
  go_enter Try.func31, Try.ntmps31
  go_wp2_with fail
  refine hl.mono ?_
  rintro e w1 ⟨rfl, hb1⟩
  go_wp2
  go_ret
  exact ⟨rfl, hb1⟩

end Go.Proofs.Ytljfdmjlilahjaa
