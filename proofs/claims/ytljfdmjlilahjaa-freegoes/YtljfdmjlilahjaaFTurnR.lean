/- The contracts of the document's Is and Turn. -/
import Derived.Test.YtljfdmjlilahjaaFAll
import Derived.Test.YtljfdmjlilahjaaFTurn
namespace Go.Proofs.Ytljfdmjlilahjaa
open Go.RowKit
set_option linter.unusedVariables false
set_option linter.unusedSimpArgs false
set_option maxRecDepth 4000

set_option maxHeartbeats 2000000 in
theorem ris_any {w : World} {p h : Nat} {s : Fr} (H : RAt w p h s) (hk : FrOk s) (i : Int) (hi : i ≤ 9223372036854775807) (k : Nat) (hk1 : 1 ≤ k) : Calls Try.prog 29 #[ptr p, .int .i64 i, .int .i64 ((k : Int) - 1)] w fun e w' => e = .returned (.bool (decide (kindOfN s i = k))) ∧ Below w.heap.size w w' := by
  obtain ⟨cap, c0, c1, h1, h2, hp, hh, hne, hc⟩ := FrAt.opened H
  have hm := hk.most
  unfold ptr kindOfN
  by_cases d : s.lo ≤ i ∧ i < s.lo + s.ks.length
  · rw [if_pos d]
    obtain ⟨j, hj⟩ : ∃ j : Nat, i = s.lo + j := ⟨(i - s.lo).toNat, by omega⟩
    have hjl : j < s.ks.length := by omega
    have hg : s.ks[j]? = some (s.ks.getD (i - s.lo).toNat 0) := by
      rw [show (i - s.lo).toNat = j from by omega, List.getElem?_eq_getElem hjl, List.getD_eq_getElem?_getD, List.getElem?_eq_getElem hjl]; rfl
    have hcj := (hc j _ hg).1
    generalize s.ks.getD (i - s.lo).toNat 0 = K at *
    clear hc hg H hk d
    subst hj
    generalize s.ks.length = n at *
    generalize s.lo = lo at *
    have hwj : IntKind.wrap .i64 ((lo : Int) + j - lo) = (j : Int) := by simp [IntKind.wrap, IntKind.bits, IntKind.signed]; omega
    have hjI : (j : Int) < n := by omega
    have hge : (lo : Int) ≤ (lo : Int) + j := by omega
    by_cases hK : K = k
    · have hK' : (((K : Int) - 1) == (k : Int) - 1) = true := by rw [hK]; exact beq_self_eq_true _
      rw [decide_eq_true hK]
      clear hK
      go_enter Try.func29, Try.ntmps29
      go_wp2_with fail
      go_quiet (fail)
      go_wp2
      go_ret
      exact ⟨rfl, belowQ _ _ _⟩
    · have hK' : (((K : Int) - 1) == (k : Int) - 1) = false := by simp; omega
      rw [decide_eq_false hK]
      clear hK
      go_enter Try.func29, Try.ntmps29
      go_wp2_with fail
      go_quiet (fail)
      go_wp2
      go_ret
      exact ⟨rfl, belowQ _ _ _⟩
  · rw [if_neg d, decide_eq_false (show ¬ (0 : Nat) = k by omega)]
    clear hc H hk
    generalize s.ks.length = n at *
    generalize s.lo = lo at *
    by_cases d1 : (lo : Int) ≤ i
    · have d2 : decide (i - lo < (n : Int)) = false := decide_eq_false (by omega)
      have d3 : decide ((lo : Int) ≤ i) = true := decide_eq_true d1
      have hwj : IntKind.wrap .i64 (i - lo) = i - lo := by simp [IntKind.wrap, IntKind.bits, IntKind.signed]; omega
      clear d
      go_enter Try.func29, Try.ntmps29
      go_wp2_with fail
      go_quiet (fail)
      go_wp2
      go_ret
      exact ⟨rfl, belowQ _ _ _⟩
    · have d3 : decide ((lo : Int) ≤ i) = false := decide_eq_false d1
      clear d d1
      go_enter Try.func29, Try.ntmps29
      go_wp2_with fail
      go_quiet (fail)
      go_wp2
      go_ret
      exact ⟨rfl, belowQ _ _ _⟩

set_option maxHeartbeats 2000000 in
theorem rturn_any {w : World} {p h : Nat} {s : Fr} (H : RAt w p h s) (hk : FrOk s) (i : Int) (hi : i ≤ 9223372036854775807) (to : Nat) (ht1 : 1 ≤ to) (hto : to ≤ 3) :
    Calls Try.prog 14 #[ptr p, .int .i64 i, .int .i64 ((to : Int) - 1)] w fun e w' => e = .returned (.int .i64 (turnE s i)) ∧ RAt w' p h (turnF s i to) ∧ Sole [h] w w' := by
  have hl := ris_any H hk i hi 2 (by omega)
  unfold ptr at *
  unfold turnE turnF
  by_cases d : kindOfN s i = 2
  · rw [if_pos d, if_pos d]
    rw [decide_eq_true d] at hl
    have hin : s.lo ≤ i ∧ i < s.lo + s.ks.length := by
      unfold kindOfN at d
      split at d
      · assumption
      · cases d
    obtain ⟨j, hj⟩ : ∃ j : Nat, i = s.lo + j := ⟨(i - s.lo).toNat, by omega⟩
    have hjl : j < s.ks.length := by omega
    rw [show (i - s.lo).toNat = j from by omega]
    have hm := hk.most
    have hg : ∃ k, s.ks[j]? = some k := ⟨_, List.getElem?_eq_getElem hjl⟩
    obtain ⟨k, hg⟩ := hg
    subst hj
    clear hk hin d
    obtain ⟨lo, ks⟩ := s
    dsimp only at *
    go_enter Try.func14, Try.ntmps14
    go_wp2_with fail
    refine hl.mono ?_
    clear hl
    rintro e w1 ⟨rfl, hb1⟩
    have H1 : RAt w1 p h ⟨lo, ks⟩ := FrAt.below H hb1
    obtain ⟨cap, c0, c1, h1, h2, hp, hh, hne, hc⟩ := FrAt.opened H1
    dsimp only at *
    obtain ⟨hcj, hfj⟩ := hc j k hg
    have HP : Hid (RAt (w1.setCell ⟨h, j, none⟩ (.int .i64 ((to : Int) - 1))) p h ⟨lo, ks.set j to⟩) := FrAt.put H1 j to
    have q0 : ∀ W, Sole [h] w1 W → W.cell? ⟨p, 0, none⟩ = some (.int .i64 lo) := fun W hW => (World.cell?_of_block (a := ⟨p, 0, none⟩) (hW.block p hp (by simpa using hne))).trans c0
    have q1 : ∀ W, Sole [h] w1 W → W.cell? ⟨p, 1, none⟩ = some (.slice (some ⟨h, 0, none⟩) ks.length cap) := fun W hW => (World.cell?_of_block (a := ⟨p, 1, none⟩) (hW.block p hp (by simpa using hne))).trans c1
    clear hc hg H H1 c0 c1
    generalize ks.length = n at *
    have hwj : IntKind.wrap .i64 ((lo : Int) + j - lo) = (j : Int) := by simp [IntKind.wrap, IntKind.bits, IntKind.signed]; omega
    have hjI : (j : Int) < n := by omega
    go_wp2_with fail
    refine wp_region_noPanic ?_
    refine wp_region_held_drew (S := fun W => Sole [h] w1 W) (by kernel_rfl) (Sole.drew _ _) (fun hHeld => ?_)
    refine wpAnyH_take (i := 0) (v := .pointer (some ⟨p, 0, none⟩)) rfl (by kernel_rfl) (by kernel_rfl) (by kernel_rfl) (fun _ _ _ h => h) (Or.inl ⟨by rfl, fun W hSw => by (try dsimp only at hSw); go_simp⟩) (by assumption) ?_
    simp only [List.getElem_toArray, List.getElem_cons_zero, List.getElem_cons_succ, Act.put, List.setIfInBounds_toArray, List.set_cons_zero, List.set_cons_succ]
    refine wpAnyH_take (i := 1) (v := .pointer (some ⟨p, 0, none⟩)) rfl (by kernel_rfl) (by kernel_rfl) (by kernel_rfl) (fun _ _ _ h => h) (Or.inl ⟨by rfl, fun W hSw => by (try dsimp only at hSw); go_simp⟩) (by assumption) ?_
    simp only [List.getElem_toArray, List.getElem_cons_zero, List.getElem_cons_succ, Act.put, List.setIfInBounds_toArray, List.set_cons_zero, List.set_cons_succ]
    refine wpAnyH_take (i := 2) (v := .pointer (some ⟨p, 1, none⟩)) rfl (by kernel_rfl) (by kernel_rfl) (by kernel_rfl) (fun _ _ _ h => h) (Or.inl ⟨by rfl, fun W hSw => by (try dsimp only at hSw); go_simp⟩) (by assumption) ?_
    simp only [List.getElem_toArray, List.getElem_cons_zero, List.getElem_cons_succ, Act.put, List.setIfInBounds_toArray, List.set_cons_zero, List.set_cons_succ]
    refine wpAnyH_take (i := 3) (v := .slice (some ⟨h, 0, none⟩) n cap) rfl (by kernel_rfl) (by kernel_rfl) (by kernel_rfl) (fun _ _ _ h => h) (Or.inl ⟨by rfl, fun W hSw => by (try dsimp only at hSw); go_simp⟩) (by assumption) ?_
    simp only [List.getElem_toArray, List.getElem_cons_zero, List.getElem_cons_succ, Act.put, List.setIfInBounds_toArray, List.set_cons_zero, List.set_cons_succ]
    refine wpAnyH_take (i := 4) (v := .int .i64 (lo + j)) rfl (by kernel_rfl) (by kernel_rfl) (by kernel_rfl) (fun _ _ _ h => h) (Or.inl ⟨by rfl, fun W hSw => by (try dsimp only at hSw); go_simp⟩) (by assumption) ?_
    simp only [List.getElem_toArray, List.getElem_cons_zero, List.getElem_cons_succ, Act.put, List.setIfInBounds_toArray, List.set_cons_zero, List.set_cons_succ]
    refine wpAnyH_take (i := 5) (v := .pointer (some ⟨p, 0, none⟩)) rfl (by kernel_rfl) (by kernel_rfl) (by kernel_rfl) (fun _ _ _ h => h) (Or.inl ⟨by rfl, fun W hSw => by (try dsimp only at hSw); go_simp⟩) (by assumption) ?_
    simp only [List.getElem_toArray, List.getElem_cons_zero, List.getElem_cons_succ, Act.put, List.setIfInBounds_toArray, List.set_cons_zero, List.set_cons_succ]
    refine wpAnyH_take (i := 6) (v := .pointer (some ⟨p, 0, none⟩)) rfl (by kernel_rfl) (by kernel_rfl) (by kernel_rfl) (fun _ _ _ h => h) (Or.inl ⟨by rfl, fun W hSw => by (try dsimp only at hSw); go_simp⟩) (by assumption) ?_
    simp only [List.getElem_toArray, List.getElem_cons_zero, List.getElem_cons_succ, Act.put, List.setIfInBounds_toArray, List.set_cons_zero, List.set_cons_succ]
    refine wpAnyH_take (i := 7) (v := .pointer (some ⟨p, 0, none⟩)) rfl (by kernel_rfl) (by kernel_rfl) (by kernel_rfl) (fun _ _ _ h => h) (Or.inl ⟨by rfl, fun W hSw => by (try dsimp only at hSw); go_simp⟩) (by assumption) ?_
    simp only [List.getElem_toArray, List.getElem_cons_zero, List.getElem_cons_succ, Act.put, List.setIfInBounds_toArray, List.set_cons_zero, List.set_cons_succ]
    refine wpAnyH_take (i := 8) (v := .int .i64 lo) rfl (by kernel_rfl) (by kernel_rfl) (by kernel_rfl) (fun _ _ _ h => h) (Or.inl ⟨by rfl, fun W hSw => by (try dsimp only at hSw); go_simp⟩) (by assumption) ?_
    simp only [List.getElem_toArray, List.getElem_cons_zero, List.getElem_cons_succ, Act.put, List.setIfInBounds_toArray, List.set_cons_zero, List.set_cons_succ]
    refine wpAnyH_take (i := 9) (v := .int .i64 j) rfl (by kernel_rfl) (by kernel_rfl) (by kernel_rfl) (fun _ _ _ h => h) (Or.inl ⟨by rfl, fun W hSw => by (try dsimp only at hSw); (go_simp <;> rw [hwj])⟩) (by assumption) ?_
    simp only [List.getElem_toArray, List.getElem_cons_zero, List.getElem_cons_succ, Act.put, List.setIfInBounds_toArray, List.set_cons_zero, List.set_cons_succ]
    refine wpAnyH_take (i := 10) (v := .int .i64 ((to : Int) - 1)) rfl (by kernel_rfl) (by kernel_rfl) (by kernel_rfl) (fun _ _ _ h => h) (Or.inl ⟨by rfl, fun W hSw => by (try dsimp only at hSw); go_simp⟩) (by assumption) ?_
    simp only [List.getElem_toArray, List.getElem_cons_zero, List.getElem_cons_succ, Act.put, List.setIfInBounds_toArray, List.set_cons_zero, List.set_cons_succ]
    refine wpAnyH_take (i := 11) (v := .pointer (some ⟨h, j, none⟩)) rfl (by kernel_rfl) (by kernel_rfl) (by kernel_rfl) (fun _ _ _ h => h) (Or.inl ⟨by rfl, fun W hSw => by (try dsimp only at hSw); go_simp⟩) (by assumption) ?_
    simp only [List.getElem_toArray, List.getElem_cons_zero, List.getElem_cons_succ, Act.put, List.setIfInBounds_toArray, List.set_cons_zero, List.set_cons_succ]
    refine wpAnyH_ready (rs := [12]) (by kernel_rfl) (by simp) ?_
    refine AllReadyH.cons rfl (fun K hK => ?_) AllReadyH.nil
    go_simp
    go_wp2
    have hS2 : Sole [h] w1 (w1.drew.setCell ⟨h, j, none⟩ (.int .i64 ((to : Int) - 1))) := (Sole.drew w1 [h]).trans (Sole.setCell _ _ (by simp))
    refine hK.out _ _ hS2 (fun hHeld2 => ?_)
    clear hK K
    refine wpAnyH_done (by kernel_rfl) ?_ _
    refine NoPanic.normal ?_
    clear q0 q1
    go_wp2
    go_ret
    exact ⟨rfl, FrAt.below HP.out (Below.refl _ _).drew, (Sole.of_below hb1 [h]).trans hS2⟩
  · rw [if_neg d, if_neg d]
    rw [decide_eq_false d] at hl
    go_enter Try.func14, Try.ntmps14
    go_wp2_with fail
    refine hl.mono ?_
    rintro e w1 ⟨rfl, hb1⟩
    go_wp2
    go_ret
    exact ⟨rfl, FrAt.below H hb1, Sole.of_below hb1 [h]⟩

end Go.Proofs.Ytljfdmjlilahjaa
