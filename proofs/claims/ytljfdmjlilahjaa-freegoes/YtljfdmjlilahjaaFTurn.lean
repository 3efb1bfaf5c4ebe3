/- The contracts of free's release, Give, Defer. -/
import Derived.Test.YtljfdmjlilahjaaFSmall
import Derived.Deep.RegionHeld3
namespace Go.Proofs.Ytljfdmjlilahjaa
open Go.RowKit
set_option linter.unusedVariables false
set_option linter.unusedSimpArgs false
set_option maxRecDepth 4000

def turnF (s : Fr) (i : Int) (to : Nat) : Fr := if kindOfN s i = 2 then ⟨s.lo, s.ks.set (i - s.lo).toNat to⟩ else s
def turnE (s : Fr) (i : Int) : Int := if kindOfN s i = 2 then 0 else 4

set_option maxHeartbeats 2000000 in
theorem release_any {w : World} {p h : Nat} {s : Fr} (H : PAt w p h s) (hk : FrOk s) (i : Int) (to : Nat) (hto : to ≤ 3) :
    Calls Try.prog 28 #[ptr p, .int .i64 i, .int .i64 to] w fun e w' => e = .returned (.int .i64 (turnE s i)) ∧ PAt w' p h (turnF s i to) ∧ Sole [h] w w' := by
  have hl := kindOf_any H hk i
  unfold ptr at *
  unfold turnE turnF
  by_cases d : kindOfN s i = 2
  · rw [if_pos d, if_pos d]
    rw [d] at hl
    have hin : s.lo ≤ i ∧ i < s.lo + s.ks.length := by
      unfold kindOfN at d
      split at d
      · assumption
      · cases d
    obtain ⟨j, hj⟩ : ∃ j : Nat, i = s.lo + j := ⟨(i - s.lo).toNat, by omega⟩
    have hjl : j < s.ks.length := by omega
    rw [show (i - s.lo).toNat = j from by omega]
    have hm := hk.most
    have hg : ∃ k, s.ks[j]? = some k := ⟨_, List.getElem?_eq_getElem hjl⟩
    obtain ⟨k, hg⟩ := hg
    subst hj
    clear hk hin d
    obtain ⟨lo, ks⟩ := s
    dsimp only at *
    go_enter Try.func28, Try.ntmps28
    go_wp2_with fail
    refine hl.mono ?_
    clear hl
    rintro e w1 ⟨rfl, hb1⟩
    have H1 : PAt w1 p h ⟨lo, ks⟩ := FrAt.below H hb1
    obtain ⟨cap, c0, c1, h1, h2, hp, hh, hne, hc⟩ := FrAt.opened H1
    dsimp only at *
    obtain ⟨hcj, hfj⟩ := hc j k hg
    have HP : Hid (PAt (w1.setCell ⟨h, j, none⟩ (.int .i64 to)) p h ⟨lo, ks.set j to⟩) := FrAt.put H1 j to
    have q0 : ∀ W, Sole [h] w1 W → W.cell? ⟨p, 0, none⟩ = some (.int .i64 lo) := fun W hW => (World.cell?_of_block (a := ⟨p, 0, none⟩) (hW.block p hp (by simpa using hne))).trans c0
    have q1 : ∀ W, Sole [h] w1 W → W.cell? ⟨p, 1, none⟩ = some (.slice (some ⟨h, 0, none⟩) ks.length cap) := fun W hW => (World.cell?_of_block (a := ⟨p, 1, none⟩) (hW.block p hp (by simpa using hne))).trans c1
    clear hc hg H H1 c0 c1
    generalize ks.length = n at *
    have hwj : IntKind.wrap .i64 ((lo : Int) + j - lo) = (j : Int) := by simp [IntKind.wrap, IntKind.bits, IntKind.signed]; omega
    have hjI : (j : Int) < n := by omega
    go_wp2_with fail
    refine wp_region_noPanic ?_
    refine wp_region_held_drew (S := fun W => Sole [h] w1 W) (by kernel_rfl) (Sole.drew _ _) (fun hHeld => ?_)
    refine wpAnyH_take (i := 0) (v := .pointer (some ⟨p, 0, none⟩)) rfl (by kernel_rfl) (by kernel_rfl) (by kernel_rfl) (fun _ _ _ h => h) (Or.inl ⟨by rfl, fun W hSw => by (try dsimp only at hSw); go_simp⟩) (by assumption) ?_
    simp only [List.getElem_toArray, List.getElem_cons_zero, List.getElem_cons_succ, Act.put, List.setIfInBounds_toArray, List.set_cons_zero, List.set_cons_succ]
    refine wpAnyH_take (i := 1) (v := .pointer (some ⟨p, 0, none⟩)) rfl (by kernel_rfl) (by kernel_rfl) (by kernel_rfl) (fun _ _ _ h => h) (Or.inl ⟨by rfl, fun W hSw => by (try dsimp only at hSw); go_simp⟩) (by assumption) ?_
    simp only [List.getElem_toArray, List.getElem_cons_zero, List.getElem_cons_succ, Act.put, List.setIfInBounds_toArray, List.set_cons_zero, List.set_cons_succ]
    refine wpAnyH_take (i := 2) (v := .pointer (some ⟨p, 1, none⟩)) rfl (by kernel_rfl) (by kernel_rfl) (by kernel_rfl) (fun _ _ _ h => h) (Or.inl ⟨by rfl, fun W hSw => by (try dsimp only at hSw); go_simp⟩) (by assumption) ?_
    simp only [List.getElem_toArray, List.getElem_cons_zero, List.getElem_cons_succ, Act.put, List.setIfInBounds_toArray, List.set_cons_zero, List.set_cons_succ]
    refine wpAnyH_take (i := 3) (v := .slice (some ⟨h, 0, none⟩) n cap) rfl (by kernel_rfl) (by kernel_rfl) (by kernel_rfl) (fun _ _ _ h => h) (Or.inl ⟨by rfl, fun W hSw => by (try dsimp only at hSw); go_simp⟩) (by assumption) ?_
    simp only [List.getElem_toArray, List.getElem_cons_zero, List.getElem_cons_succ, Act.put, List.setIfInBounds_toArray, List.set_cons_zero, List.set_cons_succ]
    refine wpAnyH_take (i := 4) (v := .int .i64 (lo + j)) rfl (by kernel_rfl) (by kernel_rfl) (by kernel_rfl) (fun _ _ _ h => h) (Or.inl ⟨by rfl, fun W hSw => by (try dsimp only at hSw); go_simp⟩) (by assumption) ?_
    simp only [List.getElem_toArray, List.getElem_cons_zero, List.getElem_cons_succ, Act.put, List.setIfInBounds_toArray, List.set_cons_zero, List.set_cons_succ]
    refine wpAnyH_take (i := 5) (v := .pointer (some ⟨p, 0, none⟩)) rfl (by kernel_rfl) (by kernel_rfl) (by kernel_rfl) (fun _ _ _ h => h) (Or.inl ⟨by rfl, fun W hSw => by (try dsimp only at hSw); go_simp⟩) (by assumption) ?_
    simp only [List.getElem_toArray, List.getElem_cons_zero, List.getElem_cons_succ, Act.put, List.setIfInBounds_toArray, List.set_cons_zero, List.set_cons_succ]
    refine wpAnyH_take (i := 6) (v := .pointer (some ⟨p, 0, none⟩)) rfl (by kernel_rfl) (by kernel_rfl) (by kernel_rfl) (fun _ _ _ h => h) (Or.inl ⟨by rfl, fun W hSw => by (try dsimp only at hSw); go_simp⟩) (by assumption) ?_
    simp only [List.getElem_toArray, List.getElem_cons_zero, List.getElem_cons_succ, Act.put, List.setIfInBounds_toArray, List.set_cons_zero, List.set_cons_succ]
    refine wpAnyH_take (i := 7) (v := .pointer (some ⟨p, 0, none⟩)) rfl (by kernel_rfl) (by kernel_rfl) (by kernel_rfl) (fun _ _ _ h => h) (Or.inl ⟨by rfl, fun W hSw => by (try dsimp only at hSw); go_simp⟩) (by assumption) ?_
    simp only [List.getElem_toArray, List.getElem_cons_zero, List.getElem_cons_succ, Act.put, List.setIfInBounds_toArray, List.set_cons_zero, List.set_cons_succ]
    refine wpAnyH_take (i := 8) (v := .int .i64 lo) rfl (by kernel_rfl) (by kernel_rfl) (by kernel_rfl) (fun _ _ _ h => h) (Or.inl ⟨by rfl, fun W hSw => by (try dsimp only at hSw); go_simp⟩) (by assumption) ?_
    simp only [List.getElem_toArray, List.getElem_cons_zero, List.getElem_cons_succ, Act.put, List.setIfInBounds_toArray, List.set_cons_zero, List.set_cons_succ]
    refine wpAnyH_take (i := 9) (v := .int .i64 j) rfl (by kernel_rfl) (by kernel_rfl) (by kernel_rfl) (fun _ _ _ h => h) (Or.inl ⟨by rfl, fun W hSw => by (try dsimp only at hSw); (go_simp <;> rw [hwj])⟩) (by assumption) ?_
    simp only [List.getElem_toArray, List.getElem_cons_zero, List.getElem_cons_succ, Act.put, List.setIfInBounds_toArray, List.set_cons_zero, List.set_cons_succ]
    refine wpAnyH_take (i := 10) (v := .int .i64 to) rfl (by kernel_rfl) (by kernel_rfl) (by kernel_rfl) (fun _ _ _ h => h) (Or.inl ⟨by rfl, fun W hSw => by (try dsimp only at hSw); go_simp⟩) (by assumption) ?_
    simp only [List.getElem_toArray, List.getElem_cons_zero, List.getElem_cons_succ, Act.put, List.setIfInBounds_toArray, List.set_cons_zero, List.set_cons_succ]
    refine wpAnyH_take (i := 11) (v := .pointer (some ⟨h, j, none⟩)) rfl (by kernel_rfl) (by kernel_rfl) (by kernel_rfl) (fun _ _ _ h => h) (Or.inl ⟨by rfl, fun W hSw => by (try dsimp only at hSw); go_simp⟩) (by assumption) ?_
    simp only [List.getElem_toArray, List.getElem_cons_zero, List.getElem_cons_succ, Act.put, List.setIfInBounds_toArray, List.set_cons_zero, List.set_cons_succ]
    refine wpAnyH_ready (rs := [12]) (by kernel_rfl) (by simp) ?_
    refine AllReadyH.cons rfl (fun K hK => ?_) AllReadyH.nil
    go_simp
    go_wp2
    have hS2 : Sole [h] w1 (w1.drew.setCell ⟨h, j, none⟩ (.int .i64 to)) := (Sole.drew w1 [h]).trans (Sole.setCell _ _ (by simp))
    refine hK.out _ _ hS2 (fun hHeld2 => ?_)
    clear hK K
    refine wpAnyH_done (by kernel_rfl) ?_ _
    refine NoPanic.normal ?_
    clear q0 q1
    go_wp2
    go_ret
    exact ⟨rfl, FrAt.below HP.out (Below.refl _ _).drew, (Sole.of_below hb1 [h]).trans hS2⟩
  · rw [if_neg d, if_neg d]
    have d' : ¬ (kindOfN s i : Int) = 2 := by omega
    generalize kindOfN s i = K at *
    go_enter Try.func28, Try.ntmps28
    go_wp2_with fail
    refine hl.mono ?_
    rintro e w1 ⟨rfl, hb1⟩
    go_wp2
    go_ret
    exact ⟨rfl, FrAt.below H hb1, Sole.of_below hb1 [h]⟩

theorem give_any {w : World} {p h : Nat} {s : Fr} (H : PAt w p h s) (hk : FrOk s) (i : Int) :
    Calls Try.prog 13 #[ptr p, .int .i64 i] w fun e w' => e = .returned (.int .i64 (turnE s i)) ∧ PAt w' p h (turnF s i 1) ∧ Sole [h] w w' := by
  have hl := release_any H hk i 1 (by omega)
  unfold ptr at *
  generalize turnE s i = E at *
  go_enter Try.func13, Try.ntmps13
  go_wp2_with fail
  refine hl.mono ?_
  rintro e w1 ⟨rfl, h1, h2⟩
  go_wp2
  go_ret
  exact ⟨rfl, h1, h2⟩

theorem defer_any {w : World} {p h : Nat} {s : Fr} (H : PAt w p h s) (hk : FrOk s) (i : Int) :
    Calls Try.prog 15 #[ptr p, .int .i64 i] w fun e w' => e = .returned (.int .i64 (turnE s i)) ∧ PAt w' p h (turnF s i 3) ∧ Sole [h] w w' := by
  have hl := release_any H hk i 3 (by omega)
  unfold ptr at *
  generalize turnE s i = E at *
  go_enter Try.func15, Try.ntmps15
  go_wp2_with fail
  refine hl.mono ?_
  rintro e w1 ⟨rfl, h1, h2⟩
  go_wp2
  go_ret
  exact ⟨rfl, h1, h2⟩

end Go.Proofs.Ytljfdmjlilahjaa
