/- The contract of codec.Fixed. -/
import Derived.Test.YtckcdmkgmbicfaaGreatLaws
import Derived.Test.YtckcdmkgmbicfaaGreatNumMath
namespace Go.Proofs.YtckcdmkgmbicfaaGreat
open Go.RowKit
set_option linter.unusedVariables false
set_option maxRecDepth 4000

set_option maxHeartbeats 400000 in
theorem mayBe_no (w : World) (k : Int) (h : k < 1 ∨ 8 < k) : Calls Tryz.prog 125 #[.int .i64 k] w fun e w' => e = .returned (.bool false) ∧ w = w' := by
  rcases h with h | h
  · have h1 : ¬ 1 ≤ k := by omega
    go_enter Tryz.func125, Tryz.ntmps125
    go_wp2
    go_ret
    exact ⟨rfl, rfl⟩
  · have h1 : 1 ≤ k := by omega
    have h2 : ¬ k ≤ 8 := by omega
    go_enter Tryz.func125, Tryz.ntmps125
    go_wp2
    go_ret
    exact ⟨rfl, rfl⟩

set_option maxHeartbeats 400000 in
theorem mayBe_yes (w : World) (k : Int) (h1 : 1 ≤ k) (h2 : k ≤ 8) : Calls Tryz.prog 125 #[.int .i64 k] w fun e w' => e = .returned (.bool true) ∧ w = w' := by
  go_enter Tryz.func125, Tryz.ntmps125
  go_wp2
  go_ret
  exact ⟨rfl, rfl⟩

set_option maxHeartbeats 400000 in
theorem fixed_arg (w : World) (n k : Int) (h : k < 1 ∨ 8 < k) : Calls Tryz.prog 103 #[.int .u64 n, .int .i64 k] w fun e w' => e = .returned (.tuple #[.slice none 0 0, .int .i64 1]) ∧ w = w' := by
  go_enter Tryz.func103, Tryz.ntmps103
  go_wp2_with (go_at_call 125; refine (mayBe_no _ _ h).mono ?_; rintro e w' ⟨rfl, rfl⟩)
  go_ret2
  exact ⟨rfl, rfl⟩

set_option maxHeartbeats 400000 in
theorem fixed_long (w : World) (N k : Nat) (h1 : 1 ≤ k) (h2 : k ≤ 8) (hN : N < 2 ^ 64) (hl : ((N : Int) / 2 ^ (8 * k) != 0) = true) : Calls Tryz.prog 103 #[.int .u64 N, .int .i64 k] w fun e w' => e = .returned (.tuple #[.slice none 0 0, .int .i64 2]) ∧ w = w' := by
  go_enter Tryz.func103, Tryz.ntmps103
  go_wp2_with (go_at_call 125; refine (mayBe_yes _ _ (by omega) (by omega)).mono ?_; rintro e w' ⟨rfl, rfl⟩)
  go_ret2
  exact ⟨rfl, rfl⟩

set_option maxHeartbeats 400000 in
theorem fixed_fits (w : World) (N k : Nat) (h1 : 1 ≤ k) (h2 : k ≤ 8) (hN : N < 2 ^ 64) (hl : ((N : Int) / 2 ^ (8 * k) != 0) = false) : Calls Tryz.prog 103 #[.int .u64 N, .int .i64 k] w fun e w' =>
    e = .returned (.tuple #[.slice (some ⟨w.heap.size, 0, none⟩) k k, .int .i64 0]) ∧ w' = w.alloc (.cells ((fixB N k).map (Value.int .u8)).toArray 5) := by
  have hmk := make_bytes w k k rfl (by omega)
  rw [show (List.replicate k (Value.int .u8 0)).toArray = ((fixRow N k 0).map (Value.int .u8)).toArray from by rw [fixRow_zero]; simp] at hmk
  go_enter Tryz.func103, Tryz.ntmps103
  go_wp2_with (go_at_call 125; refine (mayBe_yes _ _ (by omega) (by omega)).mono ?_; rintro e w' ⟨rfl, rfl⟩)
  go_loopw [19] (fun t wr => ∃ i : Nat, i ≤ k ∧ t = .int .i64 i ∧ wr = w.alloc (.cells ((fixRow N k i).map (Value.int .u8)).toArray 5)) (fun t _ => k - (intOf t).toNat)
  case atStart => exact ⟨0, Nat.zero_le _, rfl, rfl⟩
  case round =>
    obtain ⟨i, hi, rfl, rfl⟩ := hrel
    clear hmk
    by_cases hlt : i < k
    · obtain ⟨M, hM⟩ : ∃ M, M = ((fixRow N k i).map (Value.int .u8)).toArray := ⟨_, rfl⟩
      obtain ⟨z, hz⟩ : ∃ z, M[k - 1 - i]? = some (.int .u8 z) := by
        refine ⟨(fixRow N k i)[k - 1 - i]'(by rw [fixRow_length]; omega), ?_⟩
        rw [hM, List.getElem?_toArray, List.getElem?_map, List.getElem?_eq_getElem (by rw [fixRow_length]; omega)]
        rfl
      have HS : Hid (M.setIfInBounds (k - 1 - i) (.int .u8 ((N : Int) / 2 ^ (8 * i) % 256)) = ((fixRow N k (i + 1)).map (Value.int .u8)).toArray) := by
        show _ = _
        rw [hM, ← fixRow_set N k i hlt]
        apply Array.ext'
        rw [Array.toList_setIfInBounds, List.map_set]
        simp [dig]
      rw [← hM]
      clear hM
      go_wp2
      go_roundw
      case rel => exact ⟨i + 1, by omega, by go_num, by rw [HS.out]⟩
      case measure => simp [intOf]; omega
    · obtain rfl : i = k := by omega
      go_wp2
      go_ret2
      exact ⟨rfl, by rw [fixRow_all]⟩

theorem fixed_any (w : World) (n k : Int) (h0 : 0 ≤ n) (h1 : n < 2 ^ 64) : Calls Tryz.prog 103 #[.int .u64 n, .int .i64 k] w fun e w' =>
    ∃ v, e = .returned (.tuple #[v, .int .i64 (fixE n k)]) ∧ Own w' w.heap.size v (fixL n k) ∧ Below w.heap.size w w' := by
  by_cases hk : k < 1 ∨ 8 < k
  · have e1 : fixE n k = 1 := if_pos hk
    have e2 : fixL n k = [] := by unfold fixL; rw [e1]; rfl
    rw [e1, e2]
    refine (fixed_arg w n k hk).mono ?_
    rintro e w' ⟨rfl, rfl⟩
    exact ⟨_, rfl, Own.nil _ _, Below.refl _ _⟩
  · obtain ⟨N, rfl⟩ := Int.eq_ofNat_of_zero_le h0
    obtain ⟨K, rfl⟩ := Int.eq_ofNat_of_zero_le (show 0 ≤ k by omega)
    have hN : N < 2 ^ 64 := by omega
    cases hl : ((N : Int) / 2 ^ (8 * K) != 0) with
    | true =>
      have e1 : fixE N K = 2 := by unfold fixE; rw [if_neg hk, Int.toNat_natCast, if_pos hl]
      have e2 : fixL N K = [] := by unfold fixL; rw [e1]; rfl
      rw [e1, e2]
      refine (fixed_long w N K (by omega) (by omega) hN hl).mono ?_
      rintro e w' ⟨rfl, rfl⟩
      exact ⟨_, rfl, Own.nil _ _, Below.refl _ _⟩
    | false =>
      have e1 : fixE N K = 0 := by unfold fixE; rw [if_neg hk, Int.toNat_natCast, if_neg (by rw [hl]; decide)]
      have e2 : fixL N K = fixB N K := by unfold fixL; rw [e1]; rfl
      rw [e1, e2]
      refine (fixed_fits w N K (by omega) (by omega) hN hl).mono ?_
      rintro e w' ⟨rfl, rfl⟩
      exact ⟨_, rfl, Own.laid (fixB_length N K).symm (by unfold maxLen; omega) rfl, (Below.refl _ _).alloc (Nat.le_refl _) _⟩

end Go.Proofs.YtckcdmkgmbicfaaGreat
