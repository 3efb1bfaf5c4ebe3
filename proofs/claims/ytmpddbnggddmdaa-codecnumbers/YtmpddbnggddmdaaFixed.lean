/- The contracts of codec.Fixed: a number in so many bytes, or ErrArg, or ErrLong. -/
import Derived.Test.YtmpddbnggddmdaaAppend
namespace Go.Proofs.Ytmpddbnggddmdaa
open Go.RowKit
set_option linter.unusedVariables false

/-- The byte number j of a number, from the lowest one on. -/
def dig (N j : Nat) : Nat := N / 2 ^ (8 * j) % 256
/-- A number in k bytes, the highest one first. -/
def fixB (N k : Nat) : List Int := (List.range k).map fun p => (dig N (k - 1 - p) : Int)
/-- The row while it is filled from behind: the last i bytes stand. -/
def fixRow (N k i : Nat) : List Int := (List.range k).map fun p => if k ≤ p + i then (dig N (k - 1 - p) : Int) else 0

theorem fixB_length (N k : Nat) : (fixB N k).length = k := by simp [fixB]
theorem fixRow_length (N k i : Nat) : (fixRow N k i).length = k := by simp [fixRow]
theorem fixRow_zero (N k : Nat) : fixRow N k 0 = List.replicate k 0 := by
  apply List.ext_getElem
  · simp [fixRow]
  · intro p h1 h2
    simp [fixRow] at h1 ⊢
    omega
theorem fixRow_all (N k : Nat) : fixRow N k k = fixB N k := by
  apply List.ext_getElem
  · simp [fixRow, fixB]
  · intro p h1 h2
    simp [fixRow, fixB]
theorem fixRow_set (N k i : Nat) (hi : i < k) : (fixRow N k i).set (k - 1 - i) (dig N i : Int) = fixRow N k (i + 1) := by
  apply List.ext_getElem
  · simp [fixRow]
  · intro p h1 h2
    simp only [fixRow, List.length_set, List.length_map, List.length_range] at h1
    simp only [fixRow, List.getElem_set, List.getElem_map, List.getElem_range]
    by_cases hp : k - 1 - i = p
    · subst hp
      rw [if_pos rfl, if_pos (by omega), show k - 1 - (k - 1 - i) = i from by omega]
    · rw [if_neg hp]
      by_cases hq : k ≤ p + i
      · rw [if_pos hq, if_pos (by omega)]
      · rw [if_neg hq, if_neg (by omega)]
theorem dig_lt (N j : Nat) : dig N j < 256 := Nat.mod_lt _ (by decide)
theorem fixB_byt (N k : Nat) : Byt (fixB N k) := by
  intro x hx
  simp only [fixB, List.mem_map] at hx
  obtain ⟨p, _, rfl⟩ := hx
  have := dig_lt N (k - 1 - p)
  omega

set_option maxHeartbeats 400000 in
theorem mayBe_no (w : World) (k : Int) (h : k < 1 ∨ 8 < k) : Calls Try.prog 26 #[.int .i64 k] w fun e w' => e = .returned (.bool false) ∧ w = w' := by
  rcases h with h | h
  · have h1 : ¬ 1 ≤ k := by omega
    go_enter Try.func26, Try.ntmps26
    go_wp2
    go_ret
    exact ⟨rfl, rfl⟩
  · have h1 : 1 ≤ k := by omega
    have h2 : ¬ k ≤ 8 := by omega
    go_enter Try.func26, Try.ntmps26
    go_wp2
    go_ret
    exact ⟨rfl, rfl⟩
set_option maxHeartbeats 400000 in
theorem mayBe_yes (w : World) (k : Int) (h1 : 1 ≤ k) (h2 : k ≤ 8) : Calls Try.prog 26 #[.int .i64 k] w fun e w' => e = .returned (.bool true) ∧ w = w' := by
  go_enter Try.func26, Try.ntmps26
  go_wp2
  go_ret
  exact ⟨rfl, rfl⟩
set_option maxHeartbeats 400000 in
theorem fixed_arg (w : World) (n k : Int) (h : k < 1 ∨ 8 < k) : Calls Try.prog 10 #[.int .u64 n, .int .i64 k] w fun e w' => e = .returned (.tuple #[.slice none 0 0, .int .i64 1]) ∧ w = w' := by
  go_enter Try.func10, Try.ntmps10
  go_wp2_with (go_at_call 26; refine (mayBe_no _ _ h).mono ?_; rintro e w' ⟨rfl, rfl⟩)
  go_ret2
  exact ⟨rfl, rfl⟩
set_option maxHeartbeats 400000 in
theorem fixed_long (w : World) (N k : Nat) (h1 : 1 ≤ k) (h2 : k ≤ 8) (hN : N < 2 ^ 64) (hl : ((N : Int) / 2 ^ (8 * k) != 0) = true) : Calls Try.prog 10 #[.int .u64 N, .int .i64 k] w fun e w' => e = .returned (.tuple #[.slice none 0 0, .int .i64 2]) ∧ w = w' := by
  go_enter Try.func10, Try.ntmps10
  go_wp2_with (go_at_call 26; refine (mayBe_yes _ _ (by omega) (by omega)).mono ?_; rintro e w' ⟨rfl, rfl⟩)
  go_ret2
  exact ⟨rfl, rfl⟩
set_option maxHeartbeats 400000 in
theorem fixed_fits (w : World) (N k : Nat) (h1 : 1 ≤ k) (h2 : k ≤ 8) (hN : N < 2 ^ 64) (hl : ((N : Int) / 2 ^ (8 * k) != 0) = false) : Calls Try.prog 10 #[.int .u64 N, .int .i64 k] w fun e w' =>
    e = .returned (.tuple #[.slice (some ⟨w.heap.size, 0, none⟩) k k, .int .i64 0]) ∧ w' = w.alloc (.cells ((fixB N k).map (Value.int .u8)).toArray 5) := by
  have hmk := make_bytes w k k rfl (by omega)
  rw [show (List.replicate k (Value.int .u8 0)).toArray = ((fixRow N k 0).map (Value.int .u8)).toArray from by rw [fixRow_zero]; simp] at hmk
  go_enter Try.func10, Try.ntmps10
  go_wp2_with (go_at_call 26; refine (mayBe_yes _ _ (by omega) (by omega)).mono ?_; rintro e w' ⟨rfl, rfl⟩)
  go_loopw [19] (fun t wr => ∃ i : Nat, i ≤ k ∧ t = .int .i64 i ∧ wr = w.alloc (.cells ((fixRow N k i).map (Value.int .u8)).toArray 5)) (fun t _ => k - (intOf t).toNat)
  case atStart => exact ⟨0, Nat.zero_le _, rfl, rfl⟩
  case round =>
    obtain ⟨i, hi, rfl, rfl⟩ := hrel
    clear hmk
    by_cases hlt : i < k
    · obtain ⟨M, hM⟩ : ∃ M, M = ((fixRow N k i).map (Value.int .u8)).toArray := ⟨_, rfl⟩
      obtain ⟨z, hz⟩ : ∃ z, M[k - 1 - i]? = some (.int .u8 z) := by
        refine ⟨(fixRow N k i)[k - 1 - i]'(by rw [fixRow_length]; omega), ?_⟩
        rw [hM, List.getElem?_toArray, List.getElem?_map, List.getElem?_eq_getElem (by rw [fixRow_length]; omega)]
        rfl
      have HS : Hid (M.setIfInBounds (k - 1 - i) (.int .u8 ((N : Int) / 2 ^ (8 * i) % 256)) = ((fixRow N k (i + 1)).map (Value.int .u8)).toArray) := by
        show _ = _
        rw [hM, ← fixRow_set N k i hlt]
        apply Array.ext'
        rw [Array.toList_setIfInBounds, List.map_set]
        simp [dig]
      rw [← hM]
      clear hM
      go_wp2
      go_roundw
      case rel => exact ⟨i + 1, by omega, by go_num, by rw [HS.out]⟩
      case measure => simp [intOf]; omega
    · obtain rfl : i = k := by omega
      go_wp2
      go_ret2
      exact ⟨rfl, by rw [fixRow_all]⟩
end Go.Proofs.Ytmpddbnggddmdaa
