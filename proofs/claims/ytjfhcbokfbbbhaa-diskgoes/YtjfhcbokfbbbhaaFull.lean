/- full, short. -/
import Derived.Test.YtjfhcbokfbbbhaaDSmall
namespace Go.Proofs.Ytjfhcbokfbbbhaa
open Go.RowKit Go.Maps
set_option linter.unusedVariables false

/-- A block of one kind, its place added. -/
def fullB (v : Int) : List Int := (List.range 512).map fun i : Nat => (v + (i : Int)) % 256

def fullRow (v : Int) (k : Nat) : List Int := (List.range 512).map fun i : Nat => if i < k then (v + (i : Int)) % 256 else 0

theorem fullRow_length (v : Int) (k : Nat) : (fullRow v k).length = 512 := by simp [fullRow]

theorem fullRow_zero (v : Int) : fullRow v 0 = List.replicate 512 0 := by
  apply List.ext_getElem
  · rw [fullRow_length, List.length_replicate]
  · intro i h1 h2
    simp only [fullRow, List.getElem_map, List.getElem_replicate, Nat.not_lt_zero, if_false]

theorem fullRow_full (v : Int) : fullRow v 512 = fullB v := by
  apply List.ext_getElem
  · simp [fullRow, fullB]
  · intro i h1 h2
    have : i < 512 := by simpa [fullRow] using h1
    simp [fullRow, fullB, this]

theorem fullRow_set (v : Int) (k : Nat) : (fullRow v k).set k ((v + (k : Int)) % 256) = fullRow v (k + 1) := by
  apply List.ext_getElem
  · simp [fullRow]
  · intro i h1 h2
    rw [List.getElem_set]
    simp only [fullRow, List.getElem_map, List.getElem_range]
    split
    · rename_i e; subst e; simp
    · by_cases h : i < k
      · simp [h, show i < k + 1 by omega]
      · simp [h, show ¬ i < k + 1 by omega]

theorem fullB_blk (v : Int) : Blk (fullB v) := by
  refine ⟨by simp [fullB], fun x hx => ?_⟩
  obtain ⟨i, _, rfl⟩ := List.mem_map.1 hx
  omega

set_option maxRecDepth 100000 in
set_option maxHeartbeats 4000000 in
theorem law_full (w : World) (v : Int) (h0 : 0 ≤ v) (h1 : v ≤ 255) :
    Calls Try.prog 11 #[.int .u8 v] w fun e w' => e = .returned (.slice (some ⟨w.heap.size, 0, none⟩) 512 512) ∧ w' = w.alloc (.cells (bytesV (fullB v)) 5) := by
  have hmk : (Instr.makeSlice 33 (.int .i64 512) (.int .i64 512)).run Try.prog w = .ok (.slice (some ⟨w.heap.size, 0, none⟩) 512 512) (w.alloc (.cells ((fullRow v 0).map (Value.int .u8)).toArray 5)) := by
    have := make_bytes w 512 512 (by rfl) (by omega)
    rw [this, fullRow_zero, List.map_replicate]
  go_enter Try.func11, Try.ntmps11
  go_wp2_with fail
  go_loopw [8] (fun t wr => ∃ k : Nat, k ≤ 512 ∧ t = .int .i64 k ∧ wr = w.alloc (.cells ((fullRow v k).map (Value.int .u8)).toArray 5)) (fun t _ => 512 - (RowKit.intOf t).toNat)
  case atStart => exact ⟨0, Nat.zero_le _, rfl, rfl⟩
  case round =>
    obtain ⟨k, hk, rfl, rfl⟩ := hrel
    clear hmk
    by_cases hlt : k < 512
    · obtain ⟨M, hM⟩ : ∃ M, M = ((fullRow v k).map (Value.int .u8)).toArray := ⟨_, rfl⟩
      obtain ⟨z, hz⟩ : ∃ z, M[k]? = some (.int .u8 z) := by
        refine ⟨(fullRow v k)[k]'(by rw [fullRow_length]; omega), ?_⟩
        rw [hM, List.getElem?_toArray, List.getElem?_map, List.getElem?_eq_getElem (by rw [fullRow_length]; omega)]
        rfl
      have HS : Hid (M.setIfInBounds k (.int .u8 ((v + (k : Int)) % 256)) = ((fullRow v (k + 1)).map (Value.int .u8)).toArray) := by
        show _ = _
        rw [hM, ← fullRow_set v k]
        apply Array.ext'
        rw [Array.toList_setIfInBounds, List.map_set]
      rw [← hM]
      clear hM
      go_wp2
      go_roundw
      case rel => exact ⟨k + 1, by omega, by go_num, by rw [HS.out]⟩
      case measure => simp [RowKit.intOf]; omega
    · obtain rfl : k = 512 := by omega
      have HE : Hid (((fullRow v 512).map (Value.int .u8)).toArray = bytesV (fullB v)) := by unfold Hid bytesV; rw [fullRow_full]
      generalize ((fullRow v 512).map (Value.int .u8)).toArray = M at *
      go_wp2
      go_ret
      exact ⟨rfl, by rw [HE.out]⟩

def shortN (n : Int) : Int := (n.tmod 1030 + 1030) % 1030

theorem shortN_in (n : Int) : 0 ≤ shortN n ∧ shortN n < 1030 := by
  unfold shortN
  omega

theorem law_short (w : World) (n : Int) (h0 : -9223372036854775808 ≤ n) (h1 : n ≤ 9223372036854775807) :
    Calls Try.prog 12 #[.int .i64 n] w fun e w' => e = .returned (.int .i64 (shortN n)) ∧ w' = w := by
  have t1 := Int.tmod_lt_of_pos n (show (0 : Int) < 1030 by decide)
  have t2 : -1030 < n.tmod 1030 := by
    have := Int.lt_tmod_of_pos n (show (0 : Int) < 1030 by decide)
    omega
  go_enter Try.func12, Try.ntmps12
  go_wp2_with fail
  go_ret
  exact ⟨rfl, rfl⟩

end Go.Proofs.Ytjfhcbokfbbbhaa
