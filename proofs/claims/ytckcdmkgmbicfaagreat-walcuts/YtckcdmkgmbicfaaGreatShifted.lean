/- The contract of codec.shifted. -/
import Derived.Test.YtckcdmkgmbicfaaGreatSumMath
namespace Go.Proofs.YtckcdmkgmbicfaaGreat
open Go.RowKit
set_option linter.unusedVariables false
set_option maxRecDepth 4000

set_option maxHeartbeats 400000 in
theorem shifted_any (w : World) (r : Nat) (hr : r < 4294967296) : Calls Tryz.prog 149 #[.int .u32 r] w fun e w' => e = .returned (.int .u32 (iterS 4 r)) ∧ w = w' := by
  go_enter Tryz.func149, Tryz.ntmps149
  go_wp2
  go_loop [0, 4] (fun s t => ∃ i : Nat, i ≤ 4 ∧ t = .int .i64 i ∧ s = .int .u32 (iterS i r)) (fun _ t => 4 - (intOf t).toNat)
  case atStart => exact ⟨0, Nat.zero_le _, rfl, rfl⟩
  case round =>
    obtain ⟨i, hi, rfl, rfl⟩ := hrel
    by_cases hlt : i < 4
    · have hR : iterS i r < 4294967296 := iterS_lt i hr
      have hs := iterS_succ i r
      generalize iterS i r = R at *
      have HS : Hid (iterS (i + 1) r = bitS R) := hs
      clear hs
      have h1 := and_one32 R hR
      by_cases ho : R % 2 = 1
      · rw [ho] at h1
        have h1' : (bits .and .u32 (R : Int) 1 == 1) = true := by rw [h1]; rfl
        have HB : Hid (_ = _) := bitS_odd hR ho
        clear h1 ho
        go_wp2
        go_round
        case rel => exact ⟨i + 1, by omega, by go_num, by rw [HB.out, HS.out]⟩
        case measure => simp [intOf]; omega
      · have h1' : (bits .and .u32 (R : Int) 1 == 1) = false := by rw [h1, show R % 2 = 0 from by omega]; rfl
        have HB : Hid (_ = _) := bitS_ev ho
        clear h1 ho
        go_wp2
        go_round
        case rel => exact ⟨i + 1, by omega, by go_num, by rw [HB.out, HS.out]⟩
        case measure => simp [intOf]; omega
    · obtain rfl : i = 4 := by omega
      go_wp2
      go_ret
      exact ⟨rfl, rfl⟩

end Go.Proofs.YtckcdmkgmbicfaaGreat
