/- The contracts of bits.Mul64 and bits.Mul at 1 * n. -/
import Derived.Test.YtljfdmjlilahjaaFSmall
import Derived.Shelf.Bits.Mul64
namespace Go.Proofs.Ytljfdmjlilahjaa
open Go.RowKit
set_option linter.unusedVariables false
set_option linter.unusedSimpArgs false
set_option maxRecDepth 4000

set_option maxHeartbeats 1000000 in
theorem mul64_one (w : World) (n : Nat) (hn : n ≤ 1024) : Calls Try.prog 39 #[.int .u64 1, .int .u64 n] w fun e w' => e = .returned (.tuple #[.int .u64 0, .int .u64 n]) ∧ w' = w := by
  have b1 : bits .and .u64 1 4294967295 = 1 := by have := Mul64.maskN 1 (by omega); simpa using this
  have b2 : bits .and .u64 (n : Int) 4294967295 = n := by have := Mul64.maskN n (by omega); rw [this]; congr 1; omega
  have b3 : bits .and .u64 0 4294967295 = 0 := by have := Mul64.maskN 0 (by omega); simpa using this
  have d2 : (n : Int) / 4294967296 = 0 := by omega
  have w2 : IntKind.wrap .u64 (n : Int) = n := by rw [IntKind.wrap_u64]; omega
  have w3 : IntKind.wrap .u64 (0 : Int) = 0 := by rw [IntKind.wrap_u64]; omega
  go_enter Try.func39, Try.ntmps39
  go_wp2
  go_ret2
  exact ⟨rfl, rfl⟩

set_option maxHeartbeats 1000000 in
theorem mul_one' (w : World) (n : Nat) (hn : n ≤ 1024) : Calls Try.prog 36 #[.int .u64 1, .int .u64 n] w fun e w' => e = .returned (.tuple #[.int .u64 0, .int .u64 n]) ∧ w' = w := by
  have h := mul64_one w n hn
  go_enter Try.func36, Try.ntmps36
  go_wp2_with fail
  refine h.mono ?_
  rintro e w1 ⟨rfl, rfl⟩
  go_wp2
  go_ret2
  exact ⟨rfl, rfl⟩

end Go.Proofs.Ytljfdmjlilahjaa
