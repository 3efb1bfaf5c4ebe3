/- The contract of the examples of numbers. -/
import Derived.Test.YtmpddbnggddmdabNumber
namespace Go.Proofs.Ytmpddbnggddmdab
open Go.RowKit
set_option linter.unusedVariables false

set_option maxHeartbeats 1000000 in
theorem numbers_any (w : World) : Calls Try.prog 6 #[] w fun e w' => e = .returned (.bool true) ∧ Below w.heap.size w w' := by
  go_enter Try.func6, Try.ntmps6
  go_wp2_with fail
  refine (fixed_any _ 258 2 (by decide) (by decide)).mono ?_
  rintro e w1 ⟨v1, rfl, ho1, hb1⟩
  go_wp2_with fail
  refine (fixed_any _ 256 1 (by decide) (by decide)).mono ?_
  rintro e w2 ⟨v2, rfl, _, hb2⟩
  go_wp2_with fail
  refine (fixed_any _ 1 9 (by decide) (by decide)).mono ?_
  rintro e w3 ⟨v3, rfl, _, hb3⟩
  have ho3 := (ho1.below hb2).below hb3
  have hb : Below w.heap.size w w3 := (hb1.trans (hb2.mono hb1.size)).trans (hb3.mono (Nat.le_trans hb1.size hb2.size))
  clear ho1 hb1 hb2 hb3
  go_wp2_with fail
  refine (number_any _ _ [1, 2, 3] 2 ?_ ?_).mono ?_
  · exact Rd.laid (cs := #[.int .u8 1, .int .u8 2, .int .u8 3]) (by rfl) (by decide) rfl
  · unfold Byt; decide
  rintro e w4 ⟨rfl, rfl⟩
  have hb4 : Below w3.heap.size w3 (w3.alloc (.cells #[.int .u8 1, .int .u8 2, .int .u8 3] 5)) := (Below.refl _ _).alloc (Nat.le_refl _) _
  have hcv := (ho3.below hb4).rd.conv
  have e1 : strOfNums (fixL 258 2) = ⟨#[1, 2]⟩ := by decide
  have e2 : fixE 258 2 = 0 := by decide
  have e3 : fixE 256 1 = 2 := by decide
  have e4 : fixE 1 9 = 1 := by decide
  have e5 : numV [1, 2, 3] 2 = 258 := by decide
  have e6 : numE [1, 2, 3] 2 = 0 := by decide
  rw [e1] at hcv
  rw [e2, e3, e4, e5, e6]
  have hbb := hb.trans (hb4.mono hb.size)
  clear e1 e2 e3 e4 e5 e6 ho3 hb hb4
  go_wp2
  go_ret
  exact ⟨rfl, hbb⟩

end Go.Proofs.Ytmpddbnggddmdab
