/- The contract of the examples of texts. -/
import Derived.Test.YtmpddbnggddmdabText
import Derived.Test.YtmpddbnggddmdabReadText
namespace Go.Proofs.Ytmpddbnggddmdab
open Go.RowKit
set_option linter.unusedVariables false

set_option maxHeartbeats 400000 in
theorem texts_any (w : World) : Calls Try.prog 8 #[] w fun e w' => e = .returned (.bool true) ∧ Below w.heap.size w w' := by
  have kc := fun (w : World) (C : Array Value) (n c : Nat) => Lib.run_convert_bytes_const (P := Try.prog) w 24 5 C n c Try.underlying24 Try.underlying5
  go_enter Try.func8, Try.ntmps8
  go_wp2_with fail
  refine (text_any _ _ (by decide)).mono ?_
  rintro e w1 ⟨v1, rfl, ho1, hb1⟩
  have hv1 := ho1.rd
  clear ho1
  go_wp2_with fail
  refine (readText_any _ _ [2, 97, 98, 99] ?_ ?_).mono ?_
  · exact Rd.laid (cs := #[.int .u8 2, .int .u8 97, .int .u8 98, .int .u8 99]) (by rfl) (by decide) rfl
  · unfold Byt; decide
  rintro e w2 ⟨rfl, rfl⟩
  have hb2 : Below w1.heap.size w1 (w1.alloc (.cells #[.int .u8 2, .int .u8 97, .int .u8 98, .int .u8 99] 5 (4, 5))) := (Below.refl _ _).alloc (Nat.le_refl _) _
  have hcv := (hv1.below hb2).conv
  have e1 : strOfNums (textB ⟨#[97, 98]⟩) = ⟨#[2, 97, 98]⟩ := by decide
  have e2 : textE ⟨#[97, 98]⟩ = 0 := by decide
  have e3 : readS [2, 97, 98, 99] = ⟨#[97, 98]⟩ := by decide
  have e4 : readN [2, 97, 98, 99] = 3 := by decide
  have e5 : readE [2, 97, 98, 99] = 0 := by decide
  rw [e1] at hcv
  rw [e2, e3, e4, e5]
  clear e1 e2 e3 e4 e5
  go_wp2
  go_ret
  exact ⟨rfl, hb1.trans (hb2.mono hb1.size)⟩

end Go.Proofs.Ytmpddbnggddmdab
