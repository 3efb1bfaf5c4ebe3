/- The contract of the examples of sums. -/
import Derived.Test.YtmpddbnggddmdabSeal
import Derived.Test.YtmpddbnggddmdabUnseal
namespace Go.Proofs.Ytmpddbnggddmdab
open Go.RowKit
set_option linter.unusedVariables false

set_option maxHeartbeats 1000000 in
theorem sums_any (w : World) : Calls Try.prog 12 #[] w fun e w' => e = .returned (.bool true) ∧ Below w.heap.size w w' := by
  have kc := fun (w : World) (C : Array Value) (n c : Nat) => Lib.run_convert_bytes_const (P := Try.prog) w 24 5 C n c Try.underlying24 Try.underlying5
  go_enter Try.func12, Try.ntmps12
  go_wp2_with fail
  refine (seal_any _ _ [] (Rd.nil _) Byt.nil (by simp)).mono ?_
  rintro e w1 ⟨u1, rfl, ho1, hb1⟩
  go_wp2_with fail
  refine (unseal_any _ _ _ ho1.rd (seal_byt Byt.nil) (by rw [List.length_append, sealB_length]; simp)).mono ?_
  rintro e w2 ⟨u2, rfl, ho2, hb2⟩
  rw [unE_seal]
  rw [unB_seal] at ho2
  have hb02 := hb1.trans (hb2.mono hb1.size)
  clear ho1 hb1 hb2
  go_wp2_with fail
  refine (unseal_any _ _ [97, 98, 99, 100] ?_ ?_ ?_).mono ?_
  · exact Rd.laid (cs := #[.int .u8 97, .int .u8 98, .int .u8 99, .int .u8 100]) (by rfl) (by decide) rfl
  · unfold Byt; decide
  · decide
  rintro e w3 ⟨u3, rfl, _, hb3⟩
  have hm2 : Below w2.heap.size w2 (w2.alloc (.cells #[.int .u8 97, .int .u8 98, .int .u8 99, .int .u8 100] 5 (4, 5))) := (Below.refl _ _).alloc (Nat.le_refl _) _
  have hb23 : Below w2.heap.size w2 w3 := hm2.trans (hb3.mono (by simp))
  rw [show unE [97, 98, 99, 100] = 12 from by decide +kernel]
  have ho3 := ho2.below hb23
  have hb03 := hb02.trans (hb23.mono hb02.size)
  clear ho2 hm2 hb3 hb23 hb02
  go_wp2_with fail
  refine (sum_any _ _ [49, 50, 51, 52, 53, 54, 55, 56, 57] ?_ ?_).mono ?_
  · exact Rd.laid (cs := #[.int .u8 49, .int .u8 50, .int .u8 51, .int .u8 52, .int .u8 53, .int .u8 54, .int .u8 55, .int .u8 56, .int .u8 57]) (by rfl) (by decide) rfl
  · unfold Byt; decide
  rintro e w4 ⟨rfl, hb4⟩
  have hm3 : Below w3.heap.size w3 (w3.alloc (.cells #[.int .u8 49, .int .u8 50, .int .u8 51, .int .u8 52, .int .u8 53, .int .u8 54, .int .u8 55, .int .u8 56, .int .u8 57] 5 (9, 10))) := (Below.refl _ _).alloc (Nat.le_refl _) _
  have hb34 : Below w3.heap.size w3 w4 := hm3.trans (hb4.mono (by simp))
  rw [show sumS [49, 50, 51, 52, 53, 54, 55, 56, 57] = 3808858755 from by decide +kernel]
  have hl4 := (ho3.below hb34).rd.len
  have hbb := hb03.trans (hb34.mono hb03.size)
  clear ho3 hb03 hb34 hm3 hb4
  go_wp2
  go_ret
  exact ⟨rfl, hbb⟩

end Go.Proofs.Ytmpddbnggddmdab
