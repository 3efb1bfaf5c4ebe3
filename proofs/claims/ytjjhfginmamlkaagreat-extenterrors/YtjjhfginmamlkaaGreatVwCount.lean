/- What stands in pairs (mathematics). -/
import Derived.Test.YtjjhfginmamlkaaGreatS2
namespace Go.Proofs.YtjjhfginmamlkaaGreat
open Go.RowKit Go.Shelf
set_option linter.unusedVariables false
set_option linter.unusedSimpArgs false
set_option maxRecDepth 100000

theorem vg_new (l : List (ByteArray × ByteArray)) (m : Int) (q : Pl) : vgR l (newS m) q = (stI l q, stB l q, stE l q) := by
  unfold vgR
  rw [show isX (newS m) q = false from rfl]
  rfl
theorem stI_dec {l : List (ByteArray × ByteArray)} {q : Pl} (h : plOk q = true) (hf : fdB l (keyS q) = true) : stI l q = decI q.part (valS l (keyS q)) ∧ stE l q = decE q.part (valS l (keyS q)) ∧ stB l q = decide (decE q.part (valS l (keyS q)) = 0) := by
  have e1 : stB l q = decide (decE q.part (valS l (keyS q)) = 0) := by unfold stB; rw [h, hf]; rfl
  refine ⟨?_, by unfold stE; rw [h, hf]; rfl, e1⟩
  unfold stI
  rw [e1]
  by_cases h0 : decE q.part (valS l (keyS q)) = 0
  · rw [decide_eq_true h0]; rfl
  · rw [decide_eq_false h0]
    unfold decI
    rw [if_neg h0]
    rfl
theorem st_none {l : List (ByteArray × ByteArray)} {q : Pl} (h : plOk q = true) (hf : fdB l (keyS q) = false) : stI l q = it0 ∧ stE l q = 0 ∧ stB l q = false := by
  have e1 : stB l q = false := by unfold stB; rw [h, hf]; rfl
  refine ⟨?_, by unfold stE; rw [h, hf]; rfl, e1⟩
  unfold stI
  rw [e1]
  rfl
theorem st_bad {l : List (ByteArray × ByteArray)} {q : Pl} (h : plOk q = false) : stE l q = 30 := by unfold stE; rw [h]; rfl

end Go.Proofs.YtjjhfginmamlkaaGreat
