/- slices.Concat of slices that are written out. -/
import Derived.Test.YthgdbjpefjjeaaaGreatIConcat
import Derived.Test.YthgdbjpefjjeaaaGreatQBase
namespace Go.Proofs.YthgdbjpefjjeaaaGreat
open Go.RowKit
set_option linter.unusedVariables false
set_option linter.unusedSimpArgs false
set_option maxRecDepth 4000

theorem concat_lit (w : World) (us : List Value) (L : List (List Int)) (hl : us.length = L.length) (hn : us.length ≤ 100) (hr : ∀ i, i < us.length → Rd w (us.getD i undef) (L.getD i [])) (hs : L.flatten.length ≤ 140737488355328) :
    Calls Tryz.prog 88 #[.slice (some ⟨w.heap.size, 0, none⟩) us.length us.length] (w.alloc (.cells us.toArray 86)) fun e w' => ∃ v, e = .returned v ∧ Own w' w.heap.size v L.flatten ∧ Below w.heap.size w w' := by
  have hB : Below w.heap.size w (w.alloc (.cells us.toArray 86)) := (Below.refl _ w).alloc (Nat.le_refl _) _
  refine (concat_any (w.alloc (.cells us.toArray 86)) w.heap.size us.length (fun i => us.getD i undef) L hl.symm (by unfold maxLen; omega) (by simp) ?_ (fun i hi => (hr i hi).below hB) hs).mono ?_
  · intro i hi
    rw [cell_of_row _ _ i _ _ _ (heap_alloc_new w _)]
    rw [List.getElem?_toArray, List.getD_eq_getElem?_getD, List.getElem?_eq_getElem hi]
    rfl
  · rintro e w' ⟨v, rfl, ho, hb⟩
    exact ⟨v, rfl, ho.mono hB.size, hB.trans (hb.mono hB.size)⟩

end Go.Proofs.YthgdbjpefjjeaaaGreat
