/- '[]byte(s)', and back. -/
import Derived.Test.YtmbiapobibfbaaaPState
import Derived.Laws.IdiomStrings
namespace Go.Proofs.Ytmbiapobibfbaaa
open Go.RowKit
set_option linter.unusedVariables false

theorem strB_strOf {xs : List Int} (h : Byt xs) : strB (strOfNums xs) = xs := by
  unfold strB
  rw [strOfNums_data, List.map_map]
  conv => rhs; rw [← List.map_id xs]
  apply List.map_congr_left
  intro x hx
  obtain ⟨h0, h1⟩ := h x hx
  simp
  omega

theorem strOfNums_size (xs : List Int) : (strOfNums xs).size = xs.length := by
  have : (strOfNums xs).data.toList.length = xs.length := by rw [strOfNums_data]; simp
  rw [← this]
  rw [Array.length_toList]
  rfl

/-- '[]byte(s)'. -/
theorem conv_bytes (w : World) (s : ByteArray) (hs : s.size ≤ 1024) : ∃ v w', (convert 9 43 (.string s)).run Try.prog w = .ok v w' ∧ Rd w' v (strB s) ∧ Below w.heap.size w w' := by
  refine ⟨_, _, run_bytes_of_string w 9 43 5 s Try.underlying9 Try.underlying43 Try.underlying5, ?_, (Below.refl _ w).drew.alloc (Nat.le_refl _) _⟩
  have hge := grownCap_ge w s.size 0 5
  have hle := grownCap_le_maxLen w s.size 0 5 (by unfold maxLen; omega)
  have hl := strB_length s
  refine ⟨_, _, by rw [hl], by rw [hl]; exact hge, hle, (by intro e; cases e), fun hne => ⟨_, 0, rfl, by simp, fun i hi => ?_⟩⟩
  rw [hl] at hi
  have hh : (w.drew.alloc (Obj.cells (bytesRow s (grownCap w s.size 0 5)) 5 ((bytesRow s (grownCap w s.size 0 5)).size, (bytesRow s (grownCap w s.size 0 5)).size + 1))).heap[w.heap.size]? = some (Obj.cells (bytesRow s (grownCap w s.size 0 5)) 5 ((bytesRow s (grownCap w s.size 0 5)).size, (bytesRow s (grownCap w s.size 0 5)).size + 1)) := heap_alloc_new w.drew _
  rw [Nat.zero_add, cell_of_row _ _ i _ 5 _ hh]
  have hi' : i < s.data.size := hi
  unfold bytesRow
  rw [Array.getElem?_append_left (by simpa using hi'), Array.getElem?_map, Array.getElem?_eq_getElem hi', List.getD_eq_getElem?_getD]
  unfold strB
  rw [List.getElem?_map, Array.getElem?_toList, Array.getElem?_eq_getElem hi']
  rfl

end Go.Proofs.Ytmbiapobibfbaaa
