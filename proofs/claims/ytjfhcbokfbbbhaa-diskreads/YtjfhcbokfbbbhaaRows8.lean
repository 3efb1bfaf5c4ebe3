/- Arrays of eight strings, of eight bools, in memory. -/
import Derived.Test.YtjfhcbokfbbbhaaSafeMath
namespace Go.Proofs.Ytjfhcbokfbbbhaa
open Go.RowKit Go.Maps
set_option linter.unusedVariables false

/-- The block 'g' holds eight values. -/
def Row8 (w : World) (g : Nat) (t : TypeId) (f : Nat → Value) : Prop := w.heap[g]? = some (.cells ((List.range 8).map f).toArray t (0, 0))

theorem Row8.lt {w : World} {g : Nat} {t : TypeId} {f : Nat → Value} (h : Row8 w g t f) : g < w.heap.size := (Array.getElem?_eq_some_iff.1 h).1

theorem Row8.cell {w : World} {g : Nat} {t : TypeId} {f : Nat → Value} (h : Row8 w g t f) (n : Nat) (hn : n < 8) : w.cell? ⟨g, n, none⟩ = some (f n) := by
  rw [cell_of_row w g n _ t (0, 0) h, List.getElem?_toArray, List.getElem?_map, List.getElem?_range hn]
  rfl

theorem Row8.fr {w : World} {g : Nat} {t : TypeId} {f : Nat → Value} (h : Row8 w g t f) (n : Nat) : w.frozen? ⟨g, n, none⟩ = false := by
  unfold Row8 at h
  simp [World.frozen?, h]

theorem Row8.same {w w' : World} {g : Nat} {t : TypeId} {f : Nat → Value} (h : Row8 w g t f) (hb : w'.heap[g]? = w.heap[g]?) : Row8 w' g t f := hb.trans h

theorem Row8.other {w w' : World} {g : Nat} {t : TypeId} {f : Nat → Value} (h : Row8 w g t f) {S : List Nat} (hS : Sole S w w') (hg : g ∉ S) : Row8 w' g t f := h.same (hS.block g h.lt hg)

theorem Row8.below {w w' : World} {g : Nat} {t : TypeId} {f : Nat → Value} (h : Row8 w g t f) (hb : Below w.heap.size w w') : Row8 w' g t f := h.same (hb.block g h.lt)

theorem Row8.set {w : World} {g : Nat} {t : TypeId} {f : Nat → Value} (h : Row8 w g t f) (n : Nat) (x : Value) : Row8 (w.setCell ⟨g, n, none⟩ x) g t (fun i => if i = n then x else f i) := by
  unfold Row8
  rw [heap_setCell_same w g n _ t _ h]
  congr 2
  apply Array.ext'
  rw [Array.toList_setIfInBounds]
  apply List.ext_getElem
  · simp
  · intro i h1 h2
    rw [List.getElem_set]
    simp only [List.getElem_map, List.getElem_range]
    by_cases e : i = n
    · subst e; simp
    · simp [e, Ne.symm e]

theorem Row8.apart {w : World} {g : Nat} {t : TypeId} {f : Nat → Value} (h : Row8 w g t f) {p bs bp : Nat} {s : St} (hd : DiskAt w p bs bp s) (ht : t ≠ 61) : g ∉ [p, bs, bp] := by
  unfold Row8 at h
  obtain ⟨M, hM, _⟩ := hd.safe
  obtain ⟨es, c, hm⟩ := hM.is
  obtain ⟨es', c', hm'⟩ := hd.pend.is
  have hr := hd.row
  simp only [List.mem_cons, List.not_mem_nil, or_false, not_or]
  refine ⟨?_, ?_, ?_⟩
  · intro e; subst e; rw [h] at hr; exact ht (Obj.cells.inj (Option.some.inj hr)).2.1
  · intro e; subst e; rw [h] at hm; cases hm
  · intro e; subst e; rw [h] at hm'; cases hm'

end Go.Proofs.Ytjfhcbokfbbbhaa
