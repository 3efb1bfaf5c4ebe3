/- The document's answer for a disk: where it lies. -/
import Derived.Test.YtjfhcbokfbbbhaaSafeMath
namespace Go.Proofs.Ytjfhcbokfbbbhaa
open Go.RowKit Go.Maps
set_option linter.unusedVariables false

/-- What is pending, as a text: empty where nothing is. -/
def lateS : Option (List Int) → ByteArray
  | none => ⟨#[]⟩
  | some c => strOfNums c

def leftR (s : St) : Int := if s.armed then s.left else -1

def cellsR (gs gl n cs cl : Nat) (s : St) (mask : ByteArray) : Array Value :=
  #[.slice (some ⟨gs, 0, none⟩) n cs, .slice (some ⟨gl, 0, none⟩) n cl, .int .i64 (leftR s), .string mask, .bool s.off, .int .i64 s.writes]

/-- The disk 's', as the document's answer has it, lies in the block 'q', its texts in 'gs' and 'gl'. -/
structure RefAt (w : World) (q gs gl : Nat) (s : St) : Prop where
  row : ∃ (n cs cl : Nat) (mask : ByteArray), (n : Int) = s.blocks ∧ n ≤ cs ∧ n ≤ cl ∧ cs ≤ maxLen ∧ cl ≤ maxLen ∧ mask.size ≤ maxLen ∧ (s.armed = true → mask = s.mask) ∧ w.heap[q]? = some (.cells (cellsR gs gl n cs cl s mask) 42 (0, 0))
  safe : ∃ xs, w.heap[gs]? = some (.cells xs 9 (0, 0)) ∧ ∀ i : Nat, (i : Int) < s.blocks → xs[i]? = some (.string (strOfNums (s.safe i)))
  late : ∃ ys, w.heap[gl]? = some (.cells ys 9 (0, 0)) ∧ ∀ i : Nat, (i : Int) < s.blocks → ys[i]? = some (.string (lateS (s.pend i)))
  ne : gs ≠ gl
  good : Good s

theorem RefAt.lt {w : World} {q gs gl : Nat} {s : St} (h : RefAt w q gs gl s) : q < w.heap.size ∧ gs < w.heap.size ∧ gl < w.heap.size := by
  obtain ⟨n, cs, cl, mask, _, _, _, _, _, _, _, hr⟩ := h.row
  obtain ⟨xs, hs, _⟩ := h.safe
  obtain ⟨ys, hl, _⟩ := h.late
  exact ⟨(Array.getElem?_eq_some_iff.1 hr).1, (Array.getElem?_eq_some_iff.1 hs).1, (Array.getElem?_eq_some_iff.1 hl).1⟩

theorem RefAt.apart {w : World} {q gs gl : Nat} {s : St} (h : RefAt w q gs gl s) : q ≠ gs ∧ q ≠ gl := by
  obtain ⟨n, cs, cl, mask, _, _, _, _, _, _, _, hr⟩ := h.row
  obtain ⟨xs, hs, _⟩ := h.safe
  obtain ⟨ys, hl, _⟩ := h.late
  refine ⟨fun e => ?_, fun e => ?_⟩
  · subst e; rw [hr] at hs; exact absurd (Obj.cells.inj (Option.some.inj hs)).2.1 (by decide)
  · subst e; rw [hr] at hl; exact absurd (Obj.cells.inj (Option.some.inj hl)).2.1 (by decide)

theorem RefAt.same {w w' : World} {q gs gl : Nat} {s : St} (h : RefAt w q gs gl s) (h1 : w'.heap[q]? = w.heap[q]?) (h2 : w'.heap[gs]? = w.heap[gs]?) (h3 : w'.heap[gl]? = w.heap[gl]?) : RefAt w' q gs gl s := by
  obtain ⟨⟨n, cs, cl, mask, a1, a2, a3, a4, a5, a6, a7, hr⟩, ⟨xs, hs, hsx⟩, ⟨ys, hl, hlx⟩, hne, hg⟩ := h
  exact ⟨⟨n, cs, cl, mask, a1, a2, a3, a4, a5, a6, a7, h1.trans hr⟩, ⟨xs, h2.trans hs, hsx⟩, ⟨ys, h3.trans hl, hlx⟩, hne, hg⟩

theorem RefAt.other {w w' : World} {q gs gl : Nat} {s : St} (h : RefAt w q gs gl s) {S : List Nat} (hS : Sole S w w') (h1 : q ∉ S) (h2 : gs ∉ S) (h3 : gl ∉ S) : RefAt w' q gs gl s :=
  h.same (hS.block q h.lt.1 h1) (hS.block gs h.lt.2.1 h2) (hS.block gl h.lt.2.2 h3)

theorem RefAt.below {w w' : World} {q gs gl : Nat} {s : St} (h : RefAt w q gs gl s) (hb : Below w.heap.size w w') : RefAt w' q gs gl s :=
  h.same (hb.block q h.lt.1) (hb.block gs h.lt.2.1) (hb.block gl h.lt.2.2)

/-- Its cells, one by one. -/
structure RCells (w : World) (q gs gl n cs cl : Nat) (s : St) (mask : ByteArray) : Prop where
  c0 : w.cell? ⟨q, 0, none⟩ = some (.slice (some ⟨gs, 0, none⟩) n cs)
  c1 : w.cell? ⟨q, 1, none⟩ = some (.slice (some ⟨gl, 0, none⟩) n cl)
  c2 : w.cell? ⟨q, 2, none⟩ = some (.int .i64 (leftR s))
  c3 : w.cell? ⟨q, 3, none⟩ = some (.string mask)
  c4 : w.cell? ⟨q, 4, none⟩ = some (.bool s.off)
  c5 : w.cell? ⟨q, 5, none⟩ = some (.int .i64 s.writes)
  fr : ∀ j, w.frozen? ⟨q, j, none⟩ = false

theorem rcells {w : World} {q gs gl n cs cl : Nat} {s : St} {mask : ByteArray} (hr : w.heap[q]? = some (.cells (cellsR gs gl n cs cl s mask) 42 (0, 0))) : RCells w q gs gl n cs cl s mask := by
  refine ⟨?_, ?_, ?_, ?_, ?_, ?_, fun j => by simp [World.frozen?, hr]⟩
  all_goals (rw [cell_of_row _ _ _ _ _ (0, 0) hr]; rfl)

/-- A text of one of its rows is stored. -/
theorem strRow_set {w : World} {g : Nat} {xs : Array Value} (hg : w.heap[g]? = some (.cells xs 9 (0, 0))) (i : Nat) (v : Value) : (w.setCell ⟨g, i, none⟩ v).heap[g]? = some (.cells (xs.setIfInBounds i v) 9 (0, 0)) := heap_setCell_same w g i _ 9 _ hg

theorem strRow_cell {w : World} {g : Nat} {xs : Array Value} (hg : w.heap[g]? = some (.cells xs 9 (0, 0))) {i : Nat} {v : Value} (hv : xs[i]? = some v) : w.cell? ⟨g, i, none⟩ = some v := by
  rw [cell_of_row _ _ _ _ _ (0, 0) hg]; exact hv

theorem strRow_fr {w : World} {g : Nat} {xs : Array Value} (hg : w.heap[g]? = some (.cells xs 9 (0, 0))) (i : Nat) : w.frozen? ⟨g, i, none⟩ = false := by simp [World.frozen?, hg]

theorem lateS_ne {c : List Int} (h : Blk c) : (strOfNums c).toList ≠ [] := by
  rw [ByteArray.toList_eq]
  intro e
  have := congrArg List.length e
  rw [strOfNums_data] at this
  simp [h.1] at this

theorem lateS_none (c : Option (List Int)) (h : ∀ x, c = some x → Blk x) : ((lateS c).toList == []) = c.isNone := by
  cases c with
  | none => show ((⟨#[]⟩ : ByteArray).toList == []) = true; rw [ByteArray.toList_eq]; rfl
  | some x =>
    have := lateS_ne (h x rfl)
    show ((strOfNums x).toList == []) = false
    cases hx : (strOfNums x).toList with
    | nil => exact absurd hx this
    | cons a l => rfl

end Go.Proofs.Ytjfhcbokfbbbhaa
