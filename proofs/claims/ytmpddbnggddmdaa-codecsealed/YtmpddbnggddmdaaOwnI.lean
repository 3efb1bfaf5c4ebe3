/- A row of the call's own that is known whole: every cell up to the capacity is a byte. -/
import Derived.Test.YtmpddbnggddmdaaAppend
namespace Go.Proofs.Ytmpddbnggddmdaa
open Go.RowKit
set_option linter.unusedVariables false

/-- As 'Own', and the spare room holds bytes too. -/
def OwnI (w : World) (base : Nat) (v : Value) (xs : List Int) : Prop :=
  (v = .slice none 0 0 ∧ xs = []) ∨
  ∃ (g : Nat) (cur : List Int), v = .slice (some ⟨g, 0, none⟩) xs.length cur.length ∧ base ≤ g ∧ w.heap[g]? = some (.cells (cur.map (Value.int .u8)).toArray 5 (0, 0)) ∧ cur.length ≤ maxLen ∧ Byt cur ∧ xs.length ≤ cur.length ∧ cur.take xs.length = xs

theorem OwnI.own {w : World} {base : Nat} {v : Value} {xs : List Int} (h : OwnI w base v xs) : Own w base v xs := by
  rcases h with ⟨rfl, rfl⟩ | ⟨g, cur, rfl, hb, hg, hm, hy, hl, ht⟩
  · exact Own.nil _ _
  · refine ⟨by simp, .inr ⟨g, cur.length, _, rfl, hb, hg, hl, hm, by simp, ?_⟩⟩
    simp only [Nat.mul_one]
    rw [← List.map_take, ht]
theorem OwnI.nil (w : World) (base : Nat) : OwnI w base (.slice none 0 0) [] := .inl ⟨rfl, rfl⟩
theorem OwnI.mono {w : World} {base base' : Nat} {v : Value} {xs : List Int} (h : OwnI w base v xs) (hb : base' ≤ base) : OwnI w base' v xs := by
  rcases h with h | ⟨g, cur, rfl, hb', r⟩
  · exact .inl h
  · exact .inr ⟨g, cur, rfl, Nat.le_trans hb hb', r⟩
theorem OwnI.below {w w' : World} {base : Nat} {v : Value} {xs : List Int} (h : OwnI w base v xs) (hb : Below w.heap.size w w') : OwnI w' base v xs := by
  rcases h with h | ⟨g, cur, rfl, hb', hg, r⟩
  · exact .inl h
  · exact .inr ⟨g, cur, rfl, hb', (hb.block g (Array.getElem?_eq_some_iff.1 hg).1).trans hg, r⟩
end Go.Proofs.Ytmpddbnggddmdaa
