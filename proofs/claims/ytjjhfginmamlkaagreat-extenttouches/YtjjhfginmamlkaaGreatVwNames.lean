/- A view: where it lies; New. -/
import Derived.Test.YtjjhfginmamlkaaGreatDlN
import Derived.Test.YtjjhfginmamlkaaGreatVwStore
import Derived.Test.YtjjhfginmamlkaaGreatP3
import Derived.Handy
namespace Go.Proofs.YtjjhfginmamlkaaGreat
open Go.RowKit
set_option linter.unusedVariables false
set_option linter.unusedSimpArgs false
set_option maxRecDepth 100000

/-- A store behind the interface. -/
def baV (g : Nat) : Value := .iface 39 (.pointer (some ⟨g, 0, none⟩))
/-- Where a view lies. -/
structure VwAt (w : World) (v g p : Nat) : Prop where
  row : w.heap[v]? = some (.cells #[baV g, .pointer (some ⟨p, 0, none⟩)] 116 (0, 0))
theorem VwAt.lt {w : World} {v g p : Nat} (h : VwAt w v g p) : v < w.heap.size := (Array.getElem?_eq_some_iff.1 h.row).1
theorem VwAt.below {w w' : World} {v g p : Nat} (h : VwAt w v g p) (hb : Below w.heap.size w w') : VwAt w' v g p := ⟨(hb.block v h.lt).trans h.row⟩
theorem VwAt.c0 {w : World} {v g p : Nat} (h : VwAt w v g p) : w.cell? ⟨v, 0, none⟩ = some (baV g) := by rw [cell_of_row _ _ _ _ _ (0, 0) h.row]; rfl
theorem VwAt.c1 {w : World} {v g p : Nat} (h : VwAt w v g p) : w.cell? ⟨v, 1, none⟩ = some (.pointer (some ⟨p, 0, none⟩)) := by rw [cell_of_row _ _ _ _ _ (0, 0) h.row]; rfl

theorem vnew_any (w : World) (g p : Nat) : Calls Tryz.prog 25 #[baV g, .pointer (some ⟨p, 0, none⟩)] w fun e w' => e = .returned (.pointer (some ⟨w.heap.size, 0, none⟩)) ∧ VwAt w' w.heap.size g p ∧ Below w.heap.size w w' := by
  have hx : VwAt (w.alloc (.cells #[baV g, .pointer (some ⟨p, 0, none⟩)] 116)) w.heap.size g p := ⟨heap_alloc_new w _⟩
  have hb : Below w.heap.size w (w.alloc (.cells #[baV g, .pointer (some ⟨p, 0, none⟩)] 116)) := (Below.refl _ w).alloc (Nat.le_refl _) _
  unfold baV at hx hb ⊢
  go_enter Tryz.func25, Tryz.ntmps25
  go_wp2
  go_ret
  exact ⟨rfl, hx, hb⟩

end Go.Proofs.YtjjhfginmamlkaaGreat
