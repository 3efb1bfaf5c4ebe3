/- The contracts of place.Compare and of the document's. -/
import Derived.Test.YtmifpeocgikbeabPCmp
import Derived.Deep.RegionHeld3
namespace Go.Proofs.Ytmifpeocgikbeab
open Go.RowKit
set_option maxRecDepth 4000
set_option linter.unusedVariables false

/-- How two places are ordered. -/
def cmpP (a b : Pl) : Int := orL [cmpI a.ino b.ino, cmpI a.part b.part, cmpS a.name b.name, cmpI a.chunk b.chunk]

set_option maxHeartbeats 2000000 in
theorem compare_any (w : World) (a b : Pl) : Calls Try.prog 37 #[plV a, plV b] w fun e w' => e = .returned (.int .i64 (cmpP a b)) ∧ Below w.heap.size w w' := by
  obtain ⟨w1, hw1⟩ : ∃ w1, w1 = (w.alloc (.cells #[.int .u32 a.ino, .int .i64 a.part, .string a.name, .int .u32 a.chunk] 25)).alloc (.cells #[.int .u32 b.ino, .int .i64 b.part, .string b.name, .int .u32 b.chunk] 25) := ⟨_, rfl⟩
  have hb1 : Below w.heap.size w w1 := by rw [hw1]; exact ((Below.refl _ _).alloc (Nat.le_refl _) _).alloc (by simp) _
  have ha1 : PlAt w1 w.heap.size a := by
    rw [hw1]
    exact (PlAt.laid w a).below ((Below.refl _ _).alloc (Nat.le_refl _) _)
  have hb1' : PlAt w1 (w.heap.size + 1) b := by
    rw [hw1]
    have := PlAt.laid (w.alloc (.cells (plCells a) 25)) b
    have hs : (w.alloc (.cells (plCells a) 25)).heap.size = w.heap.size + 1 := by simp
    rw [hs] at this
    exact this
  unfold plV cmpP
  have hOr : ∀ (x0 x1 x2 x3 : Int), Calls Try.prog 45 #[.slice (some ⟨w1.heap.size, 0, none⟩) 4 4] (w1.alloc (.cells #[.int .i64 x0, .int .i64 x1, .int .i64 x2, .int .i64 x3] 3)).drew fun e w' => e = .returned (.int .i64 (orL [x0, x1, x2, x3])) ∧ (w1.alloc (.cells #[.int .i64 x0, .int .i64 x1, .int .i64 x2, .int .i64 x3] 3)).drew = w' := by
    intro x0 x1 x2 x3
    have hg : (w1.alloc (.cells #[.int .i64 x0, .int .i64 x1, .int .i64 x2, .int .i64 x3] 3)).drew.heap[w1.heap.size]? = some (.cells #[.int .i64 x0, .int .i64 x1, .int .i64 x2, .int .i64 x3] 3 (0, 0)) := heap_alloc_new w1 _
    refine or_any _ w1.heap.size 4 [x0, x1, x2, x3] (by simp) ?_
    intro j hj
    rw [cell_of_row _ _ j _ _ (0, 0) hg]
    match j, hj with
    | 0, _ => rfl
    | 1, _ => rfl
    | 2, _ => rfl
    | 3, _ => rfl
  have q0 : ∀ W, Below w1.heap.size w1 W → W.cell? ⟨w.heap.size, 0, none⟩ = some (.int .u32 a.ino) := fun W hW => (ha1.below hW).c0
  have q1 : ∀ W, Below w1.heap.size w1 W → W.cell? ⟨w.heap.size, 1, none⟩ = some (.int .i64 a.part) := fun W hW => (ha1.below hW).c1
  have q2 : ∀ W, Below w1.heap.size w1 W → W.cell? ⟨w.heap.size, 2, none⟩ = some (.string a.name) := fun W hW => (ha1.below hW).c2
  have q3 : ∀ W, Below w1.heap.size w1 W → W.cell? ⟨w.heap.size, 3, none⟩ = some (.int .u32 a.chunk) := fun W hW => (ha1.below hW).c3
  have r0 : ∀ W, Below w1.heap.size w1 W → W.cell? ⟨w.heap.size + 1, 0, none⟩ = some (.int .u32 b.ino) := fun W hW => (hb1'.below hW).c0
  have r1 : ∀ W, Below w1.heap.size w1 W → W.cell? ⟨w.heap.size + 1, 1, none⟩ = some (.int .i64 b.part) := fun W hW => (hb1'.below hW).c1
  have r2 : ∀ W, Below w1.heap.size w1 W → W.cell? ⟨w.heap.size + 1, 2, none⟩ = some (.string b.name) := fun W hW => (hb1'.below hW).c2
  have r3 : ∀ W, Below w1.heap.size w1 W → W.cell? ⟨w.heap.size + 1, 3, none⟩ = some (.int .u32 b.chunk) := fun W hW => (hb1'.below hW).c3
  go_enter Try.func37, Try.ntmps37
  go_wp2_with fail
  rw [← hw1]
  clear hw1 ha1 hb1'
  refine wp_region_noPanic ?_
  go_region_held (fun W => Below w1.heap.size w1 W) (first | assumption | exact (Below.refl _ _).drew | exact Below.alloc (by assumption) (Below.size (by assumption)) _ | exact keep2 (by assumption) (by assumption))
    (first
      | (go_at_call 46; refine (cmpU_any _ _ _).mono ?_; rintro e w2 ⟨rfl, rfl⟩)
      | (go_at_call 47; refine (cmpI_any _ _ _).mono ?_; rintro e w2 ⟨rfl, rfl⟩)
      | (go_at_call 48; refine (cmpS_any _ _ _).mono ?_; rintro e w2 ⟨rfl, rfl⟩)
      | (go_at_call 45; refine (hOr _ _ _ _).mono ?_; rintro e w3 ⟨rfl, rfl⟩))
  refine NoPanic.normal ?_
  clear q0 q1 q2 q3 r0 r1 r2 r3 hOr
  go_wp2
  go_ret
  exact ⟨rfl, thenB hb1 (by assumption)⟩

end Go.Proofs.Ytmifpeocgikbeab
