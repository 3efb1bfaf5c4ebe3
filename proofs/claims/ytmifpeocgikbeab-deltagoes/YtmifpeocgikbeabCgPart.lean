/- The contract of delta.partOf. -/
import Derived.Test.YtmifpeocgikbeabCgWith
namespace Go.Proofs.Ytmifpeocgikbeab
open Go.RowKit
set_option linter.unusedVariables false
set_option linter.unusedSimpArgs false
set_option maxRecDepth 100000

def fnV (n : Nat) : Value := .func (.func n) #[] #[]
theorem ret_part {fn : Func} {R : Ending → World → Prop} {a : Act} {w : World} {p : Tmp} (h : fn.results = #[.cell p 81]) (g : Nat) (x y : Value) (hp : a.tmps.getD p undef = .pointer (some ⟨g, 0, none⟩))
    (hg : w.heap[g]? = some (.cells #[x, y] 81 (0, 0))) (hd : a.defers = []) (hR : R (.returned (.agg #[x, y])) w) : bodyPost Try.prog fn R .ret a w :=
  bodyPost_ret (results_cell_row h a.tmps w g _ _ _ _ hp hg Try.underlying81 rfl (by kernel_rfl)) hd hR

/-- The table of the parts' functions. -/
def partA : Array Value := #[.nilFunc, .nilFunc, .func (.func 50) #[] #[], .func (.func 51) #[] #[], .func (.func 52) #[] #[], .func (.func 53) #[] #[], .func (.func 54) #[] #[], .func (.func 55) #[] #[]]

set_option maxHeartbeats 1000000 in
theorem partOf_1 (w : World) (i c : Int) (n : ByteArray) : Calls Try.prog 39 #[plV ⟨i, 1, n, c⟩] w fun e w' => e = .returned (.agg #[.func (.func 50) #[] #[], .func (.func 51) #[] #[]]) ∧ Below w.heap.size w w' := by
  have hix : ∀ W, (Instr.index 91 (.agg #[.nilFunc, .nilFunc, .func (.func 50) #[] #[], .func (.func 51) #[] #[], .func (.func 52) #[] #[], .func (.func 53) #[] #[], .func (.func 54) #[] #[], .func (.func 55) #[] #[]]) (.int .i64 1)).run Try.prog W = .ok (.agg #[.func (.func 50) #[] #[], .func (.func 51) #[] #[]]) W := fun W => by kernel_rfl
  obtain ⟨w1, hw1⟩ : ∃ w1, (w.alloc (.cells #[.int .u32 i, .int .i64 1, .string n, .int .u32 c] 25)).alloc (.cells #[.nilFunc, .nilFunc] 81) = w1 := ⟨_, rfl⟩
  have hr1 : w1.heap[w.heap.size + 1]? = some (.cells #[.nilFunc, .nilFunc] 81 (0, 0)) := by
    have h := heap_alloc_new (w.alloc (.cells #[.int .u32 i, .int .i64 1, .string n, .int .u32 c] 25)) (.cells #[.nilFunc, .nilFunc] 81)
    rw [World.size_alloc] at h
    rw [← hw1]; exact h
  have hB1 : Below w.heap.size w w1 := by rw [← hw1]; exact ((Below.refl _ w).alloc (Nat.le_refl _) _).alloc (by simp) _
  have c1 : w1.cell? ⟨w.heap.size, 1, none⟩ = some (.int .i64 1) := by
    have h : PlAt w1 w.heap.size ⟨i, 1, n, c⟩ := by rw [← hw1]; exact (PlAt.laid w ⟨i, 1, n, c⟩).below ((Below.refl _ _).alloc (Nat.le_refl _) _)
    exact h.c1
  unfold plV
  go_enter Try.func39, Try.ntmps39
  go_wp2_with (refine wpList_store_row rfl 81 _ _ rfl (w.heap.size + 1) #[.func (.func 50) #[] #[], .func (.func 51) #[] #[]] rfl rfl 81 #[.nilFunc, .nilFunc] hr1 (by kernel_rfl) rfl (by kernel_rfl) ?_)
  refine ret_part rfl (w.heap.size + 1) _ _ rfl (setRow_heap w1 _ _ _ _ _ hr1) rfl ⟨rfl, below_setRow hB1 (by omega) _⟩

set_option maxHeartbeats 1000000 in
theorem partOf_2 (w : World) (i c : Int) (n : ByteArray) : Calls Try.prog 39 #[plV ⟨i, 2, n, c⟩] w fun e w' => e = .returned (.agg #[.func (.func 52) #[] #[], .func (.func 53) #[] #[]]) ∧ Below w.heap.size w w' := by
  have hix : ∀ W, (Instr.index 91 (.agg #[.nilFunc, .nilFunc, .func (.func 50) #[] #[], .func (.func 51) #[] #[], .func (.func 52) #[] #[], .func (.func 53) #[] #[], .func (.func 54) #[] #[], .func (.func 55) #[] #[]]) (.int .i64 2)).run Try.prog W = .ok (.agg #[.func (.func 52) #[] #[], .func (.func 53) #[] #[]]) W := fun W => by kernel_rfl
  obtain ⟨w1, hw1⟩ : ∃ w1, (w.alloc (.cells #[.int .u32 i, .int .i64 2, .string n, .int .u32 c] 25)).alloc (.cells #[.nilFunc, .nilFunc] 81) = w1 := ⟨_, rfl⟩
  have hr1 : w1.heap[w.heap.size + 1]? = some (.cells #[.nilFunc, .nilFunc] 81 (0, 0)) := by
    have h := heap_alloc_new (w.alloc (.cells #[.int .u32 i, .int .i64 2, .string n, .int .u32 c] 25)) (.cells #[.nilFunc, .nilFunc] 81)
    rw [World.size_alloc] at h
    rw [← hw1]; exact h
  have hB1 : Below w.heap.size w w1 := by rw [← hw1]; exact ((Below.refl _ w).alloc (Nat.le_refl _) _).alloc (by simp) _
  have c1 : w1.cell? ⟨w.heap.size, 1, none⟩ = some (.int .i64 2) := by
    have h : PlAt w1 w.heap.size ⟨i, 2, n, c⟩ := by rw [← hw1]; exact (PlAt.laid w ⟨i, 2, n, c⟩).below ((Below.refl _ _).alloc (Nat.le_refl _) _)
    exact h.c1
  unfold plV
  go_enter Try.func39, Try.ntmps39
  go_wp2_with (refine wpList_store_row rfl 81 _ _ rfl (w.heap.size + 1) #[.func (.func 52) #[] #[], .func (.func 53) #[] #[]] rfl rfl 81 #[.nilFunc, .nilFunc] hr1 (by kernel_rfl) rfl (by kernel_rfl) ?_)
  refine ret_part rfl (w.heap.size + 1) _ _ rfl (setRow_heap w1 _ _ _ _ _ hr1) rfl ⟨rfl, below_setRow hB1 (by omega) _⟩

set_option maxHeartbeats 1000000 in
theorem partOf_3 (w : World) (i c : Int) (n : ByteArray) : Calls Try.prog 39 #[plV ⟨i, 3, n, c⟩] w fun e w' => e = .returned (.agg #[.func (.func 54) #[] #[], .func (.func 55) #[] #[]]) ∧ Below w.heap.size w w' := by
  have hix : ∀ W, (Instr.index 91 (.agg #[.nilFunc, .nilFunc, .func (.func 50) #[] #[], .func (.func 51) #[] #[], .func (.func 52) #[] #[], .func (.func 53) #[] #[], .func (.func 54) #[] #[], .func (.func 55) #[] #[]]) (.int .i64 3)).run Try.prog W = .ok (.agg #[.func (.func 54) #[] #[], .func (.func 55) #[] #[]]) W := fun W => by kernel_rfl
  obtain ⟨w1, hw1⟩ : ∃ w1, (w.alloc (.cells #[.int .u32 i, .int .i64 3, .string n, .int .u32 c] 25)).alloc (.cells #[.nilFunc, .nilFunc] 81) = w1 := ⟨_, rfl⟩
  have hr1 : w1.heap[w.heap.size + 1]? = some (.cells #[.nilFunc, .nilFunc] 81 (0, 0)) := by
    have h := heap_alloc_new (w.alloc (.cells #[.int .u32 i, .int .i64 3, .string n, .int .u32 c] 25)) (.cells #[.nilFunc, .nilFunc] 81)
    rw [World.size_alloc] at h
    rw [← hw1]; exact h
  have hB1 : Below w.heap.size w w1 := by rw [← hw1]; exact ((Below.refl _ w).alloc (Nat.le_refl _) _).alloc (by simp) _
  have c1 : w1.cell? ⟨w.heap.size, 1, none⟩ = some (.int .i64 3) := by
    have h : PlAt w1 w.heap.size ⟨i, 3, n, c⟩ := by rw [← hw1]; exact (PlAt.laid w ⟨i, 3, n, c⟩).below ((Below.refl _ _).alloc (Nat.le_refl _) _)
    exact h.c1
  unfold plV
  go_enter Try.func39, Try.ntmps39
  go_wp2_with (refine wpList_store_row rfl 81 _ _ rfl (w.heap.size + 1) #[.func (.func 54) #[] #[], .func (.func 55) #[] #[]] rfl rfl 81 #[.nilFunc, .nilFunc] hr1 (by kernel_rfl) rfl (by kernel_rfl) ?_)
  refine ret_part rfl (w.heap.size + 1) _ _ rfl (setRow_heap w1 _ _ _ _ _ hr1) rfl ⟨rfl, below_setRow hB1 (by omega) _⟩

end Go.Proofs.Ytmifpeocgikbeab
