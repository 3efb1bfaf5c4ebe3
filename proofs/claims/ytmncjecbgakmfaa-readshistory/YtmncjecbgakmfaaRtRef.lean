/- The contracts of the document's Check and Meet. -/
import Derived.Test.YtmncjecbgakmfaaRtMeet2
namespace Go.Proofs.Ytmncjecbgakmfaa
open Go.RowKit
set_option linter.unusedVariables false
set_option linter.unusedSimpArgs false
set_option maxRecDepth 100000

theorem neq_tcs (w : World) (k i l h k' i' l' h' : Int) (s s' : ByteArray) : (binOp .neq 24 (.agg #[.int .i64 k, .int .u32 i, .string s, .int .i64 l, .int .i64 h]) (.agg #[.int .i64 k', .int .u32 i', .string s', .int .i64 l', .int .i64 h'])).run Try.prog w = .ok (.bool (!tcEq ⟨k, i, s, l, h⟩ ⟨k', i', s', l', h'⟩)) w := neq_tc w ⟨k, i, s, l, h⟩ ⟨k', i', s', l', h'⟩

set_option maxHeartbeats 1000000 in
theorem rck_z1 (w : World) (k i l h : Int) (s : ByteArray) (hk : k = 1) (hi : i = 0) : Calls Try.prog 11 #[.agg #[.int .i64 k, .int .u32 i, .string s, .int .i64 l, .int .i64 h]] w fun e w' => e = .returned (.int .i64 1) ∧ Below w.heap.size w w' := by
  subst hk hi
  go_enter Try.func11, Try.ntmps11
  go_wp2
  all_goals (go_ret; refine ⟨?_, by first | exact bel1 _ _ | exact bel2 _ _ _⟩; first | rfl | (simp_all))

set_option maxHeartbeats 1000000 in
theorem rck_y1t (w : World) (k i l h : Int) (s : ByteArray) (hk : k = 1) (hi : ¬ i = 0) (hq : tcEq ⟨1, i, s, l, h⟩ ⟨1, i, ⟨#[]⟩, 0, 0⟩ = true) : Calls Try.prog 11 #[.agg #[.int .i64 k, .int .u32 i, .string s, .int .i64 l, .int .i64 h]] w fun e w' => e = .returned (.int .i64 0) ∧ Below w.heap.size w w' := by
  subst hk
  have heq := fun W => neq_tcs W 1 i l h 1 i 0 0 s ⟨#[]⟩
  rw [hq] at heq
  go_enter Try.func11, Try.ntmps11
  go_wp2
  all_goals (go_ret; refine ⟨?_, by first | exact bel1 _ _ | exact bel2 _ _ _⟩; first | rfl | (simp_all))

set_option maxHeartbeats 1000000 in
theorem rck_y1f (w : World) (k i l h : Int) (s : ByteArray) (hk : k = 1) (hi : ¬ i = 0) (hq : tcEq ⟨1, i, s, l, h⟩ ⟨1, i, ⟨#[]⟩, 0, 0⟩ = false) : Calls Try.prog 11 #[.agg #[.int .i64 k, .int .u32 i, .string s, .int .i64 l, .int .i64 h]] w fun e w' => e = .returned (.int .i64 1) ∧ Below w.heap.size w w' := by
  subst hk
  have heq := fun W => neq_tcs W 1 i l h 1 i 0 0 s ⟨#[]⟩
  rw [hq] at heq
  go_enter Try.func11, Try.ntmps11
  go_wp2
  all_goals (go_ret; refine ⟨?_, by first | exact bel1 _ _ | exact bel2 _ _ _⟩; first | rfl | (simp_all))

set_option maxHeartbeats 1000000 in
theorem rck_z2 (w : World) (k i l h : Int) (s : ByteArray) (hk : k = 2) (hi : i = 0) : Calls Try.prog 11 #[.agg #[.int .i64 k, .int .u32 i, .string s, .int .i64 l, .int .i64 h]] w fun e w' => e = .returned (.int .i64 1) ∧ Below w.heap.size w w' := by
  subst hk hi
  go_enter Try.func11, Try.ntmps11
  go_wp2
  all_goals (go_ret; refine ⟨?_, by first | exact bel1 _ _ | exact bel2 _ _ _⟩; first | rfl | (simp_all))

set_option maxHeartbeats 1000000 in
theorem rck_y2t (w : World) (k i l h : Int) (s : ByteArray) (hk : k = 2) (hi : ¬ i = 0) (hq : tcEq ⟨2, i, s, l, h⟩ ⟨2, i, ⟨#[]⟩, 0, 0⟩ = true) : Calls Try.prog 11 #[.agg #[.int .i64 k, .int .u32 i, .string s, .int .i64 l, .int .i64 h]] w fun e w' => e = .returned (.int .i64 0) ∧ Below w.heap.size w w' := by
  subst hk
  have heq := fun W => neq_tcs W 2 i l h 2 i 0 0 s ⟨#[]⟩
  rw [hq] at heq
  go_enter Try.func11, Try.ntmps11
  go_wp2
  all_goals (go_ret; refine ⟨?_, by first | exact bel1 _ _ | exact bel2 _ _ _⟩; first | rfl | (simp_all))

set_option maxHeartbeats 1000000 in
theorem rck_y2f (w : World) (k i l h : Int) (s : ByteArray) (hk : k = 2) (hi : ¬ i = 0) (hq : tcEq ⟨2, i, s, l, h⟩ ⟨2, i, ⟨#[]⟩, 0, 0⟩ = false) : Calls Try.prog 11 #[.agg #[.int .i64 k, .int .u32 i, .string s, .int .i64 l, .int .i64 h]] w fun e w' => e = .returned (.int .i64 1) ∧ Below w.heap.size w w' := by
  subst hk
  have heq := fun W => neq_tcs W 2 i l h 2 i 0 0 s ⟨#[]⟩
  rw [hq] at heq
  go_enter Try.func11, Try.ntmps11
  go_wp2
  all_goals (go_ret; refine ⟨?_, by first | exact bel1 _ _ | exact bel2 _ _ _⟩; first | rfl | (simp_all))

set_option maxHeartbeats 1000000 in
theorem rck_z3 (w : World) (k i l h : Int) (s : ByteArray) (hk : k = 3) (hi : i = 0) : Calls Try.prog 11 #[.agg #[.int .i64 k, .int .u32 i, .string s, .int .i64 l, .int .i64 h]] w fun e w' => e = .returned (.int .i64 1) ∧ Below w.heap.size w w' := by
  subst hk hi
  go_enter Try.func11, Try.ntmps11
  go_wp2
  all_goals (go_ret; refine ⟨?_, by first | exact bel1 _ _ | exact bel2 _ _ _⟩; first | rfl | (simp_all))

set_option maxHeartbeats 1000000 in
theorem rck_y3t (w : World) (k i l h : Int) (s : ByteArray) (hk : k = 3) (hi : ¬ i = 0) (hq : tcEq ⟨3, i, s, l, h⟩ ⟨3, i, ⟨#[]⟩, 0, 0⟩ = true) : Calls Try.prog 11 #[.agg #[.int .i64 k, .int .u32 i, .string s, .int .i64 l, .int .i64 h]] w fun e w' => e = .returned (.int .i64 0) ∧ Below w.heap.size w w' := by
  subst hk
  have heq := fun W => neq_tcs W 3 i l h 3 i 0 0 s ⟨#[]⟩
  rw [hq] at heq
  go_enter Try.func11, Try.ntmps11
  go_wp2
  all_goals (go_ret; refine ⟨?_, by first | exact bel1 _ _ | exact bel2 _ _ _⟩; first | rfl | (simp_all))

set_option maxHeartbeats 1000000 in
theorem rck_y3f (w : World) (k i l h : Int) (s : ByteArray) (hk : k = 3) (hi : ¬ i = 0) (hq : tcEq ⟨3, i, s, l, h⟩ ⟨3, i, ⟨#[]⟩, 0, 0⟩ = false) : Calls Try.prog 11 #[.agg #[.int .i64 k, .int .u32 i, .string s, .int .i64 l, .int .i64 h]] w fun e w' => e = .returned (.int .i64 1) ∧ Below w.heap.size w w' := by
  subst hk
  have heq := fun W => neq_tcs W 3 i l h 3 i 0 0 s ⟨#[]⟩
  rw [hq] at heq
  go_enter Try.func11, Try.ntmps11
  go_wp2
  all_goals (go_ret; refine ⟨?_, by first | exact bel1 _ _ | exact bel2 _ _ _⟩; first | rfl | (simp_all))

set_option maxHeartbeats 1000000 in
theorem rck_z6 (w : World) (k i l h : Int) (s : ByteArray) (hk : k = 6) (hi : i = 0) : Calls Try.prog 11 #[.agg #[.int .i64 k, .int .u32 i, .string s, .int .i64 l, .int .i64 h]] w fun e w' => e = .returned (.int .i64 1) ∧ Below w.heap.size w w' := by
  subst hk hi
  go_enter Try.func11, Try.ntmps11
  go_wp2
  all_goals (go_ret; refine ⟨?_, by first | exact bel1 _ _ | exact bel2 _ _ _⟩; first | rfl | (simp_all))

set_option maxHeartbeats 1000000 in
theorem rck_y6t (w : World) (k i l h : Int) (s : ByteArray) (hk : k = 6) (hi : ¬ i = 0) (hq : tcEq ⟨6, i, s, l, h⟩ ⟨6, i, ⟨#[]⟩, 0, 0⟩ = true) : Calls Try.prog 11 #[.agg #[.int .i64 k, .int .u32 i, .string s, .int .i64 l, .int .i64 h]] w fun e w' => e = .returned (.int .i64 0) ∧ Below w.heap.size w w' := by
  subst hk
  have heq := fun W => neq_tcs W 6 i l h 6 i 0 0 s ⟨#[]⟩
  rw [hq] at heq
  go_enter Try.func11, Try.ntmps11
  go_wp2
  all_goals (go_ret; refine ⟨?_, by first | exact bel1 _ _ | exact bel2 _ _ _⟩; first | rfl | (simp_all))

set_option maxHeartbeats 1000000 in
theorem rck_y6f (w : World) (k i l h : Int) (s : ByteArray) (hk : k = 6) (hi : ¬ i = 0) (hq : tcEq ⟨6, i, s, l, h⟩ ⟨6, i, ⟨#[]⟩, 0, 0⟩ = false) : Calls Try.prog 11 #[.agg #[.int .i64 k, .int .u32 i, .string s, .int .i64 l, .int .i64 h]] w fun e w' => e = .returned (.int .i64 1) ∧ Below w.heap.size w w' := by
  subst hk
  have heq := fun W => neq_tcs W 6 i l h 6 i 0 0 s ⟨#[]⟩
  rw [hq] at heq
  go_enter Try.func11, Try.ntmps11
  go_wp2
  all_goals (go_ret; refine ⟨?_, by first | exact bel1 _ _ | exact bel2 _ _ _⟩; first | rfl | (simp_all))

set_option maxHeartbeats 1000000 in
theorem rck_z7 (w : World) (k i l h : Int) (s : ByteArray) (hk : k = 7) (hi : i = 0) : Calls Try.prog 11 #[.agg #[.int .i64 k, .int .u32 i, .string s, .int .i64 l, .int .i64 h]] w fun e w' => e = .returned (.int .i64 1) ∧ Below w.heap.size w w' := by
  subst hk hi
  go_enter Try.func11, Try.ntmps11
  go_wp2
  all_goals (go_ret; refine ⟨?_, by first | exact bel1 _ _ | exact bel2 _ _ _⟩; first | rfl | (simp_all))

set_option maxHeartbeats 1000000 in
theorem rck_y7t (w : World) (k i l h : Int) (s : ByteArray) (hk : k = 7) (hi : ¬ i = 0) (hq : tcEq ⟨7, i, s, l, h⟩ ⟨7, i, ⟨#[]⟩, 0, 0⟩ = true) : Calls Try.prog 11 #[.agg #[.int .i64 k, .int .u32 i, .string s, .int .i64 l, .int .i64 h]] w fun e w' => e = .returned (.int .i64 0) ∧ Below w.heap.size w w' := by
  subst hk
  have heq := fun W => neq_tcs W 7 i l h 7 i 0 0 s ⟨#[]⟩
  rw [hq] at heq
  go_enter Try.func11, Try.ntmps11
  go_wp2
  all_goals (go_ret; refine ⟨?_, by first | exact bel1 _ _ | exact bel2 _ _ _⟩; first | rfl | (simp_all))

set_option maxHeartbeats 1000000 in
theorem rck_y7f (w : World) (k i l h : Int) (s : ByteArray) (hk : k = 7) (hi : ¬ i = 0) (hq : tcEq ⟨7, i, s, l, h⟩ ⟨7, i, ⟨#[]⟩, 0, 0⟩ = false) : Calls Try.prog 11 #[.agg #[.int .i64 k, .int .u32 i, .string s, .int .i64 l, .int .i64 h]] w fun e w' => e = .returned (.int .i64 1) ∧ Below w.heap.size w w' := by
  subst hk
  have heq := fun W => neq_tcs W 7 i l h 7 i 0 0 s ⟨#[]⟩
  rw [hq] at heq
  go_enter Try.func11, Try.ntmps11
  go_wp2
  all_goals (go_ret; refine ⟨?_, by first | exact bel1 _ _ | exact bel2 _ _ _⟩; first | rfl | (simp_all))

set_option maxHeartbeats 1000000 in
theorem rck_b0 (w : World) (k i l h : Int) (s : ByteArray) (hk : k = 4) (hi : i = 0) : Calls Try.prog 11 #[.agg #[.int .i64 k, .int .u32 i, .string s, .int .i64 l, .int .i64 h]] w fun e w' => e = .returned (.int .i64 1) ∧ Below w.heap.size w w' := by
  subst hk hi
  go_enter Try.func11, Try.ntmps11
  go_wp2
  all_goals (go_ret; refine ⟨?_, by first | exact bel1 _ _ | exact bel2 _ _ _⟩; first | rfl | (simp_all))

set_option maxHeartbeats 1000000 in
theorem rck_b1 (w : World) (k i l h : Int) (s : ByteArray) (hk : k = 4) (hi : ¬ i = 0) (h1 : ¬ l ≥ 0) : Calls Try.prog 11 #[.agg #[.int .i64 k, .int .u32 i, .string s, .int .i64 l, .int .i64 h]] w fun e w' => e = .returned (.int .i64 1) ∧ Below w.heap.size w w' := by
  subst hk
  go_enter Try.func11, Try.ntmps11
  go_wp2
  all_goals (go_ret; refine ⟨?_, by first | exact bel1 _ _ | exact bel2 _ _ _⟩; first | rfl | (simp_all))

set_option maxHeartbeats 1000000 in
theorem rck_b2 (w : World) (k i l h : Int) (s : ByteArray) (hk : k = 4) (hi : ¬ i = 0) (h1 : l ≥ 0) (h2 : ¬ l < h) : Calls Try.prog 11 #[.agg #[.int .i64 k, .int .u32 i, .string s, .int .i64 l, .int .i64 h]] w fun e w' => e = .returned (.int .i64 1) ∧ Below w.heap.size w w' := by
  subst hk
  go_enter Try.func11, Try.ntmps11
  go_wp2
  all_goals (go_ret; refine ⟨?_, by first | exact bel1 _ _ | exact bel2 _ _ _⟩; first | rfl | (simp_all))

set_option maxHeartbeats 1000000 in
theorem rck_b3 (w : World) (k i l h : Int) (s : ByteArray) (hk : k = 4) (hi : ¬ i = 0) (h1 : l ≥ 0) (h2 : l < h) (h3 : ¬ h ≤ 512) : Calls Try.prog 11 #[.agg #[.int .i64 k, .int .u32 i, .string s, .int .i64 l, .int .i64 h]] w fun e w' => e = .returned (.int .i64 1) ∧ Below w.heap.size w w' := by
  subst hk
  go_enter Try.func11, Try.ntmps11
  go_wp2
  all_goals (go_ret; refine ⟨?_, by first | exact bel1 _ _ | exact bel2 _ _ _⟩; first | rfl | (simp_all))

set_option maxHeartbeats 1000000 in
theorem rck_b4t (w : World) (k i l h : Int) (s : ByteArray) (hk : k = 4) (hi : ¬ i = 0) (h1 : l ≥ 0) (h2 : l < h) (h3 : h ≤ 512) (hq : tcEq ⟨4, i, s, l, h⟩ ⟨4, i, ⟨#[]⟩, l, h⟩ = true) : Calls Try.prog 11 #[.agg #[.int .i64 k, .int .u32 i, .string s, .int .i64 l, .int .i64 h]] w fun e w' => e = .returned (.int .i64 0) ∧ Below w.heap.size w w' := by
  subst hk
  have heq := fun W => neq_tcs W 4 i l h 4 i l h s ⟨#[]⟩
  rw [hq] at heq
  go_enter Try.func11, Try.ntmps11
  go_wp2
  all_goals (go_ret; refine ⟨?_, by first | exact bel1 _ _ | exact bel2 _ _ _⟩; first | rfl | (simp_all))

set_option maxHeartbeats 1000000 in
theorem rck_b4f (w : World) (k i l h : Int) (s : ByteArray) (hk : k = 4) (hi : ¬ i = 0) (h1 : l ≥ 0) (h2 : l < h) (h3 : h ≤ 512) (hq : tcEq ⟨4, i, s, l, h⟩ ⟨4, i, ⟨#[]⟩, l, h⟩ = false) : Calls Try.prog 11 #[.agg #[.int .i64 k, .int .u32 i, .string s, .int .i64 l, .int .i64 h]] w fun e w' => e = .returned (.int .i64 1) ∧ Below w.heap.size w w' := by
  subst hk
  have heq := fun W => neq_tcs W 4 i l h 4 i l h s ⟨#[]⟩
  rw [hq] at heq
  go_enter Try.func11, Try.ntmps11
  go_wp2
  all_goals (go_ret; refine ⟨?_, by first | exact bel1 _ _ | exact bel2 _ _ _⟩; first | rfl | (simp_all))

set_option maxHeartbeats 1000000 in
theorem rck_n0 (w : World) (k i l h : Int) (s : ByteArray) (hk : k = 5) (hi : i = 0) : Calls Try.prog 11 #[.agg #[.int .i64 k, .int .u32 i, .string s, .int .i64 l, .int .i64 h]] w fun e w' => e = .returned (.int .i64 1) ∧ Below w.heap.size w w' := by
  subst hk hi
  go_enter Try.func11, Try.ntmps11
  go_wp2
  all_goals (go_ret; refine ⟨?_, by first | exact bel1 _ _ | exact bel2 _ _ _⟩; first | rfl | (simp_all))

set_option maxHeartbeats 1000000 in
theorem rck_n1 (w : World) (k i l h : Int) (s : ByteArray) (hk : k = 5) (hi : ¬ i = 0) (hs : s.toList.isEmpty = true) : Calls Try.prog 11 #[.agg #[.int .i64 k, .int .u32 i, .string s, .int .i64 l, .int .i64 h]] w fun e w' => e = .returned (.int .i64 1) ∧ Below w.heap.size w w' := by
  subst hk
  go_enter Try.func11, Try.ntmps11
  go_wp2
  all_goals (go_ret; refine ⟨?_, by first | exact bel1 _ _ | exact bel2 _ _ _⟩; first | rfl | (simp_all))

set_option maxHeartbeats 1000000 in
theorem rck_n2t (w : World) (k i l h : Int) (s : ByteArray) (hk : k = 5) (hi : ¬ i = 0) (hs : s.toList.isEmpty = false) (hq : tcEq ⟨5, i, s, l, h⟩ ⟨5, i, s, 0, 0⟩ = true) : Calls Try.prog 11 #[.agg #[.int .i64 k, .int .u32 i, .string s, .int .i64 l, .int .i64 h]] w fun e w' => e = .returned (.int .i64 0) ∧ Below w.heap.size w w' := by
  subst hk
  have heq := fun W => neq_tcs W 5 i l h 5 i 0 0 s s
  rw [hq] at heq
  go_enter Try.func11, Try.ntmps11
  go_wp2
  all_goals (go_ret; refine ⟨?_, by first | exact bel1 _ _ | exact bel2 _ _ _⟩; first | rfl | (simp_all))

set_option maxHeartbeats 1000000 in
theorem rck_n2f (w : World) (k i l h : Int) (s : ByteArray) (hk : k = 5) (hi : ¬ i = 0) (hs : s.toList.isEmpty = false) (hq : tcEq ⟨5, i, s, l, h⟩ ⟨5, i, s, 0, 0⟩ = false) : Calls Try.prog 11 #[.agg #[.int .i64 k, .int .u32 i, .string s, .int .i64 l, .int .i64 h]] w fun e w' => e = .returned (.int .i64 1) ∧ Below w.heap.size w w' := by
  subst hk
  have heq := fun W => neq_tcs W 5 i l h 5 i 0 0 s s
  rw [hq] at heq
  go_enter Try.func11, Try.ntmps11
  go_wp2
  all_goals (go_ret; refine ⟨?_, by first | exact bel1 _ _ | exact bel2 _ _ _⟩; first | rfl | (simp_all))

set_option maxHeartbeats 1000000 in
theorem rck_d (w : World) (k i l h : Int) (s : ByteArray) (h4 : ¬ k = 4) (h5 : ¬ k = 5) (h1 : ¬ k = 1) (h2 : ¬ k = 2) (h3 : ¬ k = 3) (h6 : ¬ k = 6) (h7 : ¬ k = 7) : Calls Try.prog 11 #[.agg #[.int .i64 k, .int .u32 i, .string s, .int .i64 l, .int .i64 h]] w fun e w' => e = .returned (.int .i64 1) ∧ Below w.heap.size w w' := by
  go_enter Try.func11, Try.ntmps11
  go_wp2
  all_goals (go_ret; refine ⟨?_, by first | exact bel1 _ _ | exact bel2 _ _ _⟩; first | rfl | (simp_all))

theorem eqN_tc (k i : Int) (s : ByteArray) (l h : Int) : tcEq ⟨k, i, s, l, h⟩ ⟨k, i, ⟨#[]⟩, 0, 0⟩ = (s.toList == [] && (l == 0 && h == 0)) := by
  have e : (⟨#[]⟩ : ByteArray).toList = [] := by simp [ByteArray.toList_eq]
  simp only [tcEq, e, beq_self_eq_true, Bool.true_and, Bool.and_assoc]
theorem eqB_tc (k i : Int) (s : ByteArray) (l h : Int) : tcEq ⟨k, i, s, l, h⟩ ⟨k, i, ⟨#[]⟩, l, h⟩ = (s.toList == []) := by
  have e : (⟨#[]⟩ : ByteArray).toList = [] := by simp [ByteArray.toList_eq]
  simp only [tcEq, e, beq_self_eq_true, Bool.true_and, Bool.and_true]
theorem eqS_tc (k i : Int) (s : ByteArray) (l h : Int) : tcEq ⟨k, i, s, l, h⟩ ⟨k, i, s, 0, 0⟩ = (l == 0 && h == 0) := by
  simp only [tcEq, beq_self_eq_true, Bool.true_and]

theorem rck_any (w : World) (t : Tc) : Calls Try.prog 11 #[.agg (tcC t)] w fun e w' => e = .returned (.int .i64 (ckE t)) ∧ Below w.heap.size w w' := by
  obtain ⟨k, i, s, l, h⟩ := t
  unfold tcC
  have fin : ∀ {b : Int}, b = ckE ⟨k, i, s, l, h⟩ → Calls Try.prog 11 #[.agg #[.int .i64 k, .int .u32 i, .string s, .int .i64 l, .int .i64 h]] w (fun e w' => e = .returned (.int .i64 b) ∧ Below w.heap.size w w') → Calls Try.prog 11 #[.agg #[.int .i64 k, .int .u32 i, .string s, .int .i64 l, .int .i64 h]] w (fun e w' => e = .returned (.int .i64 (ckE ⟨k, i, s, l, h⟩)) ∧ Below w.heap.size w w') := fun e h => by rw [← e]; exact h
  have ee : s.toList.isEmpty = (s.toList == []) := by cases s.toList <;> rfl
  have no : mayB ⟨k, i, s, l, h⟩ = false → (1 : Int) = ckE ⟨k, i, s, l, h⟩ := fun h => by unfold ckE; rw [h]; rfl
  have yes : mayB ⟨k, i, s, l, h⟩ = true → (0 : Int) = ckE ⟨k, i, s, l, h⟩ := fun h => by unfold ckE; rw [h]; rfl
  by_cases h4 : k = 4
  · by_cases hi : i = 0
    · exact fin (no (by simp [mayB, hi])) (rck_b0 w k i l h s h4 hi)
    by_cases h1 : l ≥ 0
    · by_cases h2 : l < h
      · by_cases h3 : h ≤ 512
        · have a1 : decide (0 ≤ l) = true := decide_eq_true (by omega)
          cases hq : tcEq ⟨4, i, s, l, h⟩ ⟨4, i, ⟨#[]⟩, l, h⟩ with
          | true => refine fin (yes ?_) (rck_b4t w k i l h s h4 hi h1 h2 h3 hq); rw [eqB_tc] at hq; simp [mayB, h4, hi, h2, h3, a1, noName, hq]
          | false => refine fin (no ?_) (rck_b4f w k i l h s h4 hi h1 h2 h3 hq); rw [eqB_tc] at hq; simp [mayB, h4, hi, h2, h3, a1, noName, hq]
        · exact fin (no (by simp [mayB, h4, h3])) (rck_b3 w k i l h s h4 hi h1 h2 h3)
      · exact fin (no (by simp [mayB, h4, h2])) (rck_b2 w k i l h s h4 hi h1 h2)
    · have : decide (0 ≤ l) = false := decide_eq_false (by omega)
      exact fin (no (by simp [mayB, h4, this])) (rck_b1 w k i l h s h4 hi h1)
  by_cases h5 : k = 5
  · by_cases hi : i = 0
    · exact fin (no (by simp [mayB, hi])) (rck_n0 w k i l h s h5 hi)
    cases hs : s.toList.isEmpty with
    | true =>
      refine fin (no ?_) (rck_n1 w k i l h s h5 hi hs)
      rw [ee] at hs
      simp [mayB, h5, noName, hs]
    | false =>
      cases hq : tcEq ⟨5, i, s, l, h⟩ ⟨5, i, s, 0, 0⟩ with
      | true => refine fin (yes ?_) (rck_n2t w k i l h s h5 hi hs hq); rw [eqS_tc] at hq; rw [ee] at hs; simp [mayB, h5, hi, noName, noSpan, hs, hq]
      | false => refine fin (no ?_) (rck_n2f w k i l h s h5 hi hs hq); rw [eqS_tc] at hq; rw [ee] at hs; simp only [mayB, h5, noName, noSpan, hs, hq]; simp
  by_cases h1 : k = 1
  · by_cases hi : i = 0
    · exact fin (no (by simp [mayB, hi])) (rck_z1 w k i l h s h1 hi)
    cases hq : tcEq ⟨1, i, s, l, h⟩ ⟨1, i, ⟨#[]⟩, 0, 0⟩ with
    | true => refine fin (yes ?_) (rck_y1t w k i l h s h1 hi hq); rw [eqN_tc] at hq; simp only [mayB, h1, noName, noSpan, bareK, Bool.and_assoc, hq]; simp [hi]
    | false => refine fin (no ?_) (rck_y1f w k i l h s h1 hi hq); rw [eqN_tc] at hq; simp only [mayB, h1, noName, noSpan, bareK, Bool.and_assoc, hq]; simp
  by_cases h2 : k = 2
  · by_cases hi : i = 0
    · exact fin (no (by simp [mayB, hi])) (rck_z2 w k i l h s h2 hi)
    cases hq : tcEq ⟨2, i, s, l, h⟩ ⟨2, i, ⟨#[]⟩, 0, 0⟩ with
    | true => refine fin (yes ?_) (rck_y2t w k i l h s h2 hi hq); rw [eqN_tc] at hq; simp only [mayB, h2, noName, noSpan, bareK, Bool.and_assoc, hq]; simp [hi]
    | false => refine fin (no ?_) (rck_y2f w k i l h s h2 hi hq); rw [eqN_tc] at hq; simp only [mayB, h2, noName, noSpan, bareK, Bool.and_assoc, hq]; simp
  by_cases h3 : k = 3
  · by_cases hi : i = 0
    · exact fin (no (by simp [mayB, hi])) (rck_z3 w k i l h s h3 hi)
    cases hq : tcEq ⟨3, i, s, l, h⟩ ⟨3, i, ⟨#[]⟩, 0, 0⟩ with
    | true => refine fin (yes ?_) (rck_y3t w k i l h s h3 hi hq); rw [eqN_tc] at hq; simp only [mayB, h3, noName, noSpan, bareK, Bool.and_assoc, hq]; simp [hi]
    | false => refine fin (no ?_) (rck_y3f w k i l h s h3 hi hq); rw [eqN_tc] at hq; simp only [mayB, h3, noName, noSpan, bareK, Bool.and_assoc, hq]; simp
  by_cases h6 : k = 6
  · by_cases hi : i = 0
    · exact fin (no (by simp [mayB, hi])) (rck_z6 w k i l h s h6 hi)
    cases hq : tcEq ⟨6, i, s, l, h⟩ ⟨6, i, ⟨#[]⟩, 0, 0⟩ with
    | true => refine fin (yes ?_) (rck_y6t w k i l h s h6 hi hq); rw [eqN_tc] at hq; simp only [mayB, h6, noName, noSpan, bareK, Bool.and_assoc, hq]; simp [hi]
    | false => refine fin (no ?_) (rck_y6f w k i l h s h6 hi hq); rw [eqN_tc] at hq; simp only [mayB, h6, noName, noSpan, bareK, Bool.and_assoc, hq]; simp
  by_cases h7 : k = 7
  · by_cases hi : i = 0
    · exact fin (no (by simp [mayB, hi])) (rck_z7 w k i l h s h7 hi)
    cases hq : tcEq ⟨7, i, s, l, h⟩ ⟨7, i, ⟨#[]⟩, 0, 0⟩ with
    | true => refine fin (yes ?_) (rck_y7t w k i l h s h7 hi hq); rw [eqN_tc] at hq; simp only [mayB, h7, noName, noSpan, bareK, Bool.and_assoc, hq]; simp [hi]
    | false => refine fin (no ?_) (rck_y7f w k i l h s h7 hi hq); rw [eqN_tc] at hq; simp only [mayB, h7, noName, noSpan, bareK, Bool.and_assoc, hq]; simp
  exact fin (no (by simp [mayB, h1, h2, h3, h4, h5, h6, h7, bareK])) (rck_d w k i l h s h4 h5 h1 h2 h3 h6 h7)

end Go.Proofs.Ytmncjecbgakmfaa
