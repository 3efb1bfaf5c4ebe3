/- The contract of the document's CheckInode. -/
import Derived.Test.YtpbokenambjclaaISmall
namespace Go.Proofs.Ytpbokenambjclaa
open Go.RowKit
set_option maxRecDepth 4000
set_option linter.unusedVariables false

set_option maxHeartbeats 1000000 in
theorem refCheck_m01 (w : World) (m l s : Int) (hm : m < 0) : Calls Try.prog 32 #[.agg #[.int .i64 1, .int .i64 m, .int .i64 l, .int .i64 s]] w fun e w' => e = .returned (.int .i64 11) ∧ Below w.heap.size w w' := by
  go_enter Try.func32, Try.ntmps32
  go_wp2
  go_ret
  exact ⟨rfl, (Below.refl _ w).alloc (Nat.le_refl _) _⟩

set_option maxHeartbeats 1000000 in
theorem refCheck_m02 (w : World) (m l s : Int) (hm : m < 0) : Calls Try.prog 32 #[.agg #[.int .i64 2, .int .i64 m, .int .i64 l, .int .i64 s]] w fun e w' => e = .returned (.int .i64 11) ∧ Below w.heap.size w w' := by
  go_enter Try.func32, Try.ntmps32
  go_wp2
  go_ret
  exact ⟨rfl, (Below.refl _ w).alloc (Nat.le_refl _) _⟩

set_option maxHeartbeats 1000000 in
theorem refCheck_m0k (w : World) (k m l s : Int) (hm : m < 0) (h1 : k ≠ 1) (h2 : k ≠ 2) : Calls Try.prog 32 #[.agg #[.int .i64 k, .int .i64 m, .int .i64 l, .int .i64 s]] w fun e w' => e = .returned (.int .i64 11) ∧ Below w.heap.size w w' := by
  go_enter Try.func32, Try.ntmps32
  go_wp2
  go_ret
  exact ⟨rfl, (Below.refl _ w).alloc (Nat.le_refl _) _⟩

set_option maxHeartbeats 1000000 in
theorem refCheck_m11 (w : World) (m l s : Int) (hm : 511 < m) : Calls Try.prog 32 #[.agg #[.int .i64 1, .int .i64 m, .int .i64 l, .int .i64 s]] w fun e w' => e = .returned (.int .i64 11) ∧ Below w.heap.size w w' := by
  go_enter Try.func32, Try.ntmps32
  go_wp2
  go_ret
  exact ⟨rfl, (Below.refl _ w).alloc (Nat.le_refl _) _⟩

set_option maxHeartbeats 1000000 in
theorem refCheck_m12 (w : World) (m l s : Int) (hm : 511 < m) : Calls Try.prog 32 #[.agg #[.int .i64 2, .int .i64 m, .int .i64 l, .int .i64 s]] w fun e w' => e = .returned (.int .i64 11) ∧ Below w.heap.size w w' := by
  go_enter Try.func32, Try.ntmps32
  go_wp2
  go_ret
  exact ⟨rfl, (Below.refl _ w).alloc (Nat.le_refl _) _⟩

set_option maxHeartbeats 1000000 in
theorem refCheck_m1k (w : World) (k m l s : Int) (hm : 511 < m) (h1 : k ≠ 1) (h2 : k ≠ 2) : Calls Try.prog 32 #[.agg #[.int .i64 k, .int .i64 m, .int .i64 l, .int .i64 s]] w fun e w' => e = .returned (.int .i64 11) ∧ Below w.heap.size w w' := by
  go_enter Try.func32, Try.ntmps32
  go_wp2
  go_ret
  exact ⟨rfl, (Below.refl _ w).alloc (Nat.le_refl _) _⟩

set_option maxHeartbeats 1000000 in
theorem refCheck_a (w : World) (m l s : Int) (hm0 : 0 ≤ m) (hm1 : m ≤ 511) (hl : l < 1) : Calls Try.prog 32 #[.agg #[.int .i64 1, .int .i64 m, .int .i64 l, .int .i64 s]] w fun e w' => e = .returned (.int .i64 11) ∧ Below w.heap.size w w' := by
  go_enter Try.func32, Try.ntmps32
  go_wp2
  go_ret
  exact ⟨rfl, (Below.refl _ w).alloc (Nat.le_refl _) _⟩

set_option maxHeartbeats 1000000 in
theorem refCheck_b (w : World) (m l s : Int) (hm0 : 0 ≤ m) (hm1 : m ≤ 511) (hl0 : 1 ≤ l) (hl : 15 < l) : Calls Try.prog 32 #[.agg #[.int .i64 1, .int .i64 m, .int .i64 l, .int .i64 s]] w fun e w' => e = .returned (.int .i64 11) ∧ Below w.heap.size w w' := by
  go_enter Try.func32, Try.ntmps32
  go_wp2
  go_ret
  exact ⟨rfl, (Below.refl _ w).alloc (Nat.le_refl _) _⟩

set_option maxHeartbeats 1000000 in
theorem refCheck_c (w : World) (m l s : Int) (hm0 : 0 ≤ m) (hm1 : m ≤ 511) (hl0 : 1 ≤ l) (hl1 : l ≤ 15) (hs : s < 0) : Calls Try.prog 32 #[.agg #[.int .i64 1, .int .i64 m, .int .i64 l, .int .i64 s]] w fun e w' => e = .returned (.int .i64 11) ∧ Below w.heap.size w w' := by
  go_enter Try.func32, Try.ntmps32
  go_wp2
  go_ret
  exact ⟨rfl, (Below.refl _ w).alloc (Nat.le_refl _) _⟩

set_option maxHeartbeats 1000000 in
theorem refCheck_d (w : World) (m l s : Int) (hm0 : 0 ≤ m) (hm1 : m ≤ 511) (hl0 : 1 ≤ l) (hl1 : l ≤ 15) (hs0 : 0 ≤ s) (hs : 512 < s) : Calls Try.prog 32 #[.agg #[.int .i64 1, .int .i64 m, .int .i64 l, .int .i64 s]] w fun e w' => e = .returned (.int .i64 11) ∧ Below w.heap.size w w' := by
  have hsd : decide (s ≤ 512) = false := decide_eq_false (by omega)
  go_enter Try.func32, Try.ntmps32
  go_wp2
  go_ret
  exact ⟨rfl, (Below.refl _ w).alloc (Nat.le_refl _) _⟩

set_option maxHeartbeats 1000000 in
theorem refCheck_e (w : World) (m l s : Int) (hm0 : 0 ≤ m) (hm1 : m ≤ 511) (hl0 : 1 ≤ l) (hl1 : l ≤ 15) (hs0 : 0 ≤ s) (hs : s ≤ 512) : Calls Try.prog 32 #[.agg #[.int .i64 1, .int .i64 m, .int .i64 l, .int .i64 s]] w fun e w' => e = .returned (.int .i64 0) ∧ Below w.heap.size w w' := by
  go_enter Try.func32, Try.ntmps32
  go_wp2
  go_ret
  exact ⟨rfl, (Below.refl _ w).alloc (Nat.le_refl _) _⟩

set_option maxHeartbeats 1000000 in
theorem refCheck_f (w : World) (m l s : Int) (hm0 : 0 ≤ m) (hm1 : m ≤ 511) (hl : l ≠ 1) : Calls Try.prog 32 #[.agg #[.int .i64 2, .int .i64 m, .int .i64 l, .int .i64 s]] w fun e w' => e = .returned (.int .i64 11) ∧ Below w.heap.size w w' := by
  go_enter Try.func32, Try.ntmps32
  go_wp2
  go_ret
  exact ⟨rfl, (Below.refl _ w).alloc (Nat.le_refl _) _⟩

set_option maxHeartbeats 1000000 in
theorem refCheck_g (w : World) (m l s : Int) (hm0 : 0 ≤ m) (hm1 : m ≤ 511) (hl : l = 1) (hs : s ≠ 0) : Calls Try.prog 32 #[.agg #[.int .i64 2, .int .i64 m, .int .i64 l, .int .i64 s]] w fun e w' => e = .returned (.int .i64 11) ∧ Below w.heap.size w w' := by
  have hsb : (s == 0) = false := by rw [beq_eq_false_iff_ne]; exact hs
  go_enter Try.func32, Try.ntmps32
  go_wp2
  go_ret
  exact ⟨rfl, (Below.refl _ w).alloc (Nat.le_refl _) _⟩

set_option maxHeartbeats 1000000 in
theorem refCheck_h (w : World) (m l s : Int) (hm0 : 0 ≤ m) (hm1 : m ≤ 511) (hl : l = 1) (hs : s = 0) : Calls Try.prog 32 #[.agg #[.int .i64 2, .int .i64 m, .int .i64 l, .int .i64 s]] w fun e w' => e = .returned (.int .i64 0) ∧ Below w.heap.size w w' := by
  go_enter Try.func32, Try.ntmps32
  go_wp2
  go_ret
  exact ⟨rfl, (Below.refl _ w).alloc (Nat.le_refl _) _⟩

set_option maxHeartbeats 1000000 in
theorem refCheck_i (w : World) (k m l s : Int) (hm0 : 0 ≤ m) (hm1 : m ≤ 511) (h1 : k ≠ 1) (h2 : k ≠ 2) : Calls Try.prog 32 #[.agg #[.int .i64 k, .int .i64 m, .int .i64 l, .int .i64 s]] w fun e w' => e = .returned (.int .i64 11) ∧ Below w.heap.size w w' := by
  go_enter Try.func32, Try.ntmps32
  go_wp2
  go_ret
  exact ⟨rfl, (Below.refl _ w).alloc (Nat.le_refl _) _⟩


theorem inoE_is (k m l s : Int) : inoE k m l s = if (0 ≤ m ∧ m ≤ 511) ∧ ((k = 1 ∧ (1 ≤ l ∧ l ≤ 15) ∧ 0 ≤ s ∧ s ≤ 512) ∨ (k = 2 ∧ l = 1 ∧ s = 0)) then 0 else 11 := by
  unfold inoE inoOk
  by_cases h1 : k = 1
  · subst h1
    simp [inB]
  · by_cases h2 : k = 2
    · subst h2
      simp [inB]
    · simp [inB, h1, h2]

theorem irefCheck_any (w : World) (k m l s : Int) : Calls Try.prog 32 #[.agg #[.int .i64 k, .int .i64 m, .int .i64 l, .int .i64 s]] w fun e w' => e = .returned (.int .i64 (inoE k m l s)) ∧ Below w.heap.size w w' := by
  rw [inoE_is]
  by_cases h1 : k = 1
  · subst h1
    by_cases a : m < 0
    · rw [if_neg (by omega)]; exact refCheck_m01 w m l s a
    · by_cases b : 511 < m
      · rw [if_neg (by omega)]; exact refCheck_m11 w m l s b
      · by_cases c : l < 1
        · rw [if_neg (by omega)]; exact refCheck_a w m l s (by omega) (by omega) c
        · by_cases d : 15 < l
          · rw [if_neg (by omega)]; exact refCheck_b w m l s (by omega) (by omega) (by omega) d
          · by_cases e : s < 0
            · rw [if_neg (by omega)]; exact refCheck_c w m l s (by omega) (by omega) (by omega) (by omega) e
            · by_cases f : 512 < s
              · rw [if_neg (by omega)]; exact refCheck_d w m l s (by omega) (by omega) (by omega) (by omega) (by omega) f
              · rw [if_pos (by omega)]; exact refCheck_e w m l s (by omega) (by omega) (by omega) (by omega) (by omega) (by omega)
  · by_cases h2 : k = 2
    · subst h2
      by_cases a : m < 0
      · rw [if_neg (by omega)]; exact refCheck_m02 w m l s a
      · by_cases b : 511 < m
        · rw [if_neg (by omega)]; exact refCheck_m12 w m l s b
        · by_cases c : l = 1
          · by_cases d : s = 0
            · rw [if_pos (by omega)]; exact refCheck_h w m l s (by omega) (by omega) c d
            · rw [if_neg (by omega)]; exact refCheck_g w m l s (by omega) (by omega) c d
          · rw [if_neg (by omega)]; exact refCheck_f w m l s (by omega) (by omega) c
    · rw [if_neg (by omega)]
      by_cases a : m < 0
      · exact refCheck_m0k w k m l s a h1 h2
      · by_cases b : 511 < m
        · exact refCheck_m1k w k m l s b h1 h2
        · exact refCheck_i w k m l s (by omega) (by omega) h1 h2

end Go.Proofs.Ytpbokenambjclaa
