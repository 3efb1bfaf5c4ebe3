/- The contracts of reads.mayBe, Check, meetWithin and Meet. -/
import Derived.Test.YtmncjecbgakmfaaRtState
import Derived.BigQuiet
import Derived.Deep.QuietTactic
import Derived.Deep.RegionHeld3
namespace Go.Proofs.Ytmncjecbgakmfaa
open Go.RowKit
set_option linter.unusedVariables false
set_option linter.unusedSimpArgs false
set_option maxRecDepth 100000

theorem bel1 (w : World) (o : Obj) : Below w.heap.size w (w.alloc o) := (Below.refl _ _).alloc (Nat.le_refl _) _
theorem bel2 (w : World) (o p : Obj) : Below w.heap.size w ((w.alloc o).alloc p) := (bel1 w o).alloc (by simp) _
theorem bel3 (w : World) (o p : Obj) (a b : Nat) (u : Value) : Below w.heap.size w (((w.alloc o).alloc p).setCell ⟨w.heap.size + 1, a, none⟩ u) := (bel2 w o p).setCell (by simp) _
theorem toList_nil_iff {s : ByteArray} : s.toList = [] ↔ s = ⟨#[]⟩ := ⟨fun h => toList_inj (by rw [h]; simp [ByteArray.toList_eq]), fun h => by rw [h]; simp [ByteArray.toList_eq]⟩

set_option maxHeartbeats 1000000 in
theorem mayBe_b1 (w : World) (k i l h : Int) (s : ByteArray) (hk : k = 4) (h1 : l < 0) : Calls Try.prog 29 #[.agg #[.int .i64 k, .int .u32 i, .string s, .int .i64 l, .int .i64 h]] w fun e w' => e = .returned (.bool false) ∧ Below w.heap.size w w' := by
  subst hk
  go_enter Try.func29, Try.ntmps29
  go_wp2
  all_goals (go_ret; refine ⟨?_, by first | exact bel1 _ _ | exact bel2 _ _ _⟩; first | rfl | (simp_all))

set_option maxHeartbeats 1000000 in
theorem mayBe_b2 (w : World) (k i l h : Int) (s : ByteArray) (hk : k = 4) (h1 : ¬ l < 0) (h2 : l ≥ h) : Calls Try.prog 29 #[.agg #[.int .i64 k, .int .u32 i, .string s, .int .i64 l, .int .i64 h]] w fun e w' => e = .returned (.bool false) ∧ Below w.heap.size w w' := by
  subst hk
  go_enter Try.func29, Try.ntmps29
  go_wp2
  all_goals (go_ret; refine ⟨?_, by first | exact bel1 _ _ | exact bel2 _ _ _⟩; first | rfl | (simp_all))

set_option maxHeartbeats 1000000 in
theorem mayBe_b3 (w : World) (k i l h : Int) (s : ByteArray) (hk : k = 4) (h1 : ¬ l < 0) (h2 : ¬ l ≥ h) (h3 : h > 512) : Calls Try.prog 29 #[.agg #[.int .i64 k, .int .u32 i, .string s, .int .i64 l, .int .i64 h]] w fun e w' => e = .returned (.bool false) ∧ Below w.heap.size w w' := by
  subst hk
  go_enter Try.func29, Try.ntmps29
  go_wp2
  all_goals (go_ret; refine ⟨?_, by first | exact bel1 _ _ | exact bel2 _ _ _⟩; first | rfl | (simp_all))

set_option maxHeartbeats 1000000 in
theorem mayBe_b5 (w : World) (k i l h : Int) (s : ByteArray) (hk : k = 4) (h1 : ¬ l < 0) (h2 : ¬ l ≥ h) (h3 : ¬ h > 512) : Calls Try.prog 29 #[.agg #[.int .i64 k, .int .u32 i, .string s, .int .i64 l, .int .i64 h]] w fun e w' => e = .returned (.bool (i != 0 && tcEq ⟨0, 0, s, 0, 0⟩ ⟨0, 0, ⟨#[]⟩, 0, 0⟩)) ∧ Below w.heap.size w w' := by
  subst hk
  have heq := fun W => eq_tcs W 0 0 0 0 0 0 0 0 s ⟨#[]⟩
  go_enter Try.func29, Try.ntmps29
  go_wp2
  all_goals (go_ret; refine ⟨?_, by first | exact bel1 _ _ | exact bel2 _ _ _⟩; first | rfl | (simp_all))

set_option maxHeartbeats 1000000 in
theorem mayBe_n1 (w : World) (k i l h : Int) (s : ByteArray) (hk : k = 5) (hs : s.toList.isEmpty = true) : Calls Try.prog 29 #[.agg #[.int .i64 k, .int .u32 i, .string s, .int .i64 l, .int .i64 h]] w fun e w' => e = .returned (.bool false) ∧ Below w.heap.size w w' := by
  subst hk
  go_enter Try.func29, Try.ntmps29
  go_wp2
  all_goals (go_ret; refine ⟨?_, by first | exact bel1 _ _ | exact bel2 _ _ _⟩; first | rfl | (simp_all))

set_option maxHeartbeats 1000000 in
theorem mayBe_n3 (w : World) (k i l h : Int) (s : ByteArray) (hk : k = 5) (hs : s.toList.isEmpty = false) : Calls Try.prog 29 #[.agg #[.int .i64 k, .int .u32 i, .string s, .int .i64 l, .int .i64 h]] w fun e w' => e = .returned (.bool (i != 0 && tcEq ⟨0, 0, ⟨#[]⟩, l, h⟩ ⟨0, 0, ⟨#[]⟩, 0, 0⟩)) ∧ Below w.heap.size w w' := by
  subst hk
  have heq := fun W => eq_tcs W 0 0 l h 0 0 0 0 ⟨#[]⟩ ⟨#[]⟩
  go_enter Try.func29, Try.ntmps29
  go_wp2
  all_goals (go_ret; refine ⟨?_, by first | exact bel1 _ _ | exact bel2 _ _ _⟩; first | rfl | (simp_all))

set_option maxHeartbeats 1000000 in
theorem mayBe_y1 (w : World) (k i l h : Int) (s : ByteArray) (hk : k = 1) : Calls Try.prog 29 #[.agg #[.int .i64 k, .int .u32 i, .string s, .int .i64 l, .int .i64 h]] w fun e w' => e = .returned (.bool (i != 0 && tcEq ⟨0, 0, s, l, h⟩ ⟨0, 0, ⟨#[]⟩, 0, 0⟩)) ∧ Below w.heap.size w w' := by
  subst hk
  have heq := fun W => eq_tcs W 0 0 l h 0 0 0 0 s ⟨#[]⟩
  go_enter Try.func29, Try.ntmps29
  go_wp2
  all_goals (go_ret; refine ⟨?_, by first | exact bel1 _ _ | exact bel2 _ _ _⟩; first | rfl | (simp_all))

set_option maxHeartbeats 1000000 in
theorem mayBe_y2 (w : World) (k i l h : Int) (s : ByteArray) (hk : k = 2) : Calls Try.prog 29 #[.agg #[.int .i64 k, .int .u32 i, .string s, .int .i64 l, .int .i64 h]] w fun e w' => e = .returned (.bool (i != 0 && tcEq ⟨0, 0, s, l, h⟩ ⟨0, 0, ⟨#[]⟩, 0, 0⟩)) ∧ Below w.heap.size w w' := by
  subst hk
  have heq := fun W => eq_tcs W 0 0 l h 0 0 0 0 s ⟨#[]⟩
  go_enter Try.func29, Try.ntmps29
  go_wp2
  all_goals (go_ret; refine ⟨?_, by first | exact bel1 _ _ | exact bel2 _ _ _⟩; first | rfl | (simp_all))

set_option maxHeartbeats 1000000 in
theorem mayBe_y3 (w : World) (k i l h : Int) (s : ByteArray) (hk : k = 3) : Calls Try.prog 29 #[.agg #[.int .i64 k, .int .u32 i, .string s, .int .i64 l, .int .i64 h]] w fun e w' => e = .returned (.bool (i != 0 && tcEq ⟨0, 0, s, l, h⟩ ⟨0, 0, ⟨#[]⟩, 0, 0⟩)) ∧ Below w.heap.size w w' := by
  subst hk
  have heq := fun W => eq_tcs W 0 0 l h 0 0 0 0 s ⟨#[]⟩
  go_enter Try.func29, Try.ntmps29
  go_wp2
  all_goals (go_ret; refine ⟨?_, by first | exact bel1 _ _ | exact bel2 _ _ _⟩; first | rfl | (simp_all))

set_option maxHeartbeats 1000000 in
theorem mayBe_y6 (w : World) (k i l h : Int) (s : ByteArray) (hk : k = 6) : Calls Try.prog 29 #[.agg #[.int .i64 k, .int .u32 i, .string s, .int .i64 l, .int .i64 h]] w fun e w' => e = .returned (.bool (i != 0 && tcEq ⟨0, 0, s, l, h⟩ ⟨0, 0, ⟨#[]⟩, 0, 0⟩)) ∧ Below w.heap.size w w' := by
  subst hk
  have heq := fun W => eq_tcs W 0 0 l h 0 0 0 0 s ⟨#[]⟩
  go_enter Try.func29, Try.ntmps29
  go_wp2
  all_goals (go_ret; refine ⟨?_, by first | exact bel1 _ _ | exact bel2 _ _ _⟩; first | rfl | (simp_all))

set_option maxHeartbeats 1000000 in
theorem mayBe_y7 (w : World) (k i l h : Int) (s : ByteArray) (hk : k = 7) : Calls Try.prog 29 #[.agg #[.int .i64 k, .int .u32 i, .string s, .int .i64 l, .int .i64 h]] w fun e w' => e = .returned (.bool (i != 0 && tcEq ⟨0, 0, s, l, h⟩ ⟨0, 0, ⟨#[]⟩, 0, 0⟩)) ∧ Below w.heap.size w w' := by
  subst hk
  have heq := fun W => eq_tcs W 0 0 l h 0 0 0 0 s ⟨#[]⟩
  go_enter Try.func29, Try.ntmps29
  go_wp2
  all_goals (go_ret; refine ⟨?_, by first | exact bel1 _ _ | exact bel2 _ _ _⟩; first | rfl | (simp_all))

set_option maxHeartbeats 1000000 in
theorem mayBe_d (w : World) (k i l h : Int) (s : ByteArray) (h4 : ¬ k = 4) (h5 : ¬ k = 5) (h1 : ¬ k = 1) (h2 : ¬ k = 2) (h3 : ¬ k = 3) (h6 : ¬ k = 6) (h7 : ¬ k = 7) : Calls Try.prog 29 #[.agg #[.int .i64 k, .int .u32 i, .string s, .int .i64 l, .int .i64 h]] w fun e w' => e = .returned (.bool false) ∧ Below w.heap.size w w' := by
  go_enter Try.func29, Try.ntmps29
  go_wp2
  all_goals (go_ret; refine ⟨?_, by first | exact bel1 _ _ | exact bel2 _ _ _⟩; first | rfl | (simp_all))

theorem eq0_tc (s : ByteArray) (l h : Int) : tcEq ⟨0, 0, s, l, h⟩ ⟨0, 0, ⟨#[]⟩, 0, 0⟩ = (s.toList == [] && (l == 0 && h == 0)) := by
  have e : (⟨#[]⟩ : ByteArray).toList = [] := by simp [ByteArray.toList_eq]
  simp only [tcEq, e, beq_self_eq_true, Bool.true_and, Bool.and_assoc]

theorem mayBe_any (w : World) (t : Tc) : Calls Try.prog 29 #[.agg (tcC t)] w fun e w' => e = .returned (.bool (mayB t)) ∧ Below w.heap.size w w' := by
  obtain ⟨k, i, s, l, h⟩ := t
  unfold tcC
  have fin : ∀ {b : Bool}, b = mayB ⟨k, i, s, l, h⟩ → Calls Try.prog 29 #[.agg #[.int .i64 k, .int .u32 i, .string s, .int .i64 l, .int .i64 h]] w (fun e w' => e = .returned (.bool b) ∧ Below w.heap.size w w') → Calls Try.prog 29 #[.agg #[.int .i64 k, .int .u32 i, .string s, .int .i64 l, .int .i64 h]] w (fun e w' => e = .returned (.bool (mayB ⟨k, i, s, l, h⟩)) ∧ Below w.heap.size w w') := fun e h => by rw [← e]; exact h
  have ee : s.toList.isEmpty = (s.toList == []) := by cases s.toList <;> rfl
  by_cases h4 : k = 4
  · by_cases h1 : l < 0
    · refine fin ?_ (mayBe_b1 w k i l h s h4 h1)
      have : decide (0 ≤ l) = false := decide_eq_false (by omega)
      simp [mayB, h4, this]
    by_cases h2 : l ≥ h
    · refine fin ?_ (mayBe_b2 w k i l h s h4 h1 h2)
      have : decide (l < h) = false := decide_eq_false (by omega)
      simp [mayB, h4, this]
    by_cases h3 : h > 512
    · refine fin ?_ (mayBe_b3 w k i l h s h4 h1 h2 h3)
      have : decide (h ≤ 512) = false := decide_eq_false (by omega)
      simp [mayB, h4, this]
    refine fin ?_ (mayBe_b5 w k i l h s h4 h1 h2 h3)
    rw [eq0_tc]
    have a1 : decide (0 ≤ l) = true := decide_eq_true (by omega)
    have a2 : decide (l < h) = true := decide_eq_true (by omega)
    have a3 : decide (h ≤ 512) = true := decide_eq_true (by omega)
    simp [mayB, h4, a1, a2, a3, noName]
  by_cases h5 : k = 5
  · cases hs : s.toList.isEmpty with
    | true =>
      refine fin ?_ (mayBe_n1 w k i l h s h5 hs)
      rw [ee] at hs
      simp [mayB, h5, noName, hs]
    | false =>
      refine fin ?_ (mayBe_n3 w k i l h s h5 hs)
      rw [ee] at hs
      rw [eq0_tc]
      have e : (⟨#[]⟩ : ByteArray).toList = [] := by simp [ByteArray.toList_eq]
      simp [mayB, h5, noName, noSpan, hs, e]
  by_cases h1 : k = 1
  · refine fin ?_ (mayBe_y1 w k i l h s h1)
    rw [eq0_tc]
    simp [mayB, h1, noName, noSpan, bareK]
  by_cases h2 : k = 2
  · refine fin ?_ (mayBe_y2 w k i l h s h2)
    rw [eq0_tc]
    simp [mayB, h2, noName, noSpan, bareK]
  by_cases h3 : k = 3
  · refine fin ?_ (mayBe_y3 w k i l h s h3)
    rw [eq0_tc]
    simp [mayB, h3, noName, noSpan, bareK]
  by_cases h6 : k = 6
  · refine fin ?_ (mayBe_y6 w k i l h s h6)
    rw [eq0_tc]
    simp [mayB, h6, noName, noSpan, bareK]
  by_cases h7 : k = 7
  · refine fin ?_ (mayBe_y7 w k i l h s h7)
    rw [eq0_tc]
    simp [mayB, h7, noName, noSpan, bareK]
  refine fin ?_ (mayBe_d w k i l h s h4 h5 h1 h2 h3 h6 h7)
  simp [mayB, h1, h2, h3, h4, h5, h6, h7, bareK]

theorem check_any (w : World) (t : Tc) : Calls Try.prog 10 #[.agg (tcC t)] w fun e w' => e = .returned (.int .i64 (ckE t)) ∧ Below w.heap.size w w' := by
  have hm := mayBe_any (w.alloc (.cells (tcC t) 24)) t
  unfold ckE
  obtain ⟨k, i, s, l, h⟩ := t
  unfold tcC at *
  cases hb : mayB ⟨k, i, s, l, h⟩ with
  | true =>
    rw [hb] at hm
    go_enter Try.func10, Try.ntmps10
    go_wp2_with fail
    refine hm.mono ?_
    rintro e w2 ⟨rfl, hb2⟩
    go_wp2
    go_ret
    exact ⟨rfl, thenB (bel1 _ _) hb2⟩
  | false =>
    rw [hb] at hm
    go_enter Try.func10, Try.ntmps10
    go_wp2_with fail
    refine hm.mono ?_
    rintro e w2 ⟨rfl, hb2⟩
    go_wp2
    go_ret
    exact ⟨rfl, thenB (bel1 _ _) hb2⟩

end Go.Proofs.Ytmncjecbgakmfaa
