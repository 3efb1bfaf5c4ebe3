/- The contracts of reads.meetWithin and Meet, and of the document's Check and Meet. -/
import Derived.Test.YtmncjecbgakmfaaRtCheck
namespace Go.Proofs.Ytmncjecbgakmfaa
open Go.RowKit
set_option linter.unusedVariables false
set_option linter.unusedSimpArgs false
set_option maxRecDepth 100000

/-- What the program asks of two of one inode. -/
def progW (a b : Tc) : Bool :=
  if b.kind = 7 then true else if a.kind = 6 then b.kind == 5 else if a.kind = 4 then (if max a.lo b.lo ≥ min a.hi b.hi then false else if (a.name.toList == b.name.toList) = true then 4 == b.kind else false) else if a.kind = 5 then (if (a.name.toList == b.name.toList) = true then 5 == b.kind else false) else if a.kind = 1 then 1 == b.kind else if a.kind = 2 then 2 == b.kind else if a.kind = 3 then 3 == b.kind else false

theorem progW_eq {a b : Tc} (ha : mayB a = true) (hb : mayB b = true) : progW a b = withinB a b := by
  unfold progW withinB
  by_cases h7 : b.kind = 7
  · rw [if_pos h7, if_pos h7]
  rw [if_neg h7, if_neg h7]
  by_cases h6 : a.kind = 6
  · rw [if_pos h6, if_pos h6]
  rw [if_neg h6, if_neg h6]
  simp only [mayB, Bool.and_eq_true] at ha hb
  obtain ⟨_, ha⟩ := ha
  obtain ⟨_, hb⟩ := hb
  by_cases h4 : a.kind = 4
  · rw [if_pos h4]
    rw [if_pos h4] at ha
    by_cases hk : a.kind = b.kind
    · have h4' : b.kind = 4 := by omega
      rw [if_pos (show a.kind = b.kind ∧ a.kind ≠ 7 from ⟨hk, by omega⟩), if_pos h4]
      rw [if_pos h4'] at hb
      simp only [Bool.and_eq_true, noName, beq_iff_eq, decide_eq_true_eq] at ha hb
      rw [ha.1, hb.1, h4']
      have e : (max a.lo b.lo ≥ min a.hi b.hi) ↔ ¬ (a.lo < b.hi ∧ b.lo < a.hi) := by omega
      by_cases hq : a.lo < b.hi ∧ b.lo < a.hi
      · rw [if_neg (by rw [e]; exact not_not_intro hq)]
        simp [hq]
      · rw [if_pos (e.2 hq)]
        by_cases h1 : a.lo < b.hi
        · have : ¬ b.lo < a.hi := fun h => hq ⟨h1, h⟩
          simp [this]
        · simp [h1]
    · rw [if_neg (show ¬ (a.kind = b.kind ∧ a.kind ≠ 7) from fun h => hk h.1)]
      have : (4 == b.kind) = false := by rw [beq_eq_false_iff_ne]; omega
      rw [this]
      split
      · rfl
      · split <;> rfl
  rw [if_neg h4]
  by_cases h5 : a.kind = 5
  · rw [if_pos h5]
    by_cases hk : a.kind = b.kind
    · rw [if_pos (show a.kind = b.kind ∧ a.kind ≠ 7 from ⟨hk, by omega⟩), if_neg h4, if_pos h5]
      have : (5 == b.kind) = true := by rw [beq_iff_eq]; omega
      rw [this]
      cases a.name.toList == b.name.toList <;> rfl
    · rw [if_neg (show ¬ (a.kind = b.kind ∧ a.kind ≠ 7) from fun h => hk h.1)]
      have : (5 == b.kind) = false := by rw [beq_eq_false_iff_ne]; omega
      rw [this]
      split <;> rfl
  rw [if_neg h5]
  rw [if_neg h4, if_neg h5] at ha
  by_cases hk : a.kind = b.kind ∧ a.kind ≠ 7
  · rw [if_pos hk, if_neg h4, if_neg h5]
    simp only [Bool.and_eq_true, bareK, Bool.or_eq_true, beq_iff_eq] at ha
    obtain ⟨⟨ha, _⟩, _⟩ := ha
    rw [← hk.1]
    by_cases h1 : a.kind = 1
    · rw [if_pos h1, h1]; rfl
    by_cases h2 : a.kind = 2
    · rw [if_neg h1, if_pos h2, h2]; rfl
    by_cases h3 : a.kind = 3
    · rw [if_neg h1, if_neg h2, if_pos h3, h3]; rfl
    omega
  · rw [if_neg hk]
    have e1 : a.kind = 1 → (1 == b.kind) = false := fun h => by rw [beq_eq_false_iff_ne]; intro e; exact hk ⟨by omega, by omega⟩
    have e2 : a.kind = 2 → (2 == b.kind) = false := fun h => by rw [beq_eq_false_iff_ne]; intro e; exact hk ⟨by omega, by omega⟩
    have e3 : a.kind = 3 → (3 == b.kind) = false := fun h => by rw [beq_eq_false_iff_ne]; intro e; exact hk ⟨by omega, by omega⟩
    split
    · exact e1 ‹_›
    · split
      · exact e2 ‹_›
      · split
        · exact e3 ‹_›
        · rfl

set_option maxHeartbeats 1000000 in
theorem within_a (w : World) (k i l h k' i' l' h' : Int) (s s' : ByteArray) (hk' : k' = 7) : Calls Try.prog 30 #[.agg #[.int .i64 k, .int .u32 i, .string s, .int .i64 l, .int .i64 h], .agg #[.int .i64 k', .int .u32 i', .string s', .int .i64 l', .int .i64 h']] w fun e w' => e = .returned (.bool true) ∧ Below w.heap.size w w' := by
  subst hk'
  go_enter Try.func30, Try.ntmps30
  go_wp2
  all_goals (go_ret; refine ⟨?_, by first | exact bel1 _ _ | exact bel2 _ _ _⟩; first | rfl | (simp_all))

set_option maxHeartbeats 1000000 in
theorem within_b (w : World) (k i l h k' i' l' h' : Int) (s s' : ByteArray) (hk' : ¬ k' = 7) (hk : k = 6) : Calls Try.prog 30 #[.agg #[.int .i64 k, .int .u32 i, .string s, .int .i64 l, .int .i64 h], .agg #[.int .i64 k', .int .u32 i', .string s', .int .i64 l', .int .i64 h']] w fun e w' => e = .returned (.bool (k' == 5)) ∧ Below w.heap.size w w' := by
  subst hk
  go_enter Try.func30, Try.ntmps30
  go_wp2
  all_goals (go_ret; refine ⟨?_, by first | exact bel1 _ _ | exact bel2 _ _ _⟩; first | rfl | (simp_all))

set_option maxHeartbeats 1000000 in
theorem within_c1 (w : World) (k i l h k' i' l' h' : Int) (s s' : ByteArray) (hk' : ¬ k' = 7) (hk : k = 4) (hm : max l l' ≥ min h h') : Calls Try.prog 30 #[.agg #[.int .i64 k, .int .u32 i, .string s, .int .i64 l, .int .i64 h], .agg #[.int .i64 k', .int .u32 i', .string s', .int .i64 l', .int .i64 h']] w fun e w' => e = .returned (.bool false) ∧ Below w.heap.size w w' := by
  subst hk
  go_enter Try.func30, Try.ntmps30
  go_wp2
  all_goals (go_ret; refine ⟨?_, by first | exact bel1 _ _ | exact bel2 _ _ _⟩; first | rfl | (simp_all))

set_option maxHeartbeats 1000000 in
theorem within_c2 (w : World) (k i l h k' i' l' h' : Int) (s s' : ByteArray) (hk' : ¬ k' = 7) (hk : k = 4) (hm : ¬ max l l' ≥ min h h') (hn : (s.toList == s'.toList) = false) : Calls Try.prog 30 #[.agg #[.int .i64 k, .int .u32 i, .string s, .int .i64 l, .int .i64 h], .agg #[.int .i64 k', .int .u32 i', .string s', .int .i64 l', .int .i64 h']] w fun e w' => e = .returned (.bool false) ∧ Below w.heap.size w w' := by
  subst hk
  go_enter Try.func30, Try.ntmps30
  go_wp2
  all_goals (go_ret; refine ⟨?_, by first | exact bel1 _ _ | exact bel2 _ _ _⟩; first | rfl | (simp_all))

set_option maxHeartbeats 1000000 in
theorem within_c3 (w : World) (k i l h k' i' l' h' : Int) (s s' : ByteArray) (hk' : ¬ k' = 7) (hk : k = 4) (hm : ¬ max l l' ≥ min h h') (hn : (s.toList == s'.toList) = true) : Calls Try.prog 30 #[.agg #[.int .i64 k, .int .u32 i, .string s, .int .i64 l, .int .i64 h], .agg #[.int .i64 k', .int .u32 i', .string s', .int .i64 l', .int .i64 h']] w fun e w' => e = .returned (.bool (4 == k')) ∧ Below w.heap.size w w' := by
  subst hk
  go_enter Try.func30, Try.ntmps30
  go_wp2
  all_goals (go_ret; refine ⟨?_, by first | exact bel1 _ _ | exact bel2 _ _ _⟩; first | rfl | (simp_all))

set_option maxHeartbeats 1000000 in
theorem within_d1 (w : World) (k i l h k' i' l' h' : Int) (s s' : ByteArray) (hk' : ¬ k' = 7) (hk : k = 5) (hn : (s.toList == s'.toList) = false) : Calls Try.prog 30 #[.agg #[.int .i64 k, .int .u32 i, .string s, .int .i64 l, .int .i64 h], .agg #[.int .i64 k', .int .u32 i', .string s', .int .i64 l', .int .i64 h']] w fun e w' => e = .returned (.bool false) ∧ Below w.heap.size w w' := by
  subst hk
  go_enter Try.func30, Try.ntmps30
  go_wp2
  all_goals (go_ret; refine ⟨?_, by first | exact bel1 _ _ | exact bel2 _ _ _⟩; first | rfl | (simp_all))

set_option maxHeartbeats 1000000 in
theorem within_d2 (w : World) (k i l h k' i' l' h' : Int) (s s' : ByteArray) (hk' : ¬ k' = 7) (hk : k = 5) (hn : (s.toList == s'.toList) = true) : Calls Try.prog 30 #[.agg #[.int .i64 k, .int .u32 i, .string s, .int .i64 l, .int .i64 h], .agg #[.int .i64 k', .int .u32 i', .string s', .int .i64 l', .int .i64 h']] w fun e w' => e = .returned (.bool (5 == k')) ∧ Below w.heap.size w w' := by
  subst hk
  go_enter Try.func30, Try.ntmps30
  go_wp2
  all_goals (go_ret; refine ⟨?_, by first | exact bel1 _ _ | exact bel2 _ _ _⟩; first | rfl | (simp_all))

set_option maxHeartbeats 1000000 in
theorem within_e1 (w : World) (k i l h k' i' l' h' : Int) (s s' : ByteArray) (hk' : ¬ k' = 7) (hk : k = 1) : Calls Try.prog 30 #[.agg #[.int .i64 k, .int .u32 i, .string s, .int .i64 l, .int .i64 h], .agg #[.int .i64 k', .int .u32 i', .string s', .int .i64 l', .int .i64 h']] w fun e w' => e = .returned (.bool (1 == k')) ∧ Below w.heap.size w w' := by
  subst hk
  go_enter Try.func30, Try.ntmps30
  go_wp2
  all_goals (go_ret; refine ⟨?_, by first | exact bel1 _ _ | exact bel2 _ _ _⟩; first | rfl | (simp_all))

set_option maxHeartbeats 1000000 in
theorem within_e2 (w : World) (k i l h k' i' l' h' : Int) (s s' : ByteArray) (hk' : ¬ k' = 7) (hk : k = 2) : Calls Try.prog 30 #[.agg #[.int .i64 k, .int .u32 i, .string s, .int .i64 l, .int .i64 h], .agg #[.int .i64 k', .int .u32 i', .string s', .int .i64 l', .int .i64 h']] w fun e w' => e = .returned (.bool (2 == k')) ∧ Below w.heap.size w w' := by
  subst hk
  go_enter Try.func30, Try.ntmps30
  go_wp2
  all_goals (go_ret; refine ⟨?_, by first | exact bel1 _ _ | exact bel2 _ _ _⟩; first | rfl | (simp_all))

set_option maxHeartbeats 1000000 in
theorem within_e3 (w : World) (k i l h k' i' l' h' : Int) (s s' : ByteArray) (hk' : ¬ k' = 7) (hk : k = 3) : Calls Try.prog 30 #[.agg #[.int .i64 k, .int .u32 i, .string s, .int .i64 l, .int .i64 h], .agg #[.int .i64 k', .int .u32 i', .string s', .int .i64 l', .int .i64 h']] w fun e w' => e = .returned (.bool (3 == k')) ∧ Below w.heap.size w w' := by
  subst hk
  go_enter Try.func30, Try.ntmps30
  go_wp2
  all_goals (go_ret; refine ⟨?_, by first | exact bel1 _ _ | exact bel2 _ _ _⟩; first | rfl | (simp_all))

set_option maxHeartbeats 1000000 in
theorem within_f (w : World) (k i l h k' i' l' h' : Int) (s s' : ByteArray) (hk' : ¬ k' = 7) (h6 : ¬ k = 6) (h4 : ¬ k = 4) (h5 : ¬ k = 5) (h1 : ¬ k = 1) (h2 : ¬ k = 2) (h3 : ¬ k = 3) : Calls Try.prog 30 #[.agg #[.int .i64 k, .int .u32 i, .string s, .int .i64 l, .int .i64 h], .agg #[.int .i64 k', .int .u32 i', .string s', .int .i64 l', .int .i64 h']] w fun e w' => e = .returned (.bool false) ∧ Below w.heap.size w w' := by
  go_enter Try.func30, Try.ntmps30
  go_wp2
  all_goals (go_ret; refine ⟨?_, by first | exact bel1 _ _ | exact bel2 _ _ _⟩; first | rfl | (simp_all))

theorem within_any (w : World) (a b : Tc) : Calls Try.prog 30 #[.agg (tcC a), .agg (tcC b)] w fun e w' => e = .returned (.bool (progW a b)) ∧ Below w.heap.size w w' := by
  obtain ⟨k, i, s, l, h⟩ := a
  obtain ⟨k', i', s', l', h'⟩ := b
  unfold tcC progW
  by_cases h7 : k' = 7
  · rw [if_pos h7]; exact within_a w k i l h k' i' l' h' s s' h7
  rw [if_neg h7]
  by_cases h6 : k = 6
  · rw [if_pos h6]; exact within_b w k i l h k' i' l' h' s s' h7 h6
  rw [if_neg h6]
  by_cases h4 : k = 4
  · rw [if_pos h4]
    by_cases hm : max l l' ≥ min h h'
    · rw [if_pos hm]; exact within_c1 w k i l h k' i' l' h' s s' h7 h4 hm
    rw [if_neg hm]
    cases hn : s.toList == s'.toList with
    | false => rw [if_neg (by simp)]; exact within_c2 w k i l h k' i' l' h' s s' h7 h4 hm hn
    | true => rw [if_pos rfl]; exact within_c3 w k i l h k' i' l' h' s s' h7 h4 hm hn
  rw [if_neg h4]
  by_cases h5 : k = 5
  · rw [if_pos h5]
    cases hn : s.toList == s'.toList with
    | false => rw [if_neg (by simp)]; exact within_d1 w k i l h k' i' l' h' s s' h7 h5 hn
    | true => rw [if_pos rfl]; exact within_d2 w k i l h k' i' l' h' s s' h7 h5 hn
  rw [if_neg h5]
  by_cases h1 : k = 1
  · rw [if_pos h1]; exact within_e1 w k i l h k' i' l' h' s s' h7 h1
  rw [if_neg h1]
  by_cases h2 : k = 2
  · rw [if_pos h2]; exact within_e2 w k i l h k' i' l' h' s s' h7 h2
  rw [if_neg h2]
  by_cases h3 : k = 3
  · rw [if_pos h3]; exact within_e3 w k i l h k' i' l' h' s s' h7 h3
  rw [if_neg h3]
  exact within_f w k i l h k' i' l' h' s s' h7 h6 h4 h5 h1 h2 h3

end Go.Proofs.Ytmncjecbgakmfaa
