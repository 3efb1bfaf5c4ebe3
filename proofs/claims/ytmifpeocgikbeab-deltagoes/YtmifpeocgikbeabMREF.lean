/- RCompare, RCheck, JChk, PtRef, PtOf, PtRef2: in one text. -/
import Derived.Test.YtmifpeocgikbeabPCompare
import Derived.Test.YtmifpeocgikbeabPCheck2
import Derived.Test.YtmifpeocgikbeabMA
import Derived.Test.YtmifpeocgikbeabPtTrim
namespace Go.Proofs.Ytmifpeocgikbeab
open Go.RowKit
set_option linter.unusedVariables false
set_option linter.unusedSimpArgs false
set_option maxRecDepth 4000

theorem toList_inj {s t : ByteArray} (h : s.toList = t.toList) : s = t := by
  rw [ByteArray.toList_eq, ByteArray.toList_eq] at h
  obtain ⟨d⟩ := s
  obtain ⟨d'⟩ := t
  exact congrArg ByteArray.mk (Array.ext' h)

set_option maxHeartbeats 2000000 in
theorem refCompare_any (w : World) (a b : Pl) : Calls Try.prog 32 #[plV a, plV b] w fun e w' => e = .returned (.int .i64 (cmpP a b)) ∧ Below w.heap.size w w' := by
  obtain ⟨i, k, s, c⟩ := a
  obtain ⟨i', k', s', c'⟩ := b
  unfold plV cmpP
  dsimp only
  by_cases la0 : i < i'
  · rw [show orL _ = -1 from by simp [orL, cmpI, cmpS, la0]]
    go_enter Try.func32, Try.ntmps32
    go_wp2
    go_ret
    exact ⟨rfl, ((Below.refl _ _).alloc (Nat.le_refl _) _).alloc (by simp) _⟩
  · by_cases lb0 : i' < i
    · rw [show orL _ = 1 from by simp [orL, cmpI, cmpS, la0, lb0]]
      go_enter Try.func32, Try.ntmps32
      go_wp2
      go_ret
      exact ⟨rfl, ((Below.refl _ _).alloc (Nat.le_refl _) _).alloc (by simp) _⟩
    · obtain rfl : i = i' := by omega
      clear la0 lb0
      by_cases la1 : k < k'
      · rw [show orL _ = -1 from by simp [orL, cmpI, cmpS, la1]]
        go_enter Try.func32, Try.ntmps32
        go_wp2
        go_ret
        exact ⟨rfl, ((Below.refl _ _).alloc (Nat.le_refl _) _).alloc (by simp) _⟩
      · by_cases lb1 : k' < k
        · rw [show orL _ = 1 from by simp [orL, cmpI, cmpS, la1, lb1]]
          go_enter Try.func32, Try.ntmps32
          go_wp2
          go_ret
          exact ⟨rfl, ((Below.refl _ _).alloc (Nat.le_refl _) _).alloc (by simp) _⟩
        · obtain rfl : k = k' := by omega
          clear la1 lb1
          cases la2 : Op.bytesLess s.toList s'.toList
          · cases lb2 : (s.toList == s'.toList)
            · have lb2' : ¬ s.toList = s'.toList := by simpa using lb2
              rw [show orL _ = 1 from by simp [orL, cmpI, cmpS, la2, lb2']]
              go_enter Try.func32, Try.ntmps32
              go_wp2
              go_ret
              exact ⟨rfl, ((Below.refl _ _).alloc (Nat.le_refl _) _).alloc (by simp) _⟩
            · obtain rfl : s = s' := toList_inj (by simpa using lb2)
              clear lb2
              by_cases la3 : c < c'
              · rw [show orL _ = -1 from by simp [orL, cmpI, cmpS, la3, la2]]
                go_enter Try.func32, Try.ntmps32
                go_wp2
                go_ret
                exact ⟨rfl, ((Below.refl _ _).alloc (Nat.le_refl _) _).alloc (by simp) _⟩
              · by_cases lb3 : c' < c
                · rw [show orL _ = 1 from by simp [orL, cmpI, cmpS, la3, lb3, la2]]
                  go_enter Try.func32, Try.ntmps32
                  go_wp2
                  go_ret
                  exact ⟨rfl, ((Below.refl _ _).alloc (Nat.le_refl _) _).alloc (by simp) _⟩
                · obtain rfl : c = c' := by omega
                  clear la3 lb3
                  rw [show orL _ = 0 from by simp [orL, cmpI, cmpS, la2]]
                  go_enter Try.func32, Try.ntmps32
                  go_wp2
                  go_ret
                  exact ⟨rfl, ((Below.refl _ _).alloc (Nat.le_refl _) _).alloc (by simp) _⟩
          · rw [show orL _ = -1 from by simp [orL, cmpI, cmpS, la2]]
            go_enter Try.func32, Try.ntmps32
            go_wp2
            go_ret
            exact ⟨rfl, ((Below.refl _ _).alloc (Nat.le_refl _) _).alloc (by simp) _⟩

theorem empty_yes {s : ByteArray} (h : s.toList = []) : (s.toList == []) = true ∧ s.toList.isEmpty = true := by rw [h]; exact ⟨rfl, rfl⟩
theorem empty_no {s : ByteArray} (h : s.toList ≠ []) : (s.toList == []) = false ∧ s.toList.isEmpty = false := by
  cases hx : s.toList with
  | nil => exact absurd hx h
  | cons a l => exact ⟨rfl, rfl⟩

set_option maxHeartbeats 1000000 in
theorem rc_rec0 (w : World) (i : Int) (s : ByteArray) (h0 : i ≠ 0) (hs : s.toList = []) : Calls Try.prog 27 #[plV ⟨i, 1, s, 0⟩] w fun e w' => e = .returned (.int .i64 0) ∧ Below w.heap.size w w' := by
  have hb : (i != 0) = true := by simpa using h0
  obtain ⟨e1, e2⟩ := empty_yes hs
  unfold plV
  go_enter Try.func27, Try.ntmps27
  go_wp2
  go_ret
  exact ⟨rfl, (Below.refl _ _).alloc (Nat.le_refl _) _⟩

set_option maxHeartbeats 1000000 in
theorem rc_rec1 (w : World) (i : Int) (s : ByteArray) (c : Int) (h0 : i ≠ 0) (hs : s.toList = []) (hc : c ≠ 0) : Calls Try.prog 27 #[plV ⟨i, 1, s, c⟩] w fun e w' => e = .returned (.int .i64 30) ∧ Below w.heap.size w w' := by
  have hb : (i != 0) = true := by simpa using h0
  obtain ⟨e1, e2⟩ := empty_yes hs
  have hc' : (c == 0) = false := by simpa using hc
  unfold plV
  go_enter Try.func27, Try.ntmps27
  go_wp2
  go_ret
  exact ⟨rfl, (Below.refl _ _).alloc (Nat.le_refl _) _⟩

set_option maxHeartbeats 1000000 in
theorem rc_rec2 (w : World) (i : Int) (s : ByteArray) (c : Int) (h0 : i ≠ 0) (hs : s.toList ≠ []) : Calls Try.prog 27 #[plV ⟨i, 1, s, c⟩] w fun e w' => e = .returned (.int .i64 30) ∧ Below w.heap.size w w' := by
  have hb : (i != 0) = true := by simpa using h0
  obtain ⟨e1, e2⟩ := empty_no hs
  unfold plV
  go_enter Try.func27, Try.ntmps27
  go_wp2
  go_ret
  exact ⟨rfl, (Below.refl _ _).alloc (Nat.le_refl _) _⟩

set_option maxHeartbeats 1000000 in
theorem rc_ent0 (w : World) (i : Int) (s : ByteArray) (h0 : i ≠ 0) (hn : s.size ≤ maxLen) (hs : nameOk s = true) : Calls Try.prog 27 #[plV ⟨i, 2, s, 0⟩] w fun e w' => e = .returned (.int .i64 0) ∧ Below w.heap.size w w' := by
  have hb : (i != 0) = true := by simpa using h0
  have hc : ∀ W, Calls Try.prog 40 #[.string s] W fun e w' => e = .returned (.int .i64 0) ∧ W = w' := fun W => by
    have := refName_any W s hn
    rwa [nameE_0 hs] at this
  unfold plV
  go_enter Try.func27, Try.ntmps27
  go_wp2_with (go_at_call 40; refine (hc _).mono ?_; rintro e w1 ⟨rfl, rfl⟩)
  go_ret
  exact ⟨rfl, (Below.refl _ _).alloc (Nat.le_refl _) _⟩

set_option maxHeartbeats 1000000 in
theorem rc_ent1 (w : World) (i : Int) (s : ByteArray) (c : Int) (h0 : i ≠ 0) (hn : s.size ≤ maxLen) (hs : nameOk s = true) (hc0 : c ≠ 0) : Calls Try.prog 27 #[plV ⟨i, 2, s, c⟩] w fun e w' => e = .returned (.int .i64 30) ∧ Below w.heap.size w w' := by
  have hb : (i != 0) = true := by simpa using h0
  have hc : ∀ W, Calls Try.prog 40 #[.string s] W fun e w' => e = .returned (.int .i64 0) ∧ W = w' := fun W => by
    have := refName_any W s hn
    rwa [nameE_0 hs] at this
  have hc' : (c == 0) = false := by simpa using hc0
  unfold plV
  go_enter Try.func27, Try.ntmps27
  go_wp2_with (go_at_call 40; refine (hc _).mono ?_; rintro e w1 ⟨rfl, rfl⟩)
  go_ret
  exact ⟨rfl, (Below.refl _ _).alloc (Nat.le_refl _) _⟩

set_option maxHeartbeats 1000000 in
theorem rc_ent2 (w : World) (i : Int) (s : ByteArray) (c : Int) (h0 : i ≠ 0) (hn : s.size ≤ maxLen) (hs : nameOk s = false) : Calls Try.prog 27 #[plV ⟨i, 2, s, c⟩] w fun e w' => e = .returned (.int .i64 30) ∧ Below w.heap.size w w' := by
  have hb : (i != 0) = true := by simpa using h0
  have hc : ∀ W, Calls Try.prog 40 #[.string s] W fun e w' => e = .returned (.int .i64 30) ∧ W = w' := fun W => by
    have := refName_any W s hn
    rwa [nameE_30 hs] at this
  unfold plV
  go_enter Try.func27, Try.ntmps27
  go_wp2_with (go_at_call 40; refine (hc _).mono ?_; rintro e w1 ⟨rfl, rfl⟩)
  go_ret
  exact ⟨rfl, (Below.refl _ _).alloc (Nat.le_refl _) _⟩

set_option maxHeartbeats 1000000 in
theorem rc_dat0 (w : World) (i : Int) (s : ByteArray) (c : Int) (h0 : i ≠ 0) (hs : s.toList = []) (hc : c < 16) : Calls Try.prog 27 #[plV ⟨i, 3, s, c⟩] w fun e w' => e = .returned (.int .i64 0) ∧ Below w.heap.size w w' := by
  have hb : (i != 0) = true := by simpa using h0
  obtain ⟨e1, e2⟩ := empty_yes hs
  unfold plV
  go_enter Try.func27, Try.ntmps27
  go_wp2
  go_ret
  exact ⟨rfl, (Below.refl _ _).alloc (Nat.le_refl _) _⟩

set_option maxHeartbeats 1000000 in
theorem rc_dat1 (w : World) (i : Int) (s : ByteArray) (c : Int) (h0 : i ≠ 0) (hs : s.toList = []) (hc : ¬ c < 16) : Calls Try.prog 27 #[plV ⟨i, 3, s, c⟩] w fun e w' => e = .returned (.int .i64 30) ∧ Below w.heap.size w w' := by
  have hb : (i != 0) = true := by simpa using h0
  obtain ⟨e1, e2⟩ := empty_yes hs
  unfold plV
  go_enter Try.func27, Try.ntmps27
  go_wp2
  go_ret
  exact ⟨rfl, (Below.refl _ _).alloc (Nat.le_refl _) _⟩

set_option maxHeartbeats 1000000 in
theorem rc_dat2 (w : World) (i : Int) (s : ByteArray) (c : Int) (h0 : i ≠ 0) (hs : s.toList ≠ []) : Calls Try.prog 27 #[plV ⟨i, 3, s, c⟩] w fun e w' => e = .returned (.int .i64 30) ∧ Below w.heap.size w w' := by
  have hb : (i != 0) = true := by simpa using h0
  obtain ⟨e1, e2⟩ := empty_no hs
  unfold plV
  go_enter Try.func27, Try.ntmps27
  go_wp2
  go_ret
  exact ⟨rfl, (Below.refl _ _).alloc (Nat.le_refl _) _⟩

set_option maxHeartbeats 1000000 in
theorem rc_part (w : World) (i k : Int) (s : ByteArray) (c : Int) (h1 : k ≠ 1) (h2 : k ≠ 2) (h3 : k ≠ 3) : Calls Try.prog 27 #[plV ⟨i, k, s, c⟩] w fun e w' => e = .returned (.int .i64 30) ∧ Below w.heap.size w w' := by
  unfold plV
  go_enter Try.func27, Try.ntmps27
  go_wp2
  go_ret
  exact ⟨rfl, (Below.refl _ _).alloc (Nat.le_refl _) _⟩

set_option maxHeartbeats 1000000 in
theorem rc_ino1 (w : World) (s : ByteArray) (c : Int) : Calls Try.prog 27 #[plV ⟨0, 1, s, c⟩] w fun e w' => e = .returned (.int .i64 30) ∧ Below w.heap.size w w' := by
  unfold plV
  go_enter Try.func27, Try.ntmps27
  go_wp2
  go_ret
  exact ⟨rfl, (Below.refl _ _).alloc (Nat.le_refl _) _⟩

set_option maxHeartbeats 1000000 in
theorem rc_ino2 (w : World) (s : ByteArray) (c : Int) : Calls Try.prog 27 #[plV ⟨0, 2, s, c⟩] w fun e w' => e = .returned (.int .i64 30) ∧ Below w.heap.size w w' := by
  unfold plV
  go_enter Try.func27, Try.ntmps27
  go_wp2
  go_ret
  exact ⟨rfl, (Below.refl _ _).alloc (Nat.le_refl _) _⟩

set_option maxHeartbeats 1000000 in
theorem rc_ino3 (w : World) (s : ByteArray) (c : Int) : Calls Try.prog 27 #[plV ⟨0, 3, s, c⟩] w fun e w' => e = .returned (.int .i64 30) ∧ Below w.heap.size w w' := by
  unfold plV
  go_enter Try.func27, Try.ntmps27
  go_wp2
  go_ret
  exact ⟨rfl, (Below.refl _ _).alloc (Nat.le_refl _) _⟩

theorem refCheck_any (w : World) (p : Pl) (hp : PlOk p) : Calls Try.prog 27 #[plV p] w fun e w' => e = .returned (.int .i64 (plE p)) ∧ Below w.heap.size w w' := by
  have hn := hp.n1
  clear hp
  obtain ⟨i, k, s, c⟩ := p
  dsimp only at hn
  unfold plE
  by_cases h1 : k = 1
  · subst h1
    by_cases h0 : i = 0
    · subst h0; exact rc_ino1 w s c
    · by_cases hs : s.toList = []
      · by_cases hc : c = 0
        · subst hc
          rw [if_pos (by simp [plOk, h0, hs])]
          exact rc_rec0 w i s h0 hs
        · rw [if_neg (by simp [plOk, hc])]
          exact rc_rec1 w i s c h0 hs hc
      · rw [if_neg (by simp [plOk, hs])]
        exact rc_rec2 w i s c h0 hs
  · by_cases h2 : k = 2
    · subst h2
      by_cases h0 : i = 0
      · subst h0; exact rc_ino2 w s c
      · rw [plOk_ent i s c h0]
        cases hs : nameOk s
        · exact rc_ent2 w i s c h0 hn hs
        · by_cases hc : c = 0
          · subst hc; exact rc_ent0 w i s h0 hn hs
          · rw [if_neg (by simp [hc])]
            exact rc_ent1 w i s c h0 hn hs hc
    · by_cases h3 : k = 3
      · subst h3
        by_cases h0 : i = 0
        · subst h0; exact rc_ino3 w s c
        · rw [plOk_dat i s c h0]
          by_cases hs : s.toList = []
          · by_cases hc : c < 16
            · rw [if_pos (by simp [hs, hc])]
              exact rc_dat0 w i s c h0 hs hc
            · rw [if_neg (by simp [hc])]
              exact rc_dat1 w i s c h0 hs hc
          · rw [if_neg (by simp [hs])]
            exact rc_dat2 w i s c h0 hs
      · rw [if_neg (by simp [plOk, h1, h2, h3])]
        exact rc_part w i k s c h1 h2 h3

set_option maxHeartbeats 1000000 in
theorem refCheck_m01 (w : World) (m l s : Int) (hm : m < 0) : Calls Try.prog 28 #[.agg #[.int .i64 1, .int .i64 m, .int .i64 l, .int .i64 s]] w fun e w' => e = .returned (.int .i64 11) ∧ Below w.heap.size w w' := by
  go_enter Try.func28, Try.ntmps28
  go_wp2
  go_ret
  exact ⟨rfl, (Below.refl _ w).alloc (Nat.le_refl _) _⟩

set_option maxHeartbeats 1000000 in
theorem refCheck_m02 (w : World) (m l s : Int) (hm : m < 0) : Calls Try.prog 28 #[.agg #[.int .i64 2, .int .i64 m, .int .i64 l, .int .i64 s]] w fun e w' => e = .returned (.int .i64 11) ∧ Below w.heap.size w w' := by
  go_enter Try.func28, Try.ntmps28
  go_wp2
  go_ret
  exact ⟨rfl, (Below.refl _ w).alloc (Nat.le_refl _) _⟩

set_option maxHeartbeats 1000000 in
theorem refCheck_m0k (w : World) (k m l s : Int) (hm : m < 0) (h1 : k ≠ 1) (h2 : k ≠ 2) : Calls Try.prog 28 #[.agg #[.int .i64 k, .int .i64 m, .int .i64 l, .int .i64 s]] w fun e w' => e = .returned (.int .i64 11) ∧ Below w.heap.size w w' := by
  go_enter Try.func28, Try.ntmps28
  go_wp2
  go_ret
  exact ⟨rfl, (Below.refl _ w).alloc (Nat.le_refl _) _⟩

set_option maxHeartbeats 1000000 in
theorem refCheck_m11 (w : World) (m l s : Int) (hm : 511 < m) : Calls Try.prog 28 #[.agg #[.int .i64 1, .int .i64 m, .int .i64 l, .int .i64 s]] w fun e w' => e = .returned (.int .i64 11) ∧ Below w.heap.size w w' := by
  go_enter Try.func28, Try.ntmps28
  go_wp2
  go_ret
  exact ⟨rfl, (Below.refl _ w).alloc (Nat.le_refl _) _⟩

set_option maxHeartbeats 1000000 in
theorem refCheck_m12 (w : World) (m l s : Int) (hm : 511 < m) : Calls Try.prog 28 #[.agg #[.int .i64 2, .int .i64 m, .int .i64 l, .int .i64 s]] w fun e w' => e = .returned (.int .i64 11) ∧ Below w.heap.size w w' := by
  go_enter Try.func28, Try.ntmps28
  go_wp2
  go_ret
  exact ⟨rfl, (Below.refl _ w).alloc (Nat.le_refl _) _⟩

set_option maxHeartbeats 1000000 in
theorem refCheck_m1k (w : World) (k m l s : Int) (hm : 511 < m) (h1 : k ≠ 1) (h2 : k ≠ 2) : Calls Try.prog 28 #[.agg #[.int .i64 k, .int .i64 m, .int .i64 l, .int .i64 s]] w fun e w' => e = .returned (.int .i64 11) ∧ Below w.heap.size w w' := by
  go_enter Try.func28, Try.ntmps28
  go_wp2
  go_ret
  exact ⟨rfl, (Below.refl _ w).alloc (Nat.le_refl _) _⟩

set_option maxHeartbeats 1000000 in
theorem refCheck_a (w : World) (m l s : Int) (hm0 : 0 ≤ m) (hm1 : m ≤ 511) (hl : l < 1) : Calls Try.prog 28 #[.agg #[.int .i64 1, .int .i64 m, .int .i64 l, .int .i64 s]] w fun e w' => e = .returned (.int .i64 11) ∧ Below w.heap.size w w' := by
  go_enter Try.func28, Try.ntmps28
  go_wp2
  go_ret
  exact ⟨rfl, (Below.refl _ w).alloc (Nat.le_refl _) _⟩

set_option maxHeartbeats 1000000 in
theorem refCheck_b (w : World) (m l s : Int) (hm0 : 0 ≤ m) (hm1 : m ≤ 511) (hl0 : 1 ≤ l) (hl : 15 < l) : Calls Try.prog 28 #[.agg #[.int .i64 1, .int .i64 m, .int .i64 l, .int .i64 s]] w fun e w' => e = .returned (.int .i64 11) ∧ Below w.heap.size w w' := by
  go_enter Try.func28, Try.ntmps28
  go_wp2
  go_ret
  exact ⟨rfl, (Below.refl _ w).alloc (Nat.le_refl _) _⟩

set_option maxHeartbeats 1000000 in
theorem refCheck_c (w : World) (m l s : Int) (hm0 : 0 ≤ m) (hm1 : m ≤ 511) (hl0 : 1 ≤ l) (hl1 : l ≤ 15) (hs : s < 0) : Calls Try.prog 28 #[.agg #[.int .i64 1, .int .i64 m, .int .i64 l, .int .i64 s]] w fun e w' => e = .returned (.int .i64 11) ∧ Below w.heap.size w w' := by
  go_enter Try.func28, Try.ntmps28
  go_wp2
  go_ret
  exact ⟨rfl, (Below.refl _ w).alloc (Nat.le_refl _) _⟩

set_option maxHeartbeats 1000000 in
theorem refCheck_d (w : World) (m l s : Int) (hm0 : 0 ≤ m) (hm1 : m ≤ 511) (hl0 : 1 ≤ l) (hl1 : l ≤ 15) (hs0 : 0 ≤ s) (hs : 512 < s) : Calls Try.prog 28 #[.agg #[.int .i64 1, .int .i64 m, .int .i64 l, .int .i64 s]] w fun e w' => e = .returned (.int .i64 11) ∧ Below w.heap.size w w' := by
  have hsd : decide (s ≤ 512) = false := decide_eq_false (by omega)
  go_enter Try.func28, Try.ntmps28
  go_wp2
  go_ret
  exact ⟨rfl, (Below.refl _ w).alloc (Nat.le_refl _) _⟩

set_option maxHeartbeats 1000000 in
theorem refCheck_e (w : World) (m l s : Int) (hm0 : 0 ≤ m) (hm1 : m ≤ 511) (hl0 : 1 ≤ l) (hl1 : l ≤ 15) (hs0 : 0 ≤ s) (hs : s ≤ 512) : Calls Try.prog 28 #[.agg #[.int .i64 1, .int .i64 m, .int .i64 l, .int .i64 s]] w fun e w' => e = .returned (.int .i64 0) ∧ Below w.heap.size w w' := by
  go_enter Try.func28, Try.ntmps28
  go_wp2
  go_ret
  exact ⟨rfl, (Below.refl _ w).alloc (Nat.le_refl _) _⟩

set_option maxHeartbeats 1000000 in
theorem refCheck_f (w : World) (m l s : Int) (hm0 : 0 ≤ m) (hm1 : m ≤ 511) (hl : l ≠ 1) : Calls Try.prog 28 #[.agg #[.int .i64 2, .int .i64 m, .int .i64 l, .int .i64 s]] w fun e w' => e = .returned (.int .i64 11) ∧ Below w.heap.size w w' := by
  go_enter Try.func28, Try.ntmps28
  go_wp2
  go_ret
  exact ⟨rfl, (Below.refl _ w).alloc (Nat.le_refl _) _⟩

set_option maxHeartbeats 1000000 in
theorem refCheck_g (w : World) (m l s : Int) (hm0 : 0 ≤ m) (hm1 : m ≤ 511) (hl : l = 1) (hs : s ≠ 0) : Calls Try.prog 28 #[.agg #[.int .i64 2, .int .i64 m, .int .i64 l, .int .i64 s]] w fun e w' => e = .returned (.int .i64 11) ∧ Below w.heap.size w w' := by
  have hsb : (s == 0) = false := by rw [beq_eq_false_iff_ne]; exact hs
  go_enter Try.func28, Try.ntmps28
  go_wp2
  go_ret
  exact ⟨rfl, (Below.refl _ w).alloc (Nat.le_refl _) _⟩

set_option maxHeartbeats 1000000 in
theorem refCheck_h (w : World) (m l s : Int) (hm0 : 0 ≤ m) (hm1 : m ≤ 511) (hl : l = 1) (hs : s = 0) : Calls Try.prog 28 #[.agg #[.int .i64 2, .int .i64 m, .int .i64 l, .int .i64 s]] w fun e w' => e = .returned (.int .i64 0) ∧ Below w.heap.size w w' := by
  go_enter Try.func28, Try.ntmps28
  go_wp2
  go_ret
  exact ⟨rfl, (Below.refl _ w).alloc (Nat.le_refl _) _⟩

set_option maxHeartbeats 1000000 in
theorem refCheck_i (w : World) (k m l s : Int) (hm0 : 0 ≤ m) (hm1 : m ≤ 511) (h1 : k ≠ 1) (h2 : k ≠ 2) : Calls Try.prog 28 #[.agg #[.int .i64 k, .int .i64 m, .int .i64 l, .int .i64 s]] w fun e w' => e = .returned (.int .i64 11) ∧ Below w.heap.size w w' := by
  go_enter Try.func28, Try.ntmps28
  go_wp2
  go_ret
  exact ⟨rfl, (Below.refl _ w).alloc (Nat.le_refl _) _⟩


theorem inoE_is (k m l s : Int) : inoE k m l s = if (0 ≤ m ∧ m ≤ 511) ∧ ((k = 1 ∧ (1 ≤ l ∧ l ≤ 15) ∧ 0 ≤ s ∧ s ≤ 512) ∨ (k = 2 ∧ l = 1 ∧ s = 0)) then 0 else 11 := by
  unfold inoE inoOk
  by_cases h1 : k = 1
  · subst h1
    simp [inB]
  · by_cases h2 : k = 2
    · subst h2
      simp [inB]
    · simp [inB, h1, h2]

theorem irefCheck_any (w : World) (k m l s : Int) : Calls Try.prog 28 #[.agg #[.int .i64 k, .int .i64 m, .int .i64 l, .int .i64 s]] w fun e w' => e = .returned (.int .i64 (inoE k m l s)) ∧ Below w.heap.size w w' := by
  rw [inoE_is]
  by_cases h1 : k = 1
  · subst h1
    by_cases a : m < 0
    · rw [if_neg (by omega)]; exact refCheck_m01 w m l s a
    · by_cases b : 511 < m
      · rw [if_neg (by omega)]; exact refCheck_m11 w m l s b
      · by_cases c : l < 1
        · rw [if_neg (by omega)]; exact refCheck_a w m l s (by omega) (by omega) c
        · by_cases d : 15 < l
          · rw [if_neg (by omega)]; exact refCheck_b w m l s (by omega) (by omega) (by omega) d
          · by_cases e : s < 0
            · rw [if_neg (by omega)]; exact refCheck_c w m l s (by omega) (by omega) (by omega) (by omega) e
            · by_cases f : 512 < s
              · rw [if_neg (by omega)]; exact refCheck_d w m l s (by omega) (by omega) (by omega) (by omega) (by omega) f
              · rw [if_pos (by omega)]; exact refCheck_e w m l s (by omega) (by omega) (by omega) (by omega) (by omega) (by omega)
  · by_cases h2 : k = 2
    · subst h2
      by_cases a : m < 0
      · rw [if_neg (by omega)]; exact refCheck_m02 w m l s a
      · by_cases b : 511 < m
        · rw [if_neg (by omega)]; exact refCheck_m12 w m l s b
        · by_cases c : l = 1
          · by_cases d : s = 0
            · rw [if_pos (by omega)]; exact refCheck_h w m l s (by omega) (by omega) c d
            · rw [if_neg (by omega)]; exact refCheck_g w m l s (by omega) (by omega) c d
          · rw [if_neg (by omega)]; exact refCheck_f w m l s (by omega) (by omega) c
    · rw [if_neg (by omega)]
      by_cases a : m < 0
      · exact refCheck_m0k w k m l s a h1 h2
      · by_cases b : 511 < m
        · exact refCheck_m1k w k m l s b h1 h2
        · exact refCheck_i w k m l s (by omega) (by omega) h1 h2

set_option maxRecDepth 100000

set_option maxHeartbeats 1000000 in
theorem has_any (w : World) (p : Pt) (i : Nat) (hp : PtOk p) (hi : i < 32) : Calls Try.prog 41 #[.agg (ptC p), .int .i64 (i : Int)] w fun e w' => e = .returned (.bool (p.mask.testBit i)) ∧ Below w.heap.size w w' := by
  obtain ⟨w1, hw1⟩ : ∃ w1, w.alloc (.cells (ptC p) 35) = w1 := ⟨_, rfl⟩
  have hB1 : Below w.heap.size w w1 := by rw [← hw1]; exact (Below.refl _ w).alloc (Nat.le_refl _) _
  have hp1 : PtAt w1 w.heap.size p := by rw [← hw1]; exact PtAt.laid w p
  have c1 := hp1.c1
  have hbit : (((p.mask : Int) / 2 ^ i).tmod 2 == 1) = p.mask.testBit i := by rw [Int.tmod_eq_emod_of_nonneg (Int.ediv_nonneg (by omega) (by exact_mod_cast Nat.zero_le _))]; exact bit_mod p.mask i
  have hi32 : (i : Int) ≤ 32 := by omega
  generalize p.mask.testBit i = B at *
  generalize p.mask = M at *
  go_enter Try.func41, Try.ntmps41
  go_wp2
  go_ret
  exact ⟨by rw [← hbit]; rfl, hB1⟩

theorem ChAt.set {w : World} {g : Nat} {b : List Int} (h : ChAt w g b) (i : Nat) (v : Int) : ChAt (w.setCell ⟨g, i, none⟩ (.int .u8 v)) g (b.set i v) := by
  refine ⟨(heap_setCell_same w g i _ _ _ h.row).trans ?_⟩
  congr 2
  unfold bytesV
  rw [List.setIfInBounds_toArray, List.map_set]
theorem PtAt.set {w : World} {g : Nat} {p : Pt} (h : PtAt w g p) (i : Nat) (v : Int) : PtAt (w.setCell ⟨g, 2 + i, none⟩ (.int .u8 v)) g ⟨p.fresh, p.mask, p.bytes.set i v⟩ := by
  refine ⟨(heap_setCell_same w g (2 + i) _ _ _ h.row).trans ?_⟩
  congr 2
  unfold ptC
  rw [List.setIfInBounds_toArray, show 2 + i = i + 1 + 1 from by omega, List.set_cons_succ, List.set_cons_succ, List.map_set]
theorem ChAt.apart {w : World} {g : Nat} {b : List Int} (h : ChAt w g b) (k i : Nat) (v : Value) (hk : g ≠ k) : ChAt (w.setCell ⟨k, i, none⟩ v) g b := ⟨(heap_setCell_other w ⟨k, i, none⟩ g v hk).trans h.row⟩
theorem PtAt.apart {w : World} {g : Nat} {p : Pt} (h : PtAt w g p) (k i : Nat) (v : Value) (hk : g ≠ k) : PtAt (w.setCell ⟨k, i, none⟩ v) g p := ⟨(heap_setCell_other w ⟨k, i, none⟩ g v hk).trans h.row⟩

/-- A list that is turned to another one, byte by byte. -/
def upTo (f : Nat → Int) (b : List Int) (n : Nat) : List Int := (List.range 32).map fun i => if i < n then f i else b.getD i 0
theorem upTo_len (f : Nat → Int) (b : List Int) (n : Nat) : (upTo f b n).length = 32 := by simp [upTo]
theorem upTo_0 (f : Nat → Int) {b : List Int} (h : b.length = 32) : upTo f b 0 = b := by
  unfold upTo
  conv => rhs; rw [ch_eq h]
  exact List.map_congr_left fun i _ => by simp
theorem upTo_all (f : Nat → Int) (b : List Int) : upTo f b 32 = (List.range 32).map f := by
  unfold upTo
  exact List.map_congr_left fun i hi => by rw [if_pos (List.mem_range.1 hi)]
theorem upTo_get (f : Nat → Int) (b : List Int) (n : Nat) {i : Nat} (h : i < 32) : (upTo f b n).getD i 0 = if i < n then f i else b.getD i 0 := by
  unfold upTo; rw [range_get _ h]
theorem upTo_next (f : Nat → Int) (b : List Int) {n : Nat} (h : n < 32) : upTo f b (n + 1) = (upTo f b n).set n (f n) := by
  apply ch_ext (upTo_len _ _ _) (by rw [List.length_set, upTo_len])
  intro i hi
  rw [upTo_get _ _ _ hi]
  by_cases e : i = n
  · subst e
    rw [if_pos (by omega), show ((upTo f b i).set i (f i)).getD i 0 = f i from by rw [List.getD_eq_getElem?_getD, List.getElem?_set_self (by rw [upTo_len]; omega)]; rfl]
  · rw [show ((upTo f b n).set n (f n)).getD i 0 = (upTo f b n).getD i 0 from by rw [List.getD_eq_getElem?_getD, List.getD_eq_getElem?_getD, List.getElem?_set_ne (by omega)], upTo_get _ _ _ hi]
    by_cases c : i < n
    · rw [if_pos c, if_pos (by omega)]
    · rw [if_neg c, if_neg (by omega)]
theorem upTo_same (f : Nat → Int) (b : List Int) {n : Nat} (h : f n = b.getD n 0) : upTo f b (n + 1) = upTo f b n := by
  unfold upTo
  refine List.map_congr_left fun i hi => ?_
  by_cases e : i = n
  · subst e; rw [if_pos (by omega), if_neg (by omega), h]
  · by_cases c : i < n
    · rw [if_pos c, if_pos (by omega)]
    · rw [if_neg c, if_neg (by omega)]
theorem upTo_ch {f : Nat → Int} {b : List Int} (hf : ∀ i, 0 ≤ f i ∧ f i ≤ 255) (hb : Ch b) (n : Nat) : Ch (upTo f b n) := by
  refine ⟨upTo_len _ _ _, fun x hx => ?_⟩
  unfold upTo at hx
  obtain ⟨i, _, rfl⟩ := List.mem_map.1 hx
  split
  · exact hf i
  · exact hb.2.getD i

/-- What Of tells. -/
def ofNo (o : Int) (n : Nat) : Prop := o < 0 ∨ 32 - (n : Int) < o
def ofE (o : Int) (s : ByteArray) : Int := if o < 0 ∨ 32 - (s.size : Int) < o then 1 else 0
def ofR (o : Int) (s : ByteArray) : Pt := if o < 0 ∨ 32 - (s.size : Int) < o then pt0 else ofP o.toNat (strB s)
theorem ofR_ok (o : Int) (s : ByteArray) : PtOk (ofR o s) := by
  unfold ofR
  split
  · exact pt0_ok
  · exact ofP_ok (strB_byt s) (by rw [strB_length]; omega)

theorem strB_cells (s : ByteArray) : Lib.byteCells s.data.toList = (strB s).map (Value.int .u8) := by simp [Lib.byteCells, strB]

/-- The bytes of a text, laid into the noughts of a patch. -/
theorem of_row (o : Nat) (s : ByteArray) (h : o + s.size ≤ 32) (M : Nat) : ((ptC ⟨false, M, zeroC⟩).toList.take (2 + o) ++ Lib.byteCells s.data.toList ++ (ptC ⟨false, M, zeroC⟩).toList.drop (2 + o + s.size)).toArray = ptC ⟨false, M, (List.range 32).map (setAt (strB s).length o (strB s))⟩ := by
  apply Array.ext'
  rw [strB_cells]
  have hl := strB_length s
  generalize strB s = xs at *
  have e : ∀ b : List Int, (ptC ⟨false, M, b⟩).toList = Value.bool false :: Value.int .u32 (M : Int) :: b.map (Value.int .u8) := fun b => rfl
  rw [e, e, show 2 + o = o + 1 + 1 from by omega, show o + 1 + 1 + s.size = (o + s.size) + 1 + 1 from by omega]
  simp only [List.take_succ_cons, List.drop_succ_cons, List.cons_append, List.cons.injEq, true_and]
  apply List.ext_getElem?
  intro i
  have hz : ∀ i, (zeroC.map (Value.int .u8))[i]? = if i < 32 then some (.int .u8 0) else none := by
    intro i
    unfold zeroC
    rw [List.map_replicate, List.getElem?_replicate]
  have hr : ((((List.range 32).map (setAt xs.length o xs)).map (Value.int .u8)))[i]? = if i < 32 then some (.int .u8 (setAt xs.length o xs i)) else none := by
    rw [List.map_map, List.getElem?_map]
    by_cases hi : i < 32
    · rw [List.getElem?_range hi, if_pos hi]; rfl
    · rw [List.getElem?_eq_none (by simpa using hi), if_neg hi]; rfl
  have hzl : (zeroC.map (Value.int .u8)).length = 32 := by simp [zeroC]
  rw [hr]
  by_cases c1 : i < o
  · rw [List.append_assoc, List.getElem?_append_left (by rw [List.length_take, hzl]; omega), List.getElem?_take, if_pos c1, hz, if_pos (by omega), if_pos (by omega)]
    unfold setAt
    rw [if_neg (by omega)]
  · by_cases c2 : i < o + s.size
    · rw [List.append_assoc, List.getElem?_append_right (by rw [List.length_take, hzl]; omega), List.length_take, hzl, show min o 32 = o from by omega, List.getElem?_append_left (by rw [List.length_map]; omega), List.getElem?_map, List.getElem?_eq_getElem (by omega), if_pos (by omega)]
      unfold setAt
      rw [if_pos (by omega)]
      simp [List.getElem?_eq_getElem (show i - o < xs.length by omega)]
    · rw [List.getElem?_append_right (by rw [List.length_append, List.length_take, hzl, List.length_map]; omega), List.length_append, List.length_take, hzl, List.length_map, List.getElem?_drop, hz, show min o 32 = o from by omega, show o + s.size + (i - (o + xs.length)) = i from by omega]
      by_cases c3 : i < 32
      · rw [if_pos c3, if_pos c3]
        unfold setAt
        rw [if_neg (by omega)]
      · rw [if_neg c3, if_neg c3]

/-- What Trim leaves of a byte. -/
def trimAt (p : Pt) (i : Nat) : Int := if p.mask.testBit i then p.bytes.getD i 0 else 0
theorem trimAt_byt {p : Pt} (hp : PtOk p) (i : Nat) : 0 ≤ trimAt p i ∧ trimAt p i ≤ 255 := by
  unfold trimAt
  split
  · exact hp.ch.2.getD i
  · omega
theorem trimAt_all (p : Pt) : (List.range 32).map (trimAt p) = (trimP p).bytes := by
  apply ch_ext (by simp) (layB_len _ _)
  intro i hi
  rw [range_get _ hi]
  exact (trimP_get p hi).symm

set_option maxHeartbeats 4000000 in
theorem rtrim_any (w : World) (p : Pt) (hp : PtOk p) : Calls Try.prog 30 #[.agg (ptC p)] w fun e w' => e = .returned (.agg (ptC (trimP p))) ∧ Below w.heap.size w w' := by
  have hz := zeroPt
  have HZ : Hid (zeroC.length = 32) := ch_zero.1
  have HT : Hid ((trimP p).bytes.length = 32) := layB_len _ _
  obtain ⟨w1, hw1⟩ : ∃ w1, (w.alloc (.cells (ptC p) 35)).alloc (.cells (ptC pt0) 35) = w1 := ⟨_, rfl⟩
  have hB1 : Below w.heap.size w w1 := by rw [← hw1]; exact ((Below.refl _ w).alloc (Nat.le_refl _) _).alloc (by simp) _
  have hp1 : PtAt w1 w.heap.size p := by rw [← hw1]; exact (PtAt.laid w p).below ((Below.refl _ _).alloc (Nat.le_refl _) _)
  have hr1 : PtAt w1 (w.heap.size + 1) pt0 := by rw [← hw1]; have := PtAt.laid (w.alloc (.cells (ptC p) 35)) pt0; rwa [World.size_alloc] at this
  go_enter Try.func30, Try.ntmps30
  go_wp2_with fail
  go_loopw [3, 4] (fun _ t wr => ∃ i : Nat, i ≤ 32 ∧ t = .int .i64 (i : Int) ∧ PtAt wr w.heap.size ⟨p.fresh, p.mask, upTo (trimAt p) p.bytes i⟩ ∧ PtAt wr (w.heap.size + 1) pt0 ∧ Below w.heap.size w wr) (fun _ t _ => 32 - (intOf t).toNat)
  case atStart => exact ⟨0, by omega, rfl, by rw [upTo_0 _ hp.ch.1]; exact hp1, hr1, hB1⟩
  case round =>
    obtain ⟨i, hi, rfl, hq, hr, hB⟩ := hrel
    clear hp1 hr1 hB1 hw1
    by_cases hlt : i < 32
    · have hlI : (i : Int) < 32 := by omega
      have hok : PtOk ⟨p.fresh, p.mask, upTo (trimAt p) p.bytes i⟩ := ⟨hp.lt, upTo_ch (trimAt_byt hp) hp.ch i⟩
      have hld : Hid _ := hq.load (upTo_len _ _ _)
      have hh := has_any wr _ i hok hlt
      dsimp only at hh
      have HN : Hid (upTo (trimAt p) p.bytes (i + 1) = (upTo (trimAt p) p.bytes i).set i (trimAt p i)) := upTo_next _ _ hlt
      cases hbt : p.mask.testBit i
      · rw [hbt] at hh
        have hv : trimAt p i = 0 := by unfold trimAt; rw [hbt]; rfl
        rw [hv] at HN
        clear hv
        go_wp2_with (refine wpList_loadG rfl 35 _ rfl _ rfl _ hld.out ?_)
        refine hh.mono ?_
        rintro e w5 ⟨rfl, hb5⟩
        have hq5 := hq.below hb5
        have cB5 := hq5.byte (upTo_len _ _ _) hlt
        dsimp only at cB5
        have fB5 := hq5.frozen (2 + i)
        generalize (upTo (trimAt p) p.bytes i).getD i 0 = V0 at *
        go_wp2
        go_roundw
        case rel => exact ⟨i + 1, by omega, by go_num, by rw [HN.out]; exact hq5.set i 0, (hr.below hb5).apart _ _ _ (by omega), (hB.trans (hb5.mono hB.size)).setCell (p := ⟨w.heap.size, 2 + i, none⟩) (Nat.le_refl _) _⟩
        case measure => simp [intOf]; omega
      · rw [hbt] at hh
        have HS : Hid (upTo (trimAt p) p.bytes (i + 1) = upTo (trimAt p) p.bytes i) := upTo_same _ _ (by unfold trimAt; rw [hbt]; rfl)
        go_wp2_with (refine wpList_loadG rfl 35 _ rfl _ rfl _ hld.out ?_)
        refine hh.mono ?_
        rintro e w5 ⟨rfl, hb5⟩
        go_wp2_with fail
        go_roundw
        case rel => exact ⟨i + 1, by omega, by go_num, by rw [HS.out]; exact hq.below hb5, hr.below hb5, hB.trans (hb5.mono hB.size)⟩
        case measure => simp [intOf]; omega
    · have hlI : ¬ (i : Int) < 32 := by omega
      have e32 : (⟨p.fresh, p.mask, upTo (trimAt p) p.bytes i⟩ : Pt) = trimP p := by rw [show i = 32 from by omega, upTo_all, trimAt_all]; rfl
      rw [e32] at hq
      clear e32
      have hld : Hid _ := hq.load HT.out
      go_wp2_with (first
        | (refine wpList_loadG rfl 35 _ rfl _ rfl _ hld.out ?_)
        | (refine wpList_storeP rfl _ _ rfl (w.heap.size + 1) (trimP p) pt0 rfl rfl HT.out HZ.out hr ?_))
      refine ret_pt rfl (w.heap.size + 1) (trimP p) HT.out rfl (hr.setRow _) rfl ⟨rfl, ?_⟩
      exact below_setRow hB (by omega) _

/-- What Join makes of a byte. -/
def joinAt (a b : Pt) (i : Nat) : Int := if b.mask.testBit i then b.bytes.getD i 0 else if a.mask.testBit i then a.bytes.getD i 0 else 0
theorem joinAt_byt {a b : Pt} (ha : PtOk a) (hb : PtOk b) (i : Nat) : 0 ≤ joinAt a b i ∧ joinAt a b i ≤ 255 := by
  unfold joinAt
  split
  · exact hb.ch.2.getD i
  · split
    · exact ha.ch.2.getD i
    · omega
theorem joinAt_all (a b : Pt) (hf : b.fresh = false) : (List.range 32).map (joinAt a b) = layB (trimP a).bytes b := by
  apply ch_ext (by simp) (layB_len _ _)
  intro i hi
  rw [range_get _ hi, layB_get _ _ hi]
  unfold joinAt layAt
  rw [trimP_get a hi, hf]
  rfl

set_option maxHeartbeats 8000000 in
theorem rjoin_any (w : World) (a b : Pt) (ha : PtOk a) (hb : PtOk b) : Calls Try.prog 31 #[.agg (ptC a), .agg (ptC b)] w fun e w' => e = .returned (.agg (ptC (joinP a b))) ∧ Below w.heap.size w w' := by
  have hz := zeroPt
  have HA : Hid (a.bytes.length = 32) := ha.ch.1
  have HB : Hid (b.bytes.length = 32) := hb.ch.1
  have HZ : Hid (zeroC.length = 32) := ch_zero.1
  obtain ⟨w1, hw1⟩ : ∃ w1, (((w.alloc (.cells (ptC a) 35)).alloc (.cells (ptC b) 35)).alloc (.cells (ptC pt0) 35)) = w1 := ⟨_, rfl⟩
  have al : ∀ (A : World) (o : Obj), Below A.heap.size A (A.alloc o) := fun A o => (Below.refl _ A).alloc (Nat.le_refl _) o
  have hB1 : Below w.heap.size w w1 := by rw [← hw1]; exact (((Below.refl _ w).alloc (Nat.le_refl _) _).alloc (by simp) _).alloc (by simp; omega) _
  have ha1 : PtAt w1 w.heap.size a := by rw [← hw1]; exact ((PtAt.laid w a).below (al _ _)).below (al _ _)
  have hb1 : PtAt w1 (w.heap.size + 1) b := by rw [← hw1]; have := (PtAt.laid (w.alloc (.cells (ptC a) 35)) b).below (al _ (.cells (ptC pt0) 35)); rwa [World.size_alloc] at this
  have hr1 : PtAt w1 (w.heap.size + 1 + 1) pt0 := by rw [← hw1]; have := PtAt.laid ((w.alloc (.cells (ptC a) 35)).alloc (.cells (ptC b) 35)) pt0; rwa [World.size_alloc, World.size_alloc] at this
  have HS1 : Hid (w1.heap.size = w.heap.size + 3) := by unfold Hid; rw [← hw1]; simp
  clear al
  have c0 := hb1.c0
  cases hf : b.fresh
  · rw [hf] at c0
    have HJ : Hid (joinP a b = ⟨a.fresh, a.mask ||| b.mask, layB (trimP a).bytes b⟩) := by unfold Hid joinP; rw [hf]; rfl
    have HL : Hid ((layB (trimP a).bytes b).length = 32) := layB_len _ _
    have hor := u32_or_nat a.mask b.mask ha.lt hb.lt
    have a0 := ha1.c0
    have a1 := ha1.c1
    have b1 := hb1.c1
    rw [HJ.out]
    obtain ⟨w2, hw2⟩ : ∃ w2, w1.alloc (.cells (ptC pt0) 35) = w2 := ⟨_, rfl⟩
    have hb12 : Below w1.heap.size w1 w2 := by rw [← hw2]; exact (Below.refl _ w1).alloc (Nat.le_refl _) _
    have ho2 : PtAt w2 w1.heap.size pt0 := by rw [← hw2]; exact PtAt.laid w1 pt0
    obtain ⟨w3, hw3⟩ : ∃ w3, w2.setRow w1.heap.size (ptC ⟨a.fresh, a.mask ||| b.mask, zeroC⟩) = w3 := ⟨_, rfl⟩
    have ho3 : PtAt w3 w1.heap.size ⟨a.fresh, a.mask ||| b.mask, zeroC⟩ := by rw [← hw3]; exact ho2.setRow _
    have hb13 : Below w1.heap.size w1 w3 := by rw [← hw3]; exact below_setRow hb12 (Nat.le_refl _) _
    have ha3 := ha1.below hb13
    have hb3 := hb1.below hb13
    have hr3 := hr1.below hb13
    have hB3 : Below w.heap.size w w3 := hB1.trans (hb13.mono hB1.size)
    go_enter Try.func31, Try.ntmps31
    go_wp2_with (first
      | (refine wpList_buildBy rfl 35 _ rfl _ rfl [(0, .bool a.fresh), (1, .int .u32 ((a.mask ||| b.mask : Nat) : Int))] (by kernel_rfl) (ptC ⟨a.fresh, a.mask ||| b.mask, zeroC⟩) (built_two _ _) ?_)
      | (refine wpList_storeP rfl _ _ rfl w1.heap.size ⟨a.fresh, a.mask ||| b.mask, zeroC⟩ pt0 rfl rfl HZ.out HZ.out ho2 ?_; rw [hw3]))
    generalize hM : a.mask ||| b.mask = M at *
    have HM : Hid (a.mask ||| b.mask = M) := hM
    clear hM
    clear hw1 hw2 hw3 a0 a1 b1 c0 hor ho2 hb12 hb13 ha1 hb1 hr1 hB1
    go_loopw [6, 19] (fun _ t wr => ∃ i : Nat, i ≤ 32 ∧ t = .int .i64 (i : Int) ∧ PtAt wr w1.heap.size ⟨a.fresh, M, upTo (joinAt a b) zeroC i⟩ ∧ PtAt wr w.heap.size a ∧ PtAt wr (w.heap.size + 1) b ∧ PtAt wr (w.heap.size + 1 + 1) pt0 ∧ Below w.heap.size w wr) (fun _ t _ => 32 - (intOf t).toNat)
    case atStart => exact ⟨0, by omega, rfl, by rw [upTo_0 _ HZ.out]; exact ho3, ha3, hb3, hr3, hB3⟩
    case round =>
      obtain ⟨i, hi, rfl, ho, hA, hBt, hr, hB⟩ := hrel
      clear ho3 ha3 hb3 hr3 hB3
      by_cases hlt : i < 32
      · have hlI : (i : Int) < 32 := by omega
        have hldb : Hid _ := hBt.load HB.out
        have hh := has_any wr b i hb hlt
        have HN : Hid (upTo (joinAt a b) zeroC (i + 1) = (upTo (joinAt a b) zeroC i).set i (joinAt a b i)) := upTo_next _ _ hlt
        cases hbt : b.mask.testBit i
        · rw [hbt] at hh
          go_wp2_with (refine wpList_loadG rfl 35 _ rfl _ rfl _ hldb.out ?_)
          refine hh.mono ?_
          rintro e w5 ⟨rfl, hb5⟩
          have hA5 := hA.below hb5
          have hlda : Hid _ := hA5.load HA.out
          have hha := has_any w5 a i ha hlt
          clear hldb hh
          cases hat : a.mask.testBit i
          · rw [hat] at hha
            have HS : Hid (upTo (joinAt a b) zeroC (i + 1) = upTo (joinAt a b) zeroC i) := upTo_same _ _ (by unfold joinAt; rw [hbt, hat, zeroC_get]; rfl)
            go_wp2_with (refine wpList_loadG rfl 35 _ rfl _ rfl _ hlda.out ?_)
            refine hha.mono ?_
            rintro e w6 ⟨rfl, hb6⟩
            go_wp2_with fail
            go_roundw
            case rel => exact ⟨i + 1, by omega, by go_num, by rw [HS.out]; exact (ho.below hb5).below hb6, hA5.below hb6, (hBt.below hb5).below hb6, (hr.below hb5).below hb6, (hB.trans (hb5.mono hB.size)).trans (hb6.mono (Nat.le_trans hB.size hb5.size))⟩
            case measure => simp [intOf]; omega
          · rw [hat] at hha
            have hv : joinAt a b i = a.bytes.getD i 0 := by unfold joinAt; rw [hbt, hat]; rfl
            go_wp2_with (refine wpList_loadG rfl 35 _ rfl _ rfl _ hlda.out ?_)
            refine hha.mono ?_
            rintro e w6 ⟨rfl, hb6⟩
            have ho6 := (ho.below hb5).below hb6
            have hA6 := hA5.below hb6
            have hB6 := (hBt.below hb5).below hb6
            have hr6 := (hr.below hb5).below hb6
            have hBB : Below w.heap.size w w6 := (hB.trans (hb5.mono hB.size)).trans (hb6.mono (Nat.le_trans hB.size hb5.size))
            have cO := ho6.byte (upTo_len _ _ _) hlt
            have fO := ho6.frozen (2 + i)
            have cA := hA6.byte HA.out hlt
            dsimp only at cO
            rw [← hv] at cA
            clear hv hlda
            generalize joinAt a b i = V at *
            generalize (upTo (joinAt a b) zeroC i).getD i 0 = V0 at *
            go_wp2
            go_roundw
            case rel => exact ⟨i + 1, by omega, by go_num, by rw [HN.out]; exact ho6.set i V, hA6.apart _ _ _ (by have := HS1.out; omega), hB6.apart _ _ _ (by have := HS1.out; omega), hr6.apart _ _ _ (by have := HS1.out; omega), hBB.setCell (p := ⟨w1.heap.size, 2 + i, none⟩) (by have := HS1.out; show w.heap.size ≤ w1.heap.size; omega) _⟩
            case measure => simp [intOf]; omega
        · rw [hbt] at hh
          have hv : joinAt a b i = b.bytes.getD i 0 := by unfold joinAt; rw [hbt]; rfl
          go_wp2_with (refine wpList_loadG rfl 35 _ rfl _ rfl _ hldb.out ?_)
          refine hh.mono ?_
          rintro e w6 ⟨rfl, hb6⟩
          have ho6 := ho.below hb6
          have hA6 := hA.below hb6
          have hB6 := hBt.below hb6
          have hr6 := hr.below hb6
          have hBB : Below w.heap.size w w6 := hB.trans (hb6.mono hB.size)
          have cO := ho6.byte (upTo_len _ _ _) hlt
          have fO := ho6.frozen (2 + i)
          have cA := hB6.byte HB.out hlt
          dsimp only at cO
          rw [← hv] at cA
          clear hv hldb
          generalize joinAt a b i = V at *
          generalize (upTo (joinAt a b) zeroC i).getD i 0 = V0 at *
          go_wp2
          go_roundw
          case rel => exact ⟨i + 1, by omega, by go_num, by rw [HN.out]; exact ho6.set i V, hA6.apart _ _ _ (by have := HS1.out; omega), hB6.apart _ _ _ (by have := HS1.out; omega), hr6.apart _ _ _ (by have := HS1.out; omega), hBB.setCell (p := ⟨w1.heap.size, 2 + i, none⟩) (by have := HS1.out; show w.heap.size ≤ w1.heap.size; omega) _⟩
          case measure => simp [intOf]; omega
      · have hlI : ¬ (i : Int) < 32 := by omega
        have e32 : upTo (joinAt a b) zeroC i = layB (trimP a).bytes b := by rw [show i = 32 from by omega, upTo_all, joinAt_all a b hf]
        rw [e32] at ho
        clear e32
        have hld : Hid _ := ho.load HL.out
        go_wp2_with (first
          | (refine wpList_loadG rfl 35 _ rfl _ rfl _ hld.out ?_)
          | (refine wpList_storeP rfl _ _ rfl (w.heap.size + 1 + 1) ⟨a.fresh, M, layB (trimP a).bytes b⟩ pt0 rfl rfl HL.out HZ.out hr ?_))
        refine ret_pt rfl (w.heap.size + 1 + 1) ⟨a.fresh, M, layB (trimP a).bytes b⟩ HL.out rfl (hr.setRow _) rfl ⟨by rw [HM.out], ?_⟩
        exact below_setRow hB (by omega) _
  · rw [hf] at c0
    have HJ : Hid (joinP a b = trimP b) := by unfold Hid joinP; rw [hf]; rfl
    have HTl : Hid ((trimP b).bytes.length = 32) := layB_len _ _
    have hl1 : Hid _ := hb1.load HB.out
    rw [HJ.out]
    go_enter Try.func31, Try.ntmps31
    go_wp2_with (refine wpList_loadG rfl 35 _ rfl _ rfl _ hl1.out ?_)
    refine (rtrim_any w1 b hb).mono ?_
    rintro e w2 ⟨rfl, hb2⟩
    have hat2 := hr1.below hb2
    have hB2 : Below w.heap.size w w2 := hB1.trans (hb2.mono hB1.size)
    go_wp2_with (refine wpList_storeP rfl _ _ rfl (w.heap.size + 1 + 1) (trimP b) pt0 rfl rfl HTl.out HZ.out hat2 ?_)
    exact ret_pt rfl (w.heap.size + 1 + 1) _ HTl.out rfl (hat2.setRow _) rfl ⟨rfl, below_setRow hB2 (by omega) _⟩

end Go.Proofs.Ytmifpeocgikbeab
