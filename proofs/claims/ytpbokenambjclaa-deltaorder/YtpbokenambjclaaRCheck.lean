/- The contract of the document's Check. -/
import Derived.Test.YtpbokenambjclaaPCheck2
namespace Go.Proofs.Ytpbokenambjclaa
open Go.RowKit
set_option maxRecDepth 4000
set_option linter.unusedVariables false

theorem empty_yes {s : ByteArray} (h : s.toList = []) : (s.toList == []) = true ∧ s.toList.isEmpty = true := by rw [h]; exact ⟨rfl, rfl⟩
theorem empty_no {s : ByteArray} (h : s.toList ≠ []) : (s.toList == []) = false ∧ s.toList.isEmpty = false := by
  cases hx : s.toList with
  | nil => exact absurd hx h
  | cons a l => exact ⟨rfl, rfl⟩

set_option maxHeartbeats 1000000 in
theorem rc_rec0 (w : World) (i : Int) (s : ByteArray) (h0 : i ≠ 0) (hs : s.toList = []) : Calls Try.prog 31 #[plV ⟨i, 1, s, 0⟩] w fun e w' => e = .returned (.int .i64 0) ∧ Below w.heap.size w w' := by
  have hb : (i != 0) = true := by simpa using h0
  obtain ⟨e1, e2⟩ := empty_yes hs
  unfold plV
  go_enter Try.func31, Try.ntmps31
  go_wp2
  go_ret
  exact ⟨rfl, (Below.refl _ _).alloc (Nat.le_refl _) _⟩

set_option maxHeartbeats 1000000 in
theorem rc_rec1 (w : World) (i : Int) (s : ByteArray) (c : Int) (h0 : i ≠ 0) (hs : s.toList = []) (hc : c ≠ 0) : Calls Try.prog 31 #[plV ⟨i, 1, s, c⟩] w fun e w' => e = .returned (.int .i64 30) ∧ Below w.heap.size w w' := by
  have hb : (i != 0) = true := by simpa using h0
  obtain ⟨e1, e2⟩ := empty_yes hs
  have hc' : (c == 0) = false := by simpa using hc
  unfold plV
  go_enter Try.func31, Try.ntmps31
  go_wp2
  go_ret
  exact ⟨rfl, (Below.refl _ _).alloc (Nat.le_refl _) _⟩

set_option maxHeartbeats 1000000 in
theorem rc_rec2 (w : World) (i : Int) (s : ByteArray) (c : Int) (h0 : i ≠ 0) (hs : s.toList ≠ []) : Calls Try.prog 31 #[plV ⟨i, 1, s, c⟩] w fun e w' => e = .returned (.int .i64 30) ∧ Below w.heap.size w w' := by
  have hb : (i != 0) = true := by simpa using h0
  obtain ⟨e1, e2⟩ := empty_no hs
  unfold plV
  go_enter Try.func31, Try.ntmps31
  go_wp2
  go_ret
  exact ⟨rfl, (Below.refl _ _).alloc (Nat.le_refl _) _⟩

set_option maxHeartbeats 1000000 in
theorem rc_ent0 (w : World) (i : Int) (s : ByteArray) (h0 : i ≠ 0) (hn : s.size ≤ maxLen) (hs : nameOk s = true) : Calls Try.prog 31 #[plV ⟨i, 2, s, 0⟩] w fun e w' => e = .returned (.int .i64 0) ∧ Below w.heap.size w w' := by
  have hb : (i != 0) = true := by simpa using h0
  have hc : ∀ W, Calls Try.prog 51 #[.string s] W fun e w' => e = .returned (.int .i64 0) ∧ W = w' := fun W => by
    have := refName_any W s hn
    rwa [nameE_0 hs] at this
  unfold plV
  go_enter Try.func31, Try.ntmps31
  go_wp2_with (go_at_call 51; refine (hc _).mono ?_; rintro e w1 ⟨rfl, rfl⟩)
  go_ret
  exact ⟨rfl, (Below.refl _ _).alloc (Nat.le_refl _) _⟩

set_option maxHeartbeats 1000000 in
theorem rc_ent1 (w : World) (i : Int) (s : ByteArray) (c : Int) (h0 : i ≠ 0) (hn : s.size ≤ maxLen) (hs : nameOk s = true) (hc0 : c ≠ 0) : Calls Try.prog 31 #[plV ⟨i, 2, s, c⟩] w fun e w' => e = .returned (.int .i64 30) ∧ Below w.heap.size w w' := by
  have hb : (i != 0) = true := by simpa using h0
  have hc : ∀ W, Calls Try.prog 51 #[.string s] W fun e w' => e = .returned (.int .i64 0) ∧ W = w' := fun W => by
    have := refName_any W s hn
    rwa [nameE_0 hs] at this
  have hc' : (c == 0) = false := by simpa using hc0
  unfold plV
  go_enter Try.func31, Try.ntmps31
  go_wp2_with (go_at_call 51; refine (hc _).mono ?_; rintro e w1 ⟨rfl, rfl⟩)
  go_ret
  exact ⟨rfl, (Below.refl _ _).alloc (Nat.le_refl _) _⟩

set_option maxHeartbeats 1000000 in
theorem rc_ent2 (w : World) (i : Int) (s : ByteArray) (c : Int) (h0 : i ≠ 0) (hn : s.size ≤ maxLen) (hs : nameOk s = false) : Calls Try.prog 31 #[plV ⟨i, 2, s, c⟩] w fun e w' => e = .returned (.int .i64 30) ∧ Below w.heap.size w w' := by
  have hb : (i != 0) = true := by simpa using h0
  have hc : ∀ W, Calls Try.prog 51 #[.string s] W fun e w' => e = .returned (.int .i64 30) ∧ W = w' := fun W => by
    have := refName_any W s hn
    rwa [nameE_30 hs] at this
  unfold plV
  go_enter Try.func31, Try.ntmps31
  go_wp2_with (go_at_call 51; refine (hc _).mono ?_; rintro e w1 ⟨rfl, rfl⟩)
  go_ret
  exact ⟨rfl, (Below.refl _ _).alloc (Nat.le_refl _) _⟩

set_option maxHeartbeats 1000000 in
theorem rc_dat0 (w : World) (i : Int) (s : ByteArray) (c : Int) (h0 : i ≠ 0) (hs : s.toList = []) (hc : c < 16) : Calls Try.prog 31 #[plV ⟨i, 3, s, c⟩] w fun e w' => e = .returned (.int .i64 0) ∧ Below w.heap.size w w' := by
  have hb : (i != 0) = true := by simpa using h0
  obtain ⟨e1, e2⟩ := empty_yes hs
  unfold plV
  go_enter Try.func31, Try.ntmps31
  go_wp2
  go_ret
  exact ⟨rfl, (Below.refl _ _).alloc (Nat.le_refl _) _⟩

set_option maxHeartbeats 1000000 in
theorem rc_dat1 (w : World) (i : Int) (s : ByteArray) (c : Int) (h0 : i ≠ 0) (hs : s.toList = []) (hc : ¬ c < 16) : Calls Try.prog 31 #[plV ⟨i, 3, s, c⟩] w fun e w' => e = .returned (.int .i64 30) ∧ Below w.heap.size w w' := by
  have hb : (i != 0) = true := by simpa using h0
  obtain ⟨e1, e2⟩ := empty_yes hs
  unfold plV
  go_enter Try.func31, Try.ntmps31
  go_wp2
  go_ret
  exact ⟨rfl, (Below.refl _ _).alloc (Nat.le_refl _) _⟩

set_option maxHeartbeats 1000000 in
theorem rc_dat2 (w : World) (i : Int) (s : ByteArray) (c : Int) (h0 : i ≠ 0) (hs : s.toList ≠ []) : Calls Try.prog 31 #[plV ⟨i, 3, s, c⟩] w fun e w' => e = .returned (.int .i64 30) ∧ Below w.heap.size w w' := by
  have hb : (i != 0) = true := by simpa using h0
  obtain ⟨e1, e2⟩ := empty_no hs
  unfold plV
  go_enter Try.func31, Try.ntmps31
  go_wp2
  go_ret
  exact ⟨rfl, (Below.refl _ _).alloc (Nat.le_refl _) _⟩

set_option maxHeartbeats 1000000 in
theorem rc_part (w : World) (i k : Int) (s : ByteArray) (c : Int) (h1 : k ≠ 1) (h2 : k ≠ 2) (h3 : k ≠ 3) : Calls Try.prog 31 #[plV ⟨i, k, s, c⟩] w fun e w' => e = .returned (.int .i64 30) ∧ Below w.heap.size w w' := by
  unfold plV
  go_enter Try.func31, Try.ntmps31
  go_wp2
  go_ret
  exact ⟨rfl, (Below.refl _ _).alloc (Nat.le_refl _) _⟩

set_option maxHeartbeats 1000000 in
theorem rc_ino1 (w : World) (s : ByteArray) (c : Int) : Calls Try.prog 31 #[plV ⟨0, 1, s, c⟩] w fun e w' => e = .returned (.int .i64 30) ∧ Below w.heap.size w w' := by
  unfold plV
  go_enter Try.func31, Try.ntmps31
  go_wp2
  go_ret
  exact ⟨rfl, (Below.refl _ _).alloc (Nat.le_refl _) _⟩

set_option maxHeartbeats 1000000 in
theorem rc_ino2 (w : World) (s : ByteArray) (c : Int) : Calls Try.prog 31 #[plV ⟨0, 2, s, c⟩] w fun e w' => e = .returned (.int .i64 30) ∧ Below w.heap.size w w' := by
  unfold plV
  go_enter Try.func31, Try.ntmps31
  go_wp2
  go_ret
  exact ⟨rfl, (Below.refl _ _).alloc (Nat.le_refl _) _⟩

set_option maxHeartbeats 1000000 in
theorem rc_ino3 (w : World) (s : ByteArray) (c : Int) : Calls Try.prog 31 #[plV ⟨0, 3, s, c⟩] w fun e w' => e = .returned (.int .i64 30) ∧ Below w.heap.size w w' := by
  unfold plV
  go_enter Try.func31, Try.ntmps31
  go_wp2
  go_ret
  exact ⟨rfl, (Below.refl _ _).alloc (Nat.le_refl _) _⟩

theorem refCheck_any (w : World) (p : Pl) (hp : PlOk p) : Calls Try.prog 31 #[plV p] w fun e w' => e = .returned (.int .i64 (plE p)) ∧ Below w.heap.size w w' := by
  have hn := hp.n1
  clear hp
  obtain ⟨i, k, s, c⟩ := p
  dsimp only at hn
  unfold plE
  by_cases h1 : k = 1
  · subst h1
    by_cases h0 : i = 0
    · subst h0; exact rc_ino1 w s c
    · by_cases hs : s.toList = []
      · by_cases hc : c = 0
        · subst hc
          rw [if_pos (by simp [plOk, h0, hs])]
          exact rc_rec0 w i s h0 hs
        · rw [if_neg (by simp [plOk, hc])]
          exact rc_rec1 w i s c h0 hs hc
      · rw [if_neg (by simp [plOk, hs])]
        exact rc_rec2 w i s c h0 hs
  · by_cases h2 : k = 2
    · subst h2
      by_cases h0 : i = 0
      · subst h0; exact rc_ino2 w s c
      · rw [plOk_ent i s c h0]
        cases hs : nameOk s
        · exact rc_ent2 w i s c h0 hn hs
        · by_cases hc : c = 0
          · subst hc; exact rc_ent0 w i s h0 hn hs
          · rw [if_neg (by simp [hc])]
            exact rc_ent1 w i s c h0 hn hs hc
    · by_cases h3 : k = 3
      · subst h3
        by_cases h0 : i = 0
        · subst h0; exact rc_ino3 w s c
        · rw [plOk_dat i s c h0]
          by_cases hs : s.toList = []
          · by_cases hc : c < 16
            · rw [if_pos (by simp [hs, hc])]
              exact rc_dat0 w i s c h0 hs hc
            · rw [if_neg (by simp [hc])]
              exact rc_dat1 w i s c h0 hs hc
          · rw [if_neg (by simp [hs])]
            exact rc_dat2 w i s c h0 hs
      · rw [if_neg (by simp [plOk, h1, h2, h3])]
        exact rc_part w i k s c h1 h2 h3

end Go.Proofs.Ytpbokenambjclaa
