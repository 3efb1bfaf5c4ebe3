/- The contract of the document's Compare. -/
import Derived.Test.YtpbokenambjclaaPCompare
namespace Go.Proofs.Ytpbokenambjclaa
open Go.RowKit
set_option maxRecDepth 4000
set_option linter.unusedVariables false
set_option linter.unusedSimpArgs false

theorem toList_inj {s t : ByteArray} (h : s.toList = t.toList) : s = t := by
  rw [ByteArray.toList_eq, ByteArray.toList_eq] at h
  obtain ⟨d⟩ := s
  obtain ⟨d'⟩ := t
  exact congrArg ByteArray.mk (Array.ext' h)

set_option maxHeartbeats 2000000 in
theorem refCompare_any (w : World) (a b : Pl) : Calls Try.prog 25 #[plV a, plV b] w fun e w' => e = .returned (.int .i64 (cmpP a b)) ∧ Below w.heap.size w w' := by
  obtain ⟨i, k, s, c⟩ := a
  obtain ⟨i', k', s', c'⟩ := b
  unfold plV cmpP
  dsimp only
  by_cases la0 : i < i'
  · rw [show orL _ = -1 from by simp [orL, cmpI, cmpS, la0]]
    go_enter Try.func25, Try.ntmps25
    go_wp2
    go_ret
    exact ⟨rfl, ((Below.refl _ _).alloc (Nat.le_refl _) _).alloc (by simp) _⟩
  · by_cases lb0 : i' < i
    · rw [show orL _ = 1 from by simp [orL, cmpI, cmpS, la0, lb0]]
      go_enter Try.func25, Try.ntmps25
      go_wp2
      go_ret
      exact ⟨rfl, ((Below.refl _ _).alloc (Nat.le_refl _) _).alloc (by simp) _⟩
    · obtain rfl : i = i' := by omega
      clear la0 lb0
      by_cases la1 : k < k'
      · rw [show orL _ = -1 from by simp [orL, cmpI, cmpS, la1]]
        go_enter Try.func25, Try.ntmps25
        go_wp2
        go_ret
        exact ⟨rfl, ((Below.refl _ _).alloc (Nat.le_refl _) _).alloc (by simp) _⟩
      · by_cases lb1 : k' < k
        · rw [show orL _ = 1 from by simp [orL, cmpI, cmpS, la1, lb1]]
          go_enter Try.func25, Try.ntmps25
          go_wp2
          go_ret
          exact ⟨rfl, ((Below.refl _ _).alloc (Nat.le_refl _) _).alloc (by simp) _⟩
        · obtain rfl : k = k' := by omega
          clear la1 lb1
          cases la2 : Op.bytesLess s.toList s'.toList
          · cases lb2 : (s.toList == s'.toList)
            · have lb2' : ¬ s.toList = s'.toList := by simpa using lb2
              rw [show orL _ = 1 from by simp [orL, cmpI, cmpS, la2, lb2']]
              go_enter Try.func25, Try.ntmps25
              go_wp2
              go_ret
              exact ⟨rfl, ((Below.refl _ _).alloc (Nat.le_refl _) _).alloc (by simp) _⟩
            · obtain rfl : s = s' := toList_inj (by simpa using lb2)
              clear lb2
              by_cases la3 : c < c'
              · rw [show orL _ = -1 from by simp [orL, cmpI, cmpS, la3, la2]]
                go_enter Try.func25, Try.ntmps25
                go_wp2
                go_ret
                exact ⟨rfl, ((Below.refl _ _).alloc (Nat.le_refl _) _).alloc (by simp) _⟩
              · by_cases lb3 : c' < c
                · rw [show orL _ = 1 from by simp [orL, cmpI, cmpS, la3, lb3, la2]]
                  go_enter Try.func25, Try.ntmps25
                  go_wp2
                  go_ret
                  exact ⟨rfl, ((Below.refl _ _).alloc (Nat.le_refl _) _).alloc (by simp) _⟩
                · obtain rfl : c = c' := by omega
                  clear la3 lb3
                  rw [show orL _ = 0 from by simp [orL, cmpI, cmpS, la2]]
                  go_enter Try.func25, Try.ntmps25
                  go_wp2
                  go_ret
                  exact ⟨rfl, ((Below.refl _ _).alloc (Nat.le_refl _) _).alloc (by simp) _⟩
          · rw [show orL _ = -1 from by simp [orL, cmpI, cmpS, la2]]
            go_enter Try.func25, Try.ntmps25
            go_wp2
            go_ret
            exact ⟨rfl, ((Below.refl _ _).alloc (Nat.le_refl _) _).alloc (by simp) _⟩

end Go.Proofs.Ytpbokenambjclaa
