/- The small functions of disk. -/
import Derived.Test.YthgdbjpefjjeaaaGreatDState
namespace Go.Proofs.YthgdbjpefjjeaaaGreat
open Go.RowKit Go.Maps
set_option linter.unusedVariables false

def ptr (p : Nat) : Value := .pointer (some ⟨p, 0, none⟩)

/-- What mayUse tells: the power, then the block. -/
def useErr (s : St) (i : Int) : Int := if s.off then 20 else if i < 0 ∨ s.blocks ≤ i then 21 else 0

theorem disk_mayUse {w : World} {p bs bp : Nat} {s : St} (h : DiskAt w p bs bp s) (i : Int) (h0 : -9223372036854775808 ≤ i) (h1 : i ≤ 9223372036854775807) :
    Calls Tryz.prog 69 #[ptr p, .int .i64 i] w fun e w' => e = .returned (.int .i64 (useErr s i)) ∧ w' = w := by
  have c3 := h.c3
  have c0 := h.c0
  unfold ptr
  cases ho : s.off
  · rw [ho] at c3
    by_cases hi : i < 0
    · have he : useErr s i = 21 := by simp [useErr, ho, hi]
      rw [he]
      go_enter Tryz.func69, Tryz.ntmps69
      go_wp2_with fail
      go_ret
      exact ⟨rfl, rfl⟩
    · by_cases hj : s.blocks ≤ i
      · have he : useErr s i = 21 := by simp [useErr, ho, hj]
        rw [he]
        go_enter Tryz.func69, Tryz.ntmps69
        go_wp2_with fail
        go_ret
        exact ⟨rfl, rfl⟩
      · have he : useErr s i = 0 := by simp [useErr, ho]; omega
        rw [he]
        go_enter Tryz.func69, Tryz.ntmps69
        go_wp2_with fail
        go_ret
        exact ⟨rfl, rfl⟩
  · rw [ho] at c3
    have he : useErr s i = 20 := by simp [useErr, ho]
    rw [he]
    go_enter Tryz.func69, Tryz.ntmps69
    go_wp2_with fail
    go_ret
    exact ⟨rfl, rfl⟩

end Go.Proofs.YthgdbjpefjjeaaaGreat
