/- The small functions of disk. -/
import Derived.Test.YtckcdmkgmbicfaaGreatDState
namespace Go.Proofs.YtckcdmkgmbicfaaGreat
open Go.RowKit Go.Maps
set_option linter.unusedVariables false

def ptr (p : Nat) : Value := .pointer (some ⟨p, 0, none⟩)

theorem disk_On {w : World} {p bs bp : Nat} {s : St} (h : DiskAt w p bs bp s) : Calls Tryz.prog 21 #[ptr p] w fun e w' => e = .returned (.bool (!s.off)) ∧ w' = w := by
  have c3 := h.c3
  unfold ptr
  go_enter Tryz.func21, Tryz.ntmps21
  go_wp2_with fail
  go_ret
  exact ⟨rfl, rfl⟩

theorem disk_Power {w : World} {p bs bp : Nat} {s : St} (h : DiskAt w p bs bp s) : Calls Tryz.prog 25 #[ptr p] w fun e w' => e = .returned (.tuple #[]) ∧ DiskAt w' p bs bp { s with off := false } ∧ Sole [p] w w' := by
  have c3 := h.c3
  have f3 := h.fr 3
  unfold ptr
  go_enter Tryz.func25, Tryz.ntmps25
  go_wp2_with fail
  go_end0
  refine ⟨rfl, h.put 3 _ (by simp [cellsOf]) rfl rfl ⟨h.good.b0, h.good.b1, h.good.safe, h.good.pend, h.good.l0, h.good.l1, h.good.w0, h.good.w1, h.good.mz⟩, Sole.setCell _ _ (by simp)⟩

/-- What mayUse tells: the power, then the block. -/
def useErr (s : St) (i : Int) : Int := if s.off then 20 else if i < 0 ∨ s.blocks ≤ i then 21 else 0

theorem disk_mayUse {w : World} {p bs bp : Nat} {s : St} (h : DiskAt w p bs bp s) (i : Int) (h0 : -9223372036854775808 ≤ i) (h1 : i ≤ 9223372036854775807) :
    Calls Tryz.prog 77 #[ptr p, .int .i64 i] w fun e w' => e = .returned (.int .i64 (useErr s i)) ∧ w' = w := by
  have c3 := h.c3
  have c0 := h.c0
  unfold ptr
  cases ho : s.off
  · rw [ho] at c3
    by_cases hi : i < 0
    · have he : useErr s i = 21 := by simp [useErr, ho, hi]
      rw [he]
      go_enter Tryz.func77, Tryz.ntmps77
      go_wp2_with fail
      go_ret
      exact ⟨rfl, rfl⟩
    · by_cases hj : s.blocks ≤ i
      · have he : useErr s i = 21 := by simp [useErr, ho, hj]
        rw [he]
        go_enter Tryz.func77, Tryz.ntmps77
        go_wp2_with fail
        go_ret
        exact ⟨rfl, rfl⟩
      · have he : useErr s i = 0 := by simp [useErr, ho]; omega
        rw [he]
        go_enter Tryz.func77, Tryz.ntmps77
        go_wp2_with fail
        go_ret
        exact ⟨rfl, rfl⟩
  · rw [ho] at c3
    have he : useErr s i = 20 := by simp [useErr, ho]
    rw [he]
    go_enter Tryz.func77, Tryz.ntmps77
    go_wp2_with fail
    go_ret
    exact ⟨rfl, rfl⟩

end Go.Proofs.YtckcdmkgmbicfaaGreat
