/- A text's bytes, whatever stands behind them, are read as that text. -/
import Derived.Test.YtckcdmkgmbicfaaGreatText
import Derived.Test.YtckcdmkgmbicfaaGreatReadText
namespace Go.Proofs.YtckcdmkgmbicfaaGreat
open Go.RowKit
set_option linter.unusedVariables false
set_option maxRecDepth 4000

theorem back_S (s : ByteArray) (ys : List Int) : readS ((s.size : Int) :: (strB s ++ ys)) = s := by
  have hl := strB_length s
  simp only [readS, Int.toNat_natCast]
  rw [if_neg (by simp; omega), List.take_append_of_le_length (by omega), List.take_of_length_le (by omega), strOfNums_strB]

theorem back_N (s : ByteArray) (ys : List Int) : readN ((s.size : Int) :: (strB s ++ ys)) = 1 + s.size := by
  have hl := strB_length s
  simp only [readN, Int.toNat_natCast]
  rw [if_neg (by simp; omega)]

theorem back_E (s : ByteArray) (ys : List Int) : readE ((s.size : Int) :: (strB s ++ ys)) = 0 := by
  have hl := strB_length s
  simp only [readE, Int.toNat_natCast]
  rw [if_neg (by simp; omega)]

/-- Without the last byte a text's bytes are short. -/
theorem cut_E (s : ByteArray) : readE (((s.size : Int) :: strB s).take s.size) = 10 := by
  have hl := strB_length s
  generalize hn : s.size = n at *
  cases n with
  | zero => rfl
  | succ m =>
    rw [List.take_succ_cons]
    simp only [readE]
    rw [if_pos (by rw [List.length_take]; simp; omega)]

end Go.Proofs.YtckcdmkgmbicfaaGreat
