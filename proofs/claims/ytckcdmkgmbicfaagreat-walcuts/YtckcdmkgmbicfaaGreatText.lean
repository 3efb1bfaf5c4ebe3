/- The contract of codec.Text. -/
import Derived.Test.YtckcdmkgmbicfaaGreatLaws
namespace Go.Proofs.YtckcdmkgmbicfaaGreat
open Go.RowKit
set_option linter.unusedVariables false
set_option maxRecDepth 4000

def textB (s : ByteArray) : List Int := if 255 < s.size then [] else (s.size : Int) :: strB s

def textE (s : ByteArray) : Int := if 255 < s.size then 2 else 0

/-- 'copy(b[1:], s)' into a row that was just made, behind the first byte's store. -/
theorem copy_text (w : World) (s : ByteArray) (M : Array Value) (x : Int) (hM : M.size = 1 + s.size) :
    (Builtin.copy_ #[80, 9] 3 #[.slice (some ⟨w.heap.size, 1, none⟩) s.size s.size, .string s]).run Tryz.prog (w.alloc (.cells (M.setIfInBounds 0 (.int .u8 x)) 5)) =
      .ok (.int .i64 s.size) (w.alloc (.cells ((x :: strB s).map (Value.int .u8)).toArray 5)) := by
  have h := Lib.run_copy_row_string (P := Tryz.prog) (w.alloc (.cells (M.setIfInBounds 0 (.int .u8 x)) 5)) 80 9 3 5 w.heap.size 1 s.size s.size s (M.setIfInBounds 0 (.int .u8 x)) 5 Tryz.underlying80
    (by kernel_rfl) (heap_alloc_new w _) (Nat.le_refl _) (by simp; omega)
  rw [h, World.setRow_alloc_new]
  congr 2
  congr 1
  apply Array.ext'
  have hd : List.drop (1 + s.size) (M.setIfInBounds 0 (.int .u8 x)).toList = [] := List.drop_of_length_le (by simp; omega)
  have ht : List.take 1 (M.setIfInBounds 0 (.int .u8 x)).toList = [.int .u8 x] := by
    rw [Array.toList_setIfInBounds]
    have hl : M.toList.length = 1 + s.size := by simpa using hM
    generalize M.toList = L at hl
    match L, hl with
    | m0 :: r, _ => rfl
    | [], hl => simp at hl; omega
  rw [hd, ht]
  simp [strB, Lib.byteCells]

set_option maxHeartbeats 400000 in
theorem text_any (w : World) (s : ByteArray) (hm : s.size ≤ maxLen) :
    Calls Tryz.prog 98 #[.string s] w fun e w' => ∃ v, e = .returned (.tuple #[v, .int .i64 (textE s)]) ∧ Own w' w.heap.size v (textB s) ∧ Below w.heap.size w w' := by
  unfold maxLen at hm
  by_cases hs : 255 < s.size
  · have e1 : textE s = 2 := if_pos hs
    have e2 : textB s = [] := if_pos hs
    rw [e1, e2]
    clear e1 e2
    go_enter Tryz.func98, Tryz.ntmps98
    go_wp2
    go_ret2
    exact ⟨_, rfl, Own.nil _ _, Below.refl _ _⟩
  · have e1 : textE s = 0 := if_neg hs
    have e2 : textB s = (s.size : Int) :: strB s := if_neg hs
    rw [e1, e2]
    clear e1 e2
    have hs' : s.size ≤ 255 := by omega
    have hmk := make_bytes w (1 + s.size) (1 + s.size) (by omega) (by omega)
    by_cases h0 : s = ByteArray.empty
    · subst h0
      have hmk' : (Instr.makeSlice 80 (.int .i64 1) (.int .i64 1)).run Tryz.prog w = .ok (.slice (some ⟨w.heap.size, 0, none⟩) 1 1) (w.alloc (.cells #[Value.int .u8 0] 5)) := hmk
      have hcp : ∀ W, (Builtin.copy_ #[80, 9] 3 #[.slice (some ⟨w.heap.size, 0, none⟩) 0 0, .string ByteArray.empty]).run Tryz.prog W = .ok (goInt 0) W := fun W =>
        Lib.run_copy_empty_string W 80 9 3 5 _ _ _ _ Tryz.underlying80 (by kernel_rfl) rfl
      clear hmk hs hm hs'
      go_enter Tryz.func98, Tryz.ntmps98
      go_wp2
      go_ret2
      exact ⟨_, rfl, Own.laid (by rfl) (by decide) rfl, (Below.refl _ _).alloc (Nat.le_refl _) _⟩
    · obtain ⟨M, hM⟩ : ∃ M, M = (List.replicate (1 + s.size) (Value.int .u8 0)).toArray := ⟨_, rfl⟩
      rw [← hM] at hmk
      have hM0 : M[0]? = some (.int .u8 0) := by rw [hM, List.getElem?_toArray, List.getElem?_replicate, if_pos (by omega)]
      have hMs := congrArg Array.size hM
      simp at hMs
      have hcp := copy_text w s M s.size hMs
      clear hM hMs
      generalize hR : ((s.size : Int) :: strB s).map (Value.int .u8) = R at *
      have HR : Hid (((s.size : Int) :: strB s).map (Value.int .u8) = R) := hR
      clear hR
      go_enter Tryz.func98, Tryz.ntmps98
      go_wp2
      go_ret2
      exact ⟨_, rfl, Own.laid (by simp [strB_length]; omega) (by unfold maxLen; omega) HR.out.symm, (Below.refl _ _).alloc (Nat.le_refl _) _⟩

end Go.Proofs.YtckcdmkgmbicfaaGreat
