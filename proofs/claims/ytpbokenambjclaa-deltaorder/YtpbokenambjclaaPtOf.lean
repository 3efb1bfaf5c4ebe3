/- The contract of patch.Of. -/
import Derived.Test.YtpbokenambjclaaPtTrim
namespace Go.Proofs.Ytpbokenambjclaa
open Go.RowKit
set_option linter.unusedVariables false
set_option linter.unusedSimpArgs false
set_option maxRecDepth 100000

/-- What Of tells. -/
def ofNo (o : Int) (n : Nat) : Prop := o < 0 ∨ 32 - (n : Int) < o
def ofE (o : Int) (s : ByteArray) : Int := if o < 0 ∨ 32 - (s.size : Int) < o then 1 else 0
def ofR (o : Int) (s : ByteArray) : Pt := if o < 0 ∨ 32 - (s.size : Int) < o then pt0 else ofP o.toNat (strB s)
theorem ofR_ok (o : Int) (s : ByteArray) : PtOk (ofR o s) := by
  unfold ofR
  split
  · exact pt0_ok
  · exact ofP_ok (strB_byt s) (by rw [strB_length]; omega)

theorem strB_cells (s : ByteArray) : Lib.byteCells s.data.toList = (strB s).map (Value.int .u8) := by simp [Lib.byteCells, strB]

/-- The bytes of a text, laid into the noughts of a patch. -/
theorem of_row (o : Nat) (s : ByteArray) (h : o + s.size ≤ 32) (M : Nat) : ((ptC ⟨false, M, zeroC⟩).toList.take (2 + o) ++ Lib.byteCells s.data.toList ++ (ptC ⟨false, M, zeroC⟩).toList.drop (2 + o + s.size)).toArray = ptC ⟨false, M, (List.range 32).map (setAt (strB s).length o (strB s))⟩ := by
  apply Array.ext'
  rw [strB_cells]
  have hl := strB_length s
  generalize strB s = xs at *
  have e : ∀ b : List Int, (ptC ⟨false, M, b⟩).toList = Value.bool false :: Value.int .u32 (M : Int) :: b.map (Value.int .u8) := fun b => rfl
  rw [e, e, show 2 + o = o + 1 + 1 from by omega, show o + 1 + 1 + s.size = (o + s.size) + 1 + 1 from by omega]
  simp only [List.take_succ_cons, List.drop_succ_cons, List.cons_append, List.cons.injEq, true_and]
  apply List.ext_getElem?
  intro i
  have hz : ∀ i, (zeroC.map (Value.int .u8))[i]? = if i < 32 then some (.int .u8 0) else none := by
    intro i
    unfold zeroC
    rw [List.map_replicate, List.getElem?_replicate]
  have hr : ((((List.range 32).map (setAt xs.length o xs)).map (Value.int .u8)))[i]? = if i < 32 then some (.int .u8 (setAt xs.length o xs i)) else none := by
    rw [List.map_map, List.getElem?_map]
    by_cases hi : i < 32
    · rw [List.getElem?_range hi, if_pos hi]; rfl
    · rw [List.getElem?_eq_none (by simpa using hi), if_neg hi]; rfl
  have hzl : (zeroC.map (Value.int .u8)).length = 32 := by simp [zeroC]
  rw [hr]
  by_cases c1 : i < o
  · rw [List.append_assoc, List.getElem?_append_left (by rw [List.length_take, hzl]; omega), List.getElem?_take, if_pos c1, hz, if_pos (by omega), if_pos (by omega)]
    unfold setAt
    rw [if_neg (by omega)]
  · by_cases c2 : i < o + s.size
    · rw [List.append_assoc, List.getElem?_append_right (by rw [List.length_take, hzl]; omega), List.length_take, hzl, show min o 32 = o from by omega, List.getElem?_append_left (by rw [List.length_map]; omega), List.getElem?_map, List.getElem?_eq_getElem (by omega), if_pos (by omega)]
      unfold setAt
      rw [if_pos (by omega)]
      simp [List.getElem?_eq_getElem (show i - o < xs.length by omega)]
    · rw [List.getElem?_append_right (by rw [List.length_append, List.length_take, hzl, List.length_map]; omega), List.length_append, List.length_take, hzl, List.length_map, List.getElem?_drop, hz, show min o 32 = o from by omega, show o + s.size + (i - (o + xs.length)) = i from by omega]
      by_cases c3 : i < 32
      · rw [if_pos c3, if_pos c3]
        unfold setAt
        rw [if_neg (by omega)]
      · rw [if_neg c3, if_neg c3]

end Go.Proofs.Ytpbokenambjclaa
