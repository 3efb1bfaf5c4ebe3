/- The contract of patch.Of. -/
import Derived.Test.YtjjhfginmamlkaaGreatT3
namespace Go.Proofs.YtjjhfginmamlkaaGreat
open Go.RowKit
set_option linter.unusedVariables false
set_option linter.unusedSimpArgs false
set_option maxRecDepth 100000

/-- What Of tells. -/
def ofNo (o : Int) (n : Nat) : Prop := o < 0 ∨ 32 - (n : Int) < o
def ofE (o : Int) (s : ByteArray) : Int := if o < 0 ∨ 32 - (s.size : Int) < o then 1 else 0
def ofR (o : Int) (s : ByteArray) : Pt := if o < 0 ∨ 32 - (s.size : Int) < o then pt0 else ofP o.toNat (strB s)
theorem ofR_ok (o : Int) (s : ByteArray) : PtOk (ofR o s) := by
  unfold ofR
  split
  · exact pt0_ok
  · exact ofP_ok (strB_byt s) (by rw [strB_length]; omega)

theorem strB_cells (s : ByteArray) : Lib.byteCells s.data.toList = (strB s).map (Value.int .u8) := by simp [Lib.byteCells, strB]

/-- The bytes of a text, laid into the noughts of a patch. -/
theorem of_row (o : Nat) (s : ByteArray) (h : o + s.size ≤ 32) (M : Nat) : ((ptC ⟨false, M, zeroC⟩).toList.take (2 + o) ++ Lib.byteCells s.data.toList ++ (ptC ⟨false, M, zeroC⟩).toList.drop (2 + o + s.size)).toArray = ptC ⟨false, M, (List.range 32).map (setAt (strB s).length o (strB s))⟩ := by
  apply Array.ext'
  rw [strB_cells]
  have hl := strB_length s
  generalize strB s = xs at *
  have e : ∀ b : List Int, (ptC ⟨false, M, b⟩).toList = Value.bool false :: Value.int .u32 (M : Int) :: b.map (Value.int .u8) := fun b => rfl
  rw [e, e, show 2 + o = o + 1 + 1 from by omega, show o + 1 + 1 + s.size = (o + s.size) + 1 + 1 from by omega]
  simp only [List.take_succ_cons, List.drop_succ_cons, List.cons_append, List.cons.injEq, true_and]
  apply List.ext_getElem?
  intro i
  have hz : ∀ i, (zeroC.map (Value.int .u8))[i]? = if i < 32 then some (.int .u8 0) else none := by
    intro i
    unfold zeroC
    rw [List.map_replicate, List.getElem?_replicate]
  have hr : ((((List.range 32).map (setAt xs.length o xs)).map (Value.int .u8)))[i]? = if i < 32 then some (.int .u8 (setAt xs.length o xs i)) else none := by
    rw [List.map_map, List.getElem?_map]
    by_cases hi : i < 32
    · rw [List.getElem?_range hi, if_pos hi]; rfl
    · rw [List.getElem?_eq_none (by simpa using hi), if_neg hi]; rfl
  have hzl : (zeroC.map (Value.int .u8)).length = 32 := by simp [zeroC]
  rw [hr]
  by_cases c1 : i < o
  · rw [List.append_assoc, List.getElem?_append_left (by rw [List.length_take, hzl]; omega), List.getElem?_take, if_pos c1, hz, if_pos (by omega), if_pos (by omega)]
    unfold setAt
    rw [if_neg (by omega)]
  · by_cases c2 : i < o + s.size
    · rw [List.append_assoc, List.getElem?_append_right (by rw [List.length_take, hzl]; omega), List.length_take, hzl, show min o 32 = o from by omega, List.getElem?_append_left (by rw [List.length_map]; omega), List.getElem?_map, List.getElem?_eq_getElem (by omega), if_pos (by omega)]
      unfold setAt
      rw [if_pos (by omega)]
      simp [List.getElem?_eq_getElem (show i - o < xs.length by omega)]
    · rw [List.getElem?_append_right (by rw [List.length_append, List.length_take, hzl, List.length_map]; omega), List.length_append, List.length_take, hzl, List.length_map, List.getElem?_drop, hz, show min o 32 = o from by omega, show o + s.size + (i - (o + xs.length)) = i from by omega]
      by_cases c3 : i < 32
      · rw [if_pos c3, if_pos c3]
        unfold setAt
        rw [if_neg (by omega)]
      · rw [if_neg c3, if_neg c3]

set_option maxHeartbeats 2000000 in
theorem of_any (w : World) (o : Int) (s : ByteArray) (ho : (Lit.int .i64 o).wf = true) (hs : s.size ≤ maxLen) : Calls Tryz.prog 68 #[.int .i64 o, .string s] w fun e w' => e = .returned (.tuple #[.agg (ptC (ofR o s)), .int .i64 (ofE o s)]) ∧ Below w.heap.size w w' := by
  have hz := zeroPt
  have HZ : Hid (zeroC.length = 32) := ch_zero.1
  unfold maxLen at hs
  obtain ⟨ho1, ho2⟩ := bounds_i64 ho
  obtain ⟨w1, hw1⟩ : ∃ w1, w.alloc (.cells (ptC pt0) 92) = w1 := ⟨_, rfl⟩
  have hB1 : Below w.heap.size w w1 := by rw [← hw1]; exact (Below.refl _ w).alloc (Nat.le_refl _) _
  have hr1 : PtAt w1 w.heap.size pt0 := by rw [← hw1]; exact PtAt.laid w pt0
  by_cases hno : o < 0 ∨ 32 - (s.size : Int) < o
  · rw [show ofR o s = pt0 from if_pos hno, show ofE o s = 1 from if_pos hno]
    by_cases h0 : o < 0
    · clear hno
      go_enter Tryz.func68, Tryz.ntmps68
      go_wp2_with (first
        | (refine wpList_buildBy rfl 92 _ rfl _ rfl [] (by kernel_rfl) (ptC pt0) built_pt0 ?_)
        | (refine wpList_storeP rfl _ _ rfl w.heap.size pt0 pt0 rfl rfl HZ.out HZ.out hr1 ?_))
      refine ret_pt2 rfl w.heap.size pt0 HZ.out rfl _ rfl (hr1.setRow _) rfl ⟨rfl, ?_⟩
      exact below_setRow hB1 (Nat.le_refl _) _
    · have h1 : 32 - (s.size : Int) < o := by omega
      clear hno
      go_enter Tryz.func68, Tryz.ntmps68
      go_wp2_with (first
        | (refine wpList_buildBy rfl 92 _ rfl _ rfl [] (by kernel_rfl) (ptC pt0) built_pt0 ?_)
        | (refine wpList_storeP rfl _ _ rfl w.heap.size pt0 pt0 rfl rfl HZ.out HZ.out hr1 ?_))
      refine ret_pt2 rfl w.heap.size pt0 HZ.out rfl _ rfl (hr1.setRow _) rfl ⟨rfl, ?_⟩
      exact below_setRow hB1 (Nat.le_refl _) _
  · rw [show ofR o s = ofP o.toNat (strB s) from if_neg hno, show ofE o s = 0 from if_neg hno]
    obtain ⟨n, rfl⟩ : ∃ n : Nat, o = n := ⟨o.toNat, by omega⟩
    have hns : n + s.size ≤ 32 := by omega
    have hnot : ¬ (32 - (s.size : Int) < (n : Int)) := by omega
    rw [Int.toNat_natCast]
    have hbf := bitsFrom_any w1 n (by omega)
    have hbg := bitsFrom_any w1 (n + s.size) hns
    rw [Int.natCast_add] at hbg
    have han : bits .andNot .u32 ((runM n (32 - n) : Nat) : Int) ((runM (n + s.size) (32 - (n + s.size)) : Nat) : Int) = ((runM n s.size : Nat) : Int) := by
      rw [u32_andNot_nat _ _ (runM_lt (by omega)) (runM_lt (by omega)), run_andNot hns]
    have hrow := of_row n s hns (runM n s.size)
    have hP : ofP n (strB s) = ⟨false, runM n s.size, (List.range 32).map (setAt (strB s).length n (strB s))⟩ := by unfold ofP; rw [strB_length]
    rw [hP]
    have HB0 : Hid (n = 32 → (List.range 32).map (setAt (strB s).length n (strB s)) = zeroC) := fun e => by
      apply ch_ext (by simp) ch_zero.1
      intro i hi
      rw [range_get _ hi, zeroC_get]
      unfold setAt
      rw [if_neg (by omega)]
    have HQ : Hid (((List.range 32).map (setAt (strB s).length n (strB s))).length = 32) := by unfold Hid; simp
    generalize (List.range 32).map (setAt (strB s).length n (strB s)) = Bs at *
    generalize runM n (32 - n) = M1 at *
    generalize runM (n + s.size) (32 - (n + s.size)) = M2 at *
    generalize runM n s.size = M at *
    clear hno hP
    obtain ⟨w2, hw2⟩ : ∃ w2, w1.alloc (.cells (ptC pt0) 92) = w2 := ⟨_, rfl⟩
    have hB2 : Below w.heap.size w w2 := by rw [← hw2]; exact hB1.alloc hB1.size _
    have hb12 : Below w1.heap.size w1 w2 := by rw [← hw2]; exact (Below.refl _ w1).alloc (Nat.le_refl _) _
    have hp2 : PtAt w2 w1.heap.size pt0 := by rw [← hw2]; exact PtAt.laid w1 pt0
    have hr2 := hr1.below hb12
    have hlt := hr1.lt
    obtain ⟨w3, hw3⟩ : ∃ w3, w2.setRow w1.heap.size (ptC ⟨false, M, zeroC⟩) = w3 := ⟨_, rfl⟩
    have hB3 : Below w.heap.size w w3 := by rw [← hw3]; exact below_setRow hB2 hB1.size _
    have hp3 : PtAt w3 w1.heap.size ⟨false, M, zeroC⟩ := by rw [← hw3]; exact hp2.setRow _
    have hr3 : PtAt w3 w.heap.size pt0 := ⟨by rw [← hw3]; exact (setRow_other _ _ _ _ (by omega)).trans hr2.row⟩
    obtain ⟨w4, hw4⟩ : ∃ w4, w3.setRow w1.heap.size (ptC ⟨false, M, Bs⟩) = w4 := ⟨_, rfl⟩
    have hB4 : Below w.heap.size w w4 := by rw [← hw4]; exact below_setRow hB3 hB1.size _
    have hp4 : PtAt w4 w1.heap.size ⟨false, M, Bs⟩ := by rw [← hw4]; exact hp3.setRow _
    have hr4 : PtAt w4 w.heap.size pt0 := ⟨by rw [← hw4]; exact (setRow_other _ _ _ _ (by omega)).trans hr3.row⟩
    have hsz : ((Tryz.prog.info? 5).map (·.size)) = some 1 := by kernel_rfl
    by_cases hn32 : n = 32
    · have hB := HB0.out hn32
      subst hn32
      subst hB
      have hs0 : s.size = 0 := by omega
      have hcp := fun (d : Option Addr) (l c : Nat) => Lib.run_copy_empty_string (P := Tryz.prog) w3 42 9 3 5 d l c s Tryz.underlying42 (by rw [hsz]; rfl) hs0
      have HS0 : Hid (s.size = 0) := hs0
      clear hrow hs0
      have hl4 : Hid _ := hp3.load HZ.out
      go_enter Tryz.func68, Tryz.ntmps68
      go_wp2_with (first
        | (go_at_call 93; refine hbf.mono ?_; rintro e w9 ⟨rfl, rfl⟩)
        | (go_at_call 93; refine hbg.mono ?_; rintro e w9 ⟨rfl, rfl⟩)
        | (refine wpList_buildBy rfl 92 _ rfl _ rfl [(1, .int .u32 (M : Int))] (by kernel_rfl) (ptC ⟨false, M, zeroC⟩) (built_mask M) ?_)
        | (refine wpList_storeP rfl _ _ rfl w1.heap.size ⟨false, M, zeroC⟩ pt0 rfl rfl HZ.out HZ.out hp2 ?_; rw [hw3])
        | (refine wpList_loadG rfl 92 _ rfl _ rfl _ hl4.out ?_)
        | (refine wpList_storeP rfl _ _ rfl w.heap.size ⟨false, M, zeroC⟩ pt0 rfl rfl HZ.out HZ.out hr3 ?_))
      refine ret_pt2 rfl w.heap.size ⟨false, M, zeroC⟩ HZ.out rfl _ rfl (hr3.setRow _) rfl ⟨rfl, ?_⟩
      exact below_setRow hB3 (Nat.le_refl _) _
    · have hcp := Lib.run_copy_row_string (P := Tryz.prog) w3 42 9 3 5 w1.heap.size (2 + n) (32 - n) (32 - n) s (ptC ⟨false, M, zeroC⟩) 92 Tryz.underlying42 hsz hp3.row (by omega) (by rw [ptC_size HZ.out]; omega)
      rw [hrow, hw4] at hcp
      have hl4 : Hid _ := hp4.load HQ.out
      have hn32' : (n : Int) ≤ 32 := by omega
      have hne : ¬ 32 = n := by omega
      clear hrow
      go_enter Tryz.func68, Tryz.ntmps68
      go_wp2_with (first
        | (go_at_call 93; refine hbf.mono ?_; rintro e w9 ⟨rfl, rfl⟩)
        | (go_at_call 93; refine hbg.mono ?_; rintro e w9 ⟨rfl, rfl⟩)
        | (refine wpList_buildBy rfl 92 _ rfl _ rfl [(1, .int .u32 (M : Int))] (by kernel_rfl) (ptC ⟨false, M, zeroC⟩) (built_mask M) ?_)
        | (refine wpList_storeP rfl _ _ rfl w1.heap.size ⟨false, M, zeroC⟩ pt0 rfl rfl HZ.out HZ.out hp2 ?_; rw [hw3])
        | (refine wpList_loadG rfl 92 _ rfl _ rfl _ hl4.out ?_)
        | (refine wpList_storeP rfl _ _ rfl w.heap.size ⟨false, M, Bs⟩ pt0 rfl rfl HQ.out HZ.out hr4 ?_))
      refine ret_pt2 rfl w.heap.size ⟨false, M, Bs⟩ HQ.out rfl _ rfl (hr4.setRow _) rfl ⟨rfl, ?_⟩
      exact below_setRow hB4 (Nat.le_refl _) _

end Go.Proofs.YtjjhfginmamlkaaGreat
