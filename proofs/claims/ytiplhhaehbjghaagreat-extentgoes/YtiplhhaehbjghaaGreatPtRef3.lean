/- The document's Zero and Of. -/
import Derived.Test.YtiplhhaehbjghaaGreatPF
namespace Go.Proofs.YtiplhhaehbjghaaGreat
open Go.RowKit
set_option linter.unusedVariables false
set_option maxHeartbeats 32000000
set_option maxRecDepth 100000
set_option linter.unusedSimpArgs false
theorem PtAt.setM {w : World} {g : Nat} {p : Pt} (h : PtAt w g p) (m : Nat) : PtAt (w.setCell ⟨g, 1, none⟩ (.int .u32 (m : Int))) g ⟨p.fresh, m, p.bytes⟩ := by
 refine ⟨(heap_setCell_same w g 1 _ _ _ h.row).trans ?_⟩
 congr 2
theorem or_bit {o n : Nat} (h : o + n < 32) : bits .or .u32 ((runM o n : Nat) : Int) ((2 : Int) ^ (o + n) % 4294967296) = ((runM o (n + 1) : Nat) : Int) := by
 have hl : 2 ^ (o + n) < 4294967296 := by rw [show (4294967296 : Nat) = 2 ^ 32 from rfl]; exact Nat.pow_lt_pow_right (by decide) h
 have e0 : ((2 ^ (o + n) : Nat) : Int) = (2 : Int) ^ (o + n) := by simp
 have e : (2 : Int) ^ (o + n) % 4294967296 = ((2 ^ (o + n) : Nat) : Int) := by
  rw [← e0]
  exact Int.emod_eq_of_lt (Int.natCast_nonneg _) (Int.ofNat_lt.2 hl : ((2 ^ (o + n) : Nat) : Int) < ((4294967296 : Nat) : Int))
 rw [e, u32_or_nat _ _ (runM_lt (by omega)) hl, runM_next]
theorem rzero_any (w : World) (o : Int) : Calls Tryz.prog 114 #[.int .i64 o] w fun e w' => e = .returned (.tuple #[.agg (ptC (zeroP o)), .int .i64 (zeroE o)]) ∧ Below w.heap.size w w' := by
 have hz := zeroPt
 have HZ : Hid (zeroC.length = 32) := ch_zero.1
 obtain ⟨w1, hw1⟩ : ∃ w1, w.alloc (.cells (ptC pt0) 117) = w1 := ⟨_, rfl⟩
 have hB1 : Below w.heap.size w w1 := by rw [← hw1]; exact (Below.refl _ w).alloc (Nat.le_refl _) _
 have hr1 : PtAt w1 w.heap.size pt0 := by rw [← hw1]; exact PtAt.laid w pt0
 by_cases hno : o < 0 ∨ 32 < o
 ·rw [show zeroP o = pt0 from if_pos hno, show zeroE o = 1 from if_pos hno]
  by_cases h0 : o < 0
  ·clear hno
   go_enter Tryz.func114, Tryz.ntmps114
   go_wp2_with (first
    | (refine wpList_buildBy rfl 117 _ rfl _ rfl [] (by kernel_rfl) (ptC pt0) built_pt0 ?_)
    | (refine wpList_storeP rfl _ _ rfl w.heap.size pt0 pt0 rfl rfl HZ.out HZ.out hr1 ?_))
   refine ret_pt2 rfl w.heap.size pt0 HZ.out rfl _ rfl (hr1.setRow _) rfl ⟨rfl, ?_⟩
   exact below_setRow hB1 (Nat.le_refl _) _
  ·have h1 : 32 < o := by omega
   clear hno
   go_enter Tryz.func114, Tryz.ntmps114
   go_wp2_with (first
    | (refine wpList_buildBy rfl 117 _ rfl _ rfl [] (by kernel_rfl) (ptC pt0) built_pt0 ?_)
    | (refine wpList_storeP rfl _ _ rfl w.heap.size pt0 pt0 rfl rfl HZ.out HZ.out hr1 ?_))
   refine ret_pt2 rfl w.heap.size pt0 HZ.out rfl _ rfl (hr1.setRow _) rfl ⟨rfl, ?_⟩
   exact below_setRow hB1 (Nat.le_refl _) _
 ·rw [show zeroP o = ⟨false, runM o.toNat (32 - o.toNat), zeroC⟩ from if_neg hno, show zeroE o = 0 from if_neg hno]
  obtain ⟨n, rfl⟩ : ∃ n : Nat, o = n := ⟨o.toNat, by omega⟩
  have hn : n ≤ 32 := by omega
  have hnI : ¬ (n : Int) < 0 := by omega
  have hnJ : ¬ 32 < (n : Int) := by omega
  rw [Int.toNat_natCast]
  clear hno
  obtain ⟨w2, hw2⟩ : ∃ w2, w1.alloc (.cells (ptC pt0) 117) = w2 := ⟨_, rfl⟩
  have hb12 : Below w1.heap.size w1 w2 := by rw [← hw2]; exact (Below.refl _ w1).alloc (Nat.le_refl _) _
  have ho2 : PtAt w2 w1.heap.size pt0 := by rw [← hw2]; exact PtAt.laid w1 pt0
  obtain ⟨w3, hw3⟩ : ∃ w3, w2.setRow w1.heap.size (ptC pt0) = w3 := ⟨_, rfl⟩
  have ho3 : PtAt w3 w1.heap.size pt0 := by rw [← hw3]; exact ho2.setRow _
  have hb13 : Below w1.heap.size w1 w3 := by rw [← hw3]; exact below_setRow hb12 (Nat.le_refl _) _
  have hr3 := hr1.below hb13
  have hB3 : Below w.heap.size w w3 := hB1.trans (hb13.mono hB1.size)
  have HS1 : Hid (w.heap.size < w1.heap.size) := hr1.lt
  go_enter Tryz.func114, Tryz.ntmps114
  go_wp2_with (first
   | (refine wpList_buildBy rfl 117 _ rfl _ rfl [] (by kernel_rfl) (ptC pt0) built_pt0 ?_)
   | (refine wpList_storeP rfl _ _ rfl w1.heap.size pt0 pt0 rfl rfl HZ.out HZ.out ho2 ?_; rw [hw3]))
  clear hw1 hw2 hw3 ho2 hb12 hb13 hr1 hB1
  go_loopw [5] (fun t wr => ∃ i : Nat, n + i ≤ 32 ∧ t = .int .i64 ((n + i : Nat) : Int) ∧ PtAt wr w1.heap.size ⟨false, runM n i, zeroC⟩ ∧ PtAt wr w.heap.size pt0 ∧ Below w.heap.size w wr) (fun t _ => 32 - (intOf t).toNat)
  case atStart => exact ⟨0, by omega, rfl, by rw [runM_0]; exact ho3, hr3, hB3⟩
  case round =>
   obtain ⟨i, hi, rfl, ho, hr, hB⟩ := hrel
   clear ho3 hr3 hB3
   by_cases hlt : n + i < 32
   ·have hlI : ((n + i : Nat) : Int) < 32 := by omega
    have hob := or_bit hlt
    have cM0 := ho.c1
    have fM0 := ho.frozen 1
    dsimp only at cM0
    generalize hk : n + i = k at *
    have HK : Hid (n + i = k) := hk
    clear hk
    generalize runM n i = R at *
    have HOM := ho.setM (runM n (i + 1))
    dsimp only at HOM
    have HRM := hr.apart w1.heap.size 1 (.int .u32 ((runM n (i + 1) : Nat) : Int)) (by have := HS1.out; omega)
    have HBM := hB.setCell (p := ⟨w1.heap.size, 1, none⟩) (by have := HS1.out; show w.heap.size ≤ w1.heap.size; omega) (.int .u32 ((runM n (i + 1) : Nat) : Int))
    have HX : Hid (PtAt (wr.setCell ⟨w1.heap.size, 1, none⟩ (.int .u32 ((runM n (i + 1) : Nat) : Int))) w1.heap.size ⟨false, runM n (i + 1), zeroC⟩) := HOM
    clear HOM
    generalize hR : runM n (i + 1) = R' at *
    have HR : Hid (runM n (i + 1) = R') := hR
    clear hR
    go_wp2
    go_region
    go_wp2
    go_roundw
    case rel => exact ⟨i + 1, by have := HK.out; omega, by rw [← HK.out]; go_num, by rw [HR.out]; exact ⟨HX.out.row⟩, ⟨HRM.row⟩, HBM.drew⟩
    case measure => simp [intOf]; omega
   ·have hlI : ¬ ((n + i : Nat) : Int) < 32 := by omega
    rw [show i = 32 - n from by omega] at ho
    generalize n + i = k at *
    generalize hM : runM n (32 - n) = M at *
    have HM : Hid (runM n (32 - n) = M) := hM
    clear hM
    have hld : Hid _ := ho.load HZ.out
    go_wp2_with (first
     | (refine wpList_loadG rfl 117 _ rfl _ rfl _ hld.out ?_)
     | (refine wpList_storeP rfl _ _ rfl w.heap.size ⟨false, M, zeroC⟩ pt0 rfl rfl HZ.out HZ.out hr ?_))
    refine ret_pt2 rfl w.heap.size ⟨false, M, zeroC⟩ HZ.out rfl _ rfl (hr.setRow _) rfl ⟨by rw [HM.out]; rfl, ?_⟩
    exact below_setRow hB (Nat.le_refl _) _
theorem rof_any (w : World) (o : Int) (s : ByteArray) (hw0 : (Lit.int .i64 o).wf = true) (hs : s.size ≤ maxLen) : Calls Tryz.prog 113 #[.int .i64 o, .string s] w fun e w' => e = .returned (.tuple #[.agg (ptC (ofR o s)), .int .i64 (ofE o s)]) ∧ Below w.heap.size w w' := by
 have hz := zeroPt
 have HZ : Hid (zeroC.length = 32) := ch_zero.1
 unfold maxLen at hs
 obtain ⟨ho1, ho2⟩ := bounds_i64 hw0
 obtain ⟨w1, hw1⟩ : ∃ w1, w.alloc (.cells (ptC pt0) 117) = w1 := ⟨_, rfl⟩
 have hB1 : Below w.heap.size w w1 := by rw [← hw1]; exact (Below.refl _ w).alloc (Nat.le_refl _) _
 have hr1 : PtAt w1 w.heap.size pt0 := by rw [← hw1]; exact PtAt.laid w pt0
 by_cases hno : o < 0 ∨ 32 - (s.size : Int) < o
 ·rw [show ofR o s = pt0 from if_pos hno, show ofE o s = 1 from if_pos hno]
  by_cases h0 : o < 0
  ·clear hno
   go_enter Tryz.func113, Tryz.ntmps113
   go_wp2_with (first
    | (refine wpList_buildBy rfl 117 _ rfl _ rfl [] (by kernel_rfl) (ptC pt0) built_pt0 ?_)
    | (refine wpList_storeP rfl _ _ rfl w.heap.size pt0 pt0 rfl rfl HZ.out HZ.out hr1 ?_))
   refine ret_pt2 rfl w.heap.size pt0 HZ.out rfl _ rfl (hr1.setRow _) rfl ⟨rfl, ?_⟩
   exact below_setRow hB1 (Nat.le_refl _) _
  ·have h1 : 32 - (s.size : Int) < o := by omega
   clear hno
   by_cases h32 : 32 < (s.size : Int)
   ·go_enter Tryz.func113, Tryz.ntmps113
    go_wp2_with (first
     | (refine wpList_buildBy rfl 117 _ rfl _ rfl [] (by kernel_rfl) (ptC pt0) built_pt0 ?_)
     | (refine wpList_storeP rfl _ _ rfl w.heap.size pt0 pt0 rfl rfl HZ.out HZ.out hr1 ?_))
    refine ret_pt2 rfl w.heap.size pt0 HZ.out rfl _ rfl (hr1.setRow _) rfl ⟨rfl, ?_⟩
    exact below_setRow hB1 (Nat.le_refl _) _
   ·go_enter Tryz.func113, Tryz.ntmps113
    go_wp2_with (first
     | (refine wpList_buildBy rfl 117 _ rfl _ rfl [] (by kernel_rfl) (ptC pt0) built_pt0 ?_)
     | (refine wpList_storeP rfl _ _ rfl w.heap.size pt0 pt0 rfl rfl HZ.out HZ.out hr1 ?_))
    refine ret_pt2 rfl w.heap.size pt0 HZ.out rfl _ rfl (hr1.setRow _) rfl ⟨rfl, ?_⟩
    exact below_setRow hB1 (Nat.le_refl _) _
 ·rw [show ofR o s = ofP o.toNat (strB s) from if_neg hno, show ofE o s = 0 from if_neg hno]
  obtain ⟨n, rfl⟩ : ∃ n : Nat, o = n := ⟨o.toNat, by omega⟩
  have hns : n + s.size ≤ 32 := by omega
  have hnI : ¬ (n : Int) < 0 := by omega
  have hnJ : ¬ 32 < (s.size : Int) := by omega
  have hnK : ¬ 32 - (s.size : Int) < (n : Int) := by omega
  rw [Int.toNat_natCast]
  clear hno
  obtain ⟨w2, hw2⟩ : ∃ w2, w1.alloc (.cells (ptC pt0) 117) = w2 := ⟨_, rfl⟩
  have hb12 : Below w1.heap.size w1 w2 := by rw [← hw2]; exact (Below.refl _ w1).alloc (Nat.le_refl _) _
  have ho2' : PtAt w2 w1.heap.size pt0 := by rw [← hw2]; exact PtAt.laid w1 pt0
  obtain ⟨w3, hw3⟩ : ∃ w3, w2.setRow w1.heap.size (ptC pt0) = w3 := ⟨_, rfl⟩
  have ho3 : PtAt w3 w1.heap.size pt0 := by rw [← hw3]; exact ho2'.setRow _
  have hb13 : Below w1.heap.size w1 w3 := by rw [← hw3]; exact below_setRow hb12 (Nat.le_refl _) _
  have hr3 := hr1.below hb13
  have hB3 : Below w.heap.size w w3 := hB1.trans (hb13.mono hB1.size)
  have HS1 : Hid (w.heap.size < w1.heap.size) := hr1.lt
  have h0 : (⟨false, runM n 0, (List.range 32).map (setAt 0 n (strB s))⟩ : Pt) = pt0 := by
   rw [runM_0]
   unfold pt0
   congr 1
   apply ch_ext (by simp) ch_zero.1
   intro i hi
   rw [range_get _ hi, zeroC_get]
   unfold setAt
   rw [if_neg (by omega)]
  go_enter Tryz.func113, Tryz.ntmps113
  go_wp2_with (first
   | (refine wpList_buildBy rfl 117 _ rfl _ rfl [] (by kernel_rfl) (ptC pt0) built_pt0 ?_)
   | (refine wpList_storeP rfl _ _ rfl w1.heap.size pt0 pt0 rfl rfl HZ.out HZ.out ho2' ?_; rw [hw3]))
  clear hw1 hw2 hw3 ho2' hb12 hb13 hr1 hB1
  go_loopw [7] (fun t wr => ∃ i : Nat, i ≤ s.size ∧ t = .int .i64 (i : Int) ∧ PtAt wr w1.heap.size ⟨false, runM n i, (List.range 32).map (setAt i n (strB s))⟩ ∧ PtAt wr w.heap.size pt0 ∧ Below w.heap.size w wr) (fun t _ => s.size - (intOf t).toNat)
  case atStart => exact ⟨0, by omega, rfl, by rw [h0]; exact ho3, hr3, hB3⟩
  case round =>
   obtain ⟨i, hi, rfl, ho, hr, hB⟩ := hrel
   clear ho3 hr3 hB3 h0
   by_cases hlt : i < s.size
   ·have hlI : (i : Int) < (s.size : Int) := by omega
    have hni : n + i < 32 := by omega
    have hob := or_bit hni
    have hst : (List.range 32).map (setAt (i + 1) n (strB s)) = ((List.range 32).map (setAt i n (strB s))).set (n + i) ((strB s).getD i 0) := by
     apply ch_ext (by simp) (by simp)
     intro j hj
     rw [range_get _ hj]
     by_cases e : j = n + i
     ·subst e
      rw [show (((List.range 32).map (setAt i n (strB s))).set (n + i) ((strB s).getD i 0)).getD (n + i) 0 = (strB s).getD i 0 from by rw [List.getD_eq_getElem?_getD, List.getElem?_set_self (by simpa using hj)]; rfl]
      unfold setAt
      rw [if_pos (by omega), show n + i - n = i from by omega]
     ·rw [show (((List.range 32).map (setAt i n (strB s))).set (n + i) ((strB s).getD i 0)).getD j 0 = ((List.range 32).map (setAt i n (strB s))).getD j 0 from by simp only [List.getD_eq_getElem?_getD, List.getElem?_set_ne (show n + i ≠ j by omega)], range_get _ hj]
      unfold setAt
      by_cases c : n ≤ j ∧ j < n + i
      ·rw [if_pos (by omega), if_pos c]
      ·rw [if_neg (by omega), if_neg c]
    have cO := ho.byte (by simp) hni
    have fO := ho.frozen (2 + (n + i))
    have fM := ho.frozen 1
    have cM := ho.c1
    dsimp only at cO cM
    have hv : ((s[i]'hlt).toNat : Int) = (strB s).getD i 0 := by
     unfold strB
     rw [List.getD_eq_getElem?_getD, List.getElem?_map, List.getElem?_eq_getElem (by simpa using hlt)]
     rfl
    obtain ⟨w4, hw4⟩ : ∃ w4, wr.setCell ⟨w1.heap.size, 2 + (n + i), none⟩ (.int .u8 ((s[i]'hlt).toNat : Int)) = w4 := ⟨_, rfl⟩
    have ho4 : PtAt w4 w1.heap.size ⟨false, runM n i, (List.range 32).map (setAt (i + 1) n (strB s))⟩ := by rw [← hw4, hst, hv]; exact ho.set (n + i) _
    have hr4 : PtAt w4 w.heap.size pt0 := by rw [← hw4]; exact hr.apart _ _ _ (by have := HS1.out; omega)
    have hB4 : Below w.heap.size w w4 := by rw [← hw4]; exact hB.setCell (p := ⟨w1.heap.size, 2 + (n + i), none⟩) (by have := HS1.out; show w.heap.size ≤ w1.heap.size; omega) _
    have cM4 := ho4.c1
    have fM4 := ho4.frozen 1
    dsimp only at cM4
    have HOM := ho4.setM (runM n (i + 1))
    dsimp only at HOM
    have HX : Hid (PtAt (w4.setCell ⟨w1.heap.size, 1, none⟩ (.int .u32 ((runM n (i + 1) : Nat) : Int))) w1.heap.size ⟨false, runM n (i + 1), (List.range 32).map (setAt (i + 1) n (strB s))⟩) := HOM
    have HRM : Hid (PtAt (w4.setCell ⟨w1.heap.size, 1, none⟩ (.int .u32 ((runM n (i + 1) : Nat) : Int))) w.heap.size pt0) := hr4.apart w1.heap.size 1 _ (by have := HS1.out; omega)
    have HBM : Hid (Below w.heap.size w (w4.setCell ⟨w1.heap.size, 1, none⟩ (.int .u32 ((runM n (i + 1) : Nat) : Int)))) := hB4.setCell (p := ⟨w1.heap.size, 1, none⟩) (by have := HS1.out; show w.heap.size ≤ w1.heap.size; omega) _
    generalize ((List.range 32).map (setAt i n (strB s))).getD (n + i) 0 = V0 at *
    clear HOM hst hv ho ho4 cM fM hr hr4 hB hB4
    generalize hR : runM n (i + 1) = R' at *
    have HR : Hid (runM n (i + 1) = R') := hR
    clear hR
    generalize runM n i = R at *
    have hnI2 : ((n + i : Nat) : Int) = (n : Int) + (i : Int) := by omega
    go_wp2
    go_region
    go_wp2
    go_roundw
    case rel => exact ⟨i + 1, by omega, by go_num, by rw [HR.out]; exact ⟨HX.out.row⟩, ⟨HRM.out.row⟩, HBM.out.drew⟩
    case measure => simp [intOf]; omega
   ·have hlI : ¬ (i : Int) < (s.size : Int) := by omega
    have e : (⟨false, runM n i, (List.range 32).map (setAt i n (strB s))⟩ : Pt) = ofP n (strB s) := by rw [show i = (strB s).length from by rw [strB_length]; omega]; rfl
    rw [e] at ho
    clear e
    have HO : Hid ((ofP n (strB s)).bytes.length = 32) := by unfold Hid ofP; simp
    have hld : Hid _ := ho.load HO.out
    go_wp2_with (first
     | (refine wpList_loadG rfl 117 _ rfl _ rfl _ hld.out ?_)
     | (refine wpList_storeP rfl _ _ rfl w.heap.size (ofP n (strB s)) pt0 rfl rfl HO.out HZ.out hr ?_))
    refine ret_pt2 rfl w.heap.size (ofP n (strB s)) HO.out rfl _ rfl (hr.setRow _) rfl ⟨rfl, ?_⟩
    exact below_setRow hB (Nat.le_refl _) _
end Go.Proofs.YtiplhhaehbjghaaGreat
