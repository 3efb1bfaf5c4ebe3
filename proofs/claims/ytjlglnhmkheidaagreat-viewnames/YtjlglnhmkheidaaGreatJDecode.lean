/- The contract of the document's Decode. -/
import Derived.Test.YtjlglnhmkheidaaGreatJEncode
import Derived.Test.YtjlglnhmkheidaaGreatI2
import Derived.Test.YtjlglnhmkheidaaGreatI4
import Derived.Deep.RegionHeld3
namespace Go.Proofs.YtjlglnhmkheidaaGreat
open Go.RowKit
set_option maxRecDepth 4000
set_option linter.unusedVariables false
set_option linter.unusedSimpArgs false

/-- A function whose results are an item of the document's, in a variable, and an error's number. -/
theorem ret_itemR2 {fn : Func} {Rr : Ending → World → Prop} {a : Act} {w : World} {p u : Tmp} (h : fn.results = #[.cell p 49, .tmp u]) (g : Nat) (x : It) (hx : x.bytes.length = 32) (hp : a.tmps.getD p undef = .pointer (some ⟨g, 0, none⟩)) (v : Value) (hu : a.tmps.getD u undef = v)
    (hg : ItAt 49 w g x) (hd : a.defers = []) (hR : Rr (.returned (.tuple #[.agg (itC x), v])) w) : bodyPost Tryz.prog fn Rr .ret a w := by
  refine bodyPost_ret ?_ hd hR
  have hp' : a.tmps[p]?.getD undef = .pointer (some ⟨g, 0, none⟩) := by simpa using hp
  have hu' : a.tmps[u]?.getD undef = v := by simpa using hu
  have hl := run_loadVar_row (P := Tryz.prog) w g _ 49 (itC x) _ _ hg.row Tryz.underlying49 rfl (by rw [itC_size hx]; exact size_itemR)
  simp [results, h, hp', hu', asAddr, hl, Result.andThen]

theorem strB_extract (s : ByteArray) (i j : Nat) (hj : j ≤ s.size) : strB (s.extract i j) = ((strB s).drop i).take (j - i) := by
  have e : (s.extract i j).data.toList = (s.data.toList.drop i).take (j - i) := by
    rw [ByteArray.data_extract, Array.toList_extract, List.extract_eq_take_drop]
  unfold strB
  rw [e, List.map_take, List.map_drop]

theorem extract_size (s : ByteArray) (i j : Nat) (hj : j ≤ s.size) : (s.extract i j).size = j - i := by
  rw [ByteArray.size_extract]; omega

theorem str_ne {a b : ByteArray} (h : a ≠ b) : (a.toList == b.toList) = false := by
  rw [beq_eq_false_iff_ne]
  intro e
  rw [ByteArray.toList_eq, ByteArray.toList_eq] at e
  obtain ⟨d⟩ := a
  obtain ⟨d'⟩ := b
  exact h (congrArg ByteArray.mk (Array.ext' e))

set_option maxRecDepth 100000 in
set_option maxHeartbeats 4000000 in
theorem refDec_z0 (w : World) (p : Int) (s : ByteArray) (h : p < 1) : Calls Tryz.prog 28 #[.int .i64 p, .string s] w fun e w' => e = .returned (.tuple #[.agg (itC it0), .int .i64 1]) ∧ Below w.heap.size w w' := by
  obtain ⟨w1, hw1⟩ : ∃ w1, w.alloc (.cells (itC it0) 49) = w1 := ⟨_, rfl⟩
  have hb1 : Below w.heap.size w w1 := by rw [← hw1]; exact (Below.refl _ w).alloc (Nat.le_refl _) _
  have hx1 : ItAt 49 w1 w.heap.size it0 := by rw [← hw1]; exact ItAt.laid _ w it0
  obtain ⟨w2, hw2⟩ : ∃ w2, w1.alloc (.cells (itC it0) 49) = w2 := ⟨_, rfl⟩
  have hb2 : Below w1.heap.size w1 w2 := by rw [← hw2]; exact (Below.refl _ w1).alloc (Nat.le_refl _) _
  have hy2 : ItAt 49 w2 w1.heap.size it0 := by rw [← hw2]; exact ItAt.laid _ w1 it0
  obtain ⟨w3, hw3⟩ : ∃ w3, w2.setRow w1.heap.size (itC it0) = w3 := ⟨_, rfl⟩
  have hy3 : ItAt 49 w3 w1.heap.size it0 := by rw [← hw3]; exact hy2.setRow _
  have hb3 : Below w1.heap.size w1 w3 := by rw [← hw3]; exact below_setRow hb2 (Nat.le_refl _) _
  have hz := zeroItemR
  have hx3 := hx1.below hb3
  have hB3 := thenB hb1 hb3
  clear hx1 hy3 hb3 hb2
  go_enter Tryz.func28, Tryz.ntmps28
  go_wp2_with (first
    | (refine wpList_storeR rfl _ _ rfl w1.heap.size it0 it0 rfl rfl ch_zero.1 ch_zero.1 hy2 ?_)
    | (refine wpList_storeR rfl _ _ rfl w.heap.size it0 it0 rfl rfl ch_zero.1 ch_zero.1 hx3 ?_))
  exact ret_itemR2 rfl w.heap.size it0 ch_zero.1 rfl _ rfl (hx3.setRow _) rfl ⟨rfl, below_setRow hB3 (Nat.le_refl _) _⟩

set_option maxRecDepth 100000 in
set_option maxHeartbeats 4000000 in
theorem refDec_z1 (w : World) (p : Int) (s : ByteArray) (h0 : 1 ≤ p) (h : 3 < p) : Calls Tryz.prog 28 #[.int .i64 p, .string s] w fun e w' => e = .returned (.tuple #[.agg (itC it0), .int .i64 1]) ∧ Below w.heap.size w w' := by
  obtain ⟨w1, hw1⟩ : ∃ w1, w.alloc (.cells (itC it0) 49) = w1 := ⟨_, rfl⟩
  have hb1 : Below w.heap.size w w1 := by rw [← hw1]; exact (Below.refl _ w).alloc (Nat.le_refl _) _
  have hx1 : ItAt 49 w1 w.heap.size it0 := by rw [← hw1]; exact ItAt.laid _ w it0
  obtain ⟨w2, hw2⟩ : ∃ w2, w1.alloc (.cells (itC it0) 49) = w2 := ⟨_, rfl⟩
  have hb2 : Below w1.heap.size w1 w2 := by rw [← hw2]; exact (Below.refl _ w1).alloc (Nat.le_refl _) _
  have hy2 : ItAt 49 w2 w1.heap.size it0 := by rw [← hw2]; exact ItAt.laid _ w1 it0
  obtain ⟨w3, hw3⟩ : ∃ w3, w2.setRow w1.heap.size (itC it0) = w3 := ⟨_, rfl⟩
  have hy3 : ItAt 49 w3 w1.heap.size it0 := by rw [← hw3]; exact hy2.setRow _
  have hb3 : Below w1.heap.size w1 w3 := by rw [← hw3]; exact below_setRow hb2 (Nat.le_refl _) _
  have hz := zeroItemR
  have hx3 := hx1.below hb3
  have hB3 := thenB hb1 hb3
  clear hx1 hy3 hb3 hb2
  go_enter Tryz.func28, Tryz.ntmps28
  go_wp2_with (first
    | (refine wpList_storeR rfl _ _ rfl w1.heap.size it0 it0 rfl rfl ch_zero.1 ch_zero.1 hy2 ?_)
    | (refine wpList_storeR rfl _ _ rfl w.heap.size it0 it0 rfl rfl ch_zero.1 ch_zero.1 hx3 ?_))
  exact ret_itemR2 rfl w.heap.size it0 ch_zero.1 rfl _ rfl (hx3.setRow _) rfl ⟨rfl, below_setRow hB3 (Nat.le_refl _) _⟩

set_option maxRecDepth 100000 in
set_option maxHeartbeats 4000000 in
theorem refDec_b1 (w : World) (s : ByteArray) (h : s.size ≠ 6) : Calls Tryz.prog 28 #[.int .i64 1, .string s] w fun e w' => e = .returned (.tuple #[.agg (itC it0), .int .i64 11]) ∧ Below w.heap.size w w' := by
  obtain ⟨w1, hw1⟩ : ∃ w1, w.alloc (.cells (itC it0) 49) = w1 := ⟨_, rfl⟩
  have hb1 : Below w.heap.size w w1 := by rw [← hw1]; exact (Below.refl _ w).alloc (Nat.le_refl _) _
  have hx1 : ItAt 49 w1 w.heap.size it0 := by rw [← hw1]; exact ItAt.laid _ w it0
  obtain ⟨w2, hw2⟩ : ∃ w2, w1.alloc (.cells (itC it0) 49) = w2 := ⟨_, rfl⟩
  have hb2 : Below w1.heap.size w1 w2 := by rw [← hw2]; exact (Below.refl _ w1).alloc (Nat.le_refl _) _
  have hy2 : ItAt 49 w2 w1.heap.size it0 := by rw [← hw2]; exact ItAt.laid _ w1 it0
  obtain ⟨w3, hw3⟩ : ∃ w3, w2.setRow w1.heap.size (itC it0) = w3 := ⟨_, rfl⟩
  have hy3 : ItAt 49 w3 w1.heap.size it0 := by rw [← hw3]; exact hy2.setRow _
  have hb3 : Below w1.heap.size w1 w3 := by rw [← hw3]; exact below_setRow hb2 (Nat.le_refl _) _
  have hz := zeroItemR
  have hsI : ((s.size : Int) == 6) = false := by rw [beq_eq_false_iff_ne]; omega
  have L3 : Hid _ := hy3.loadR ch_zero.1
  have hen : ∀ W, Calls Tryz.prog 50 #[.int .i64 1, .agg (itC it0)] W fun e w' => e = .returned (.tuple #[.string ⟨#[]⟩, .int .i64 11]) ∧ Below W.heap.size W w' := fun W => by
    have := refEnc_any W 1 it0 it0_ok
    obtain ⟨e1, e2⟩ := enc_no (p := 1) (by decide) (x := it0) (by decide)
    rwa [e1, e2] at this
  clear hb2 h
  go_enter Tryz.func28, Tryz.ntmps28
  go_wp2_with (first
    | (refine wpList_storeR rfl _ _ rfl w1.heap.size it0 it0 rfl rfl ch_zero.1 ch_zero.1 hy2 ?_)
    | (refine iloadG rfl 49 _ rfl _ rfl _ L3.out ?_))
  clear L3 hy2 hw1 hw2 hw3
  refine (hen _).mono ?_
  rintro e w5 ⟨rfl, hb5⟩
  have hb15 := thenB hb3 hb5
  have hx5 := hx1.below hb15
  have hy5 := hy3.below hb5
  have hB5 := thenB hb1 hb15
  clear hen hx1 hy3 hb3
  go_wp2_with (refine wpList_storeR rfl _ _ rfl w.heap.size it0 it0 rfl rfl ch_zero.1 ch_zero.1 hx5 ?_)
  exact ret_itemR2 rfl w.heap.size it0 ch_zero.1 rfl _ rfl (hx5.setRow _) rfl ⟨rfl, below_setRow hB5 (Nat.le_refl _) _⟩

set_option maxRecDepth 100000 in
set_option maxHeartbeats 4000000 in
theorem refDec_b2 (w : World) (s : ByteArray) (h : s.size ≠ 4) : Calls Tryz.prog 28 #[.int .i64 2, .string s] w fun e w' => e = .returned (.tuple #[.agg (itC it0), .int .i64 11]) ∧ Below w.heap.size w w' := by
  obtain ⟨w1, hw1⟩ : ∃ w1, w.alloc (.cells (itC it0) 49) = w1 := ⟨_, rfl⟩
  have hb1 : Below w.heap.size w w1 := by rw [← hw1]; exact (Below.refl _ w).alloc (Nat.le_refl _) _
  have hx1 : ItAt 49 w1 w.heap.size it0 := by rw [← hw1]; exact ItAt.laid _ w it0
  obtain ⟨w2, hw2⟩ : ∃ w2, w1.alloc (.cells (itC it0) 49) = w2 := ⟨_, rfl⟩
  have hb2 : Below w1.heap.size w1 w2 := by rw [← hw2]; exact (Below.refl _ w1).alloc (Nat.le_refl _) _
  have hy2 : ItAt 49 w2 w1.heap.size it0 := by rw [← hw2]; exact ItAt.laid _ w1 it0
  obtain ⟨w3, hw3⟩ : ∃ w3, w2.setRow w1.heap.size (itC it0) = w3 := ⟨_, rfl⟩
  have hy3 : ItAt 49 w3 w1.heap.size it0 := by rw [← hw3]; exact hy2.setRow _
  have hb3 : Below w1.heap.size w1 w3 := by rw [← hw3]; exact below_setRow hb2 (Nat.le_refl _) _
  have hz := zeroItemR
  have hsI : ((s.size : Int) == 4) = false := by rw [beq_eq_false_iff_ne]; omega
  have L3 : Hid _ := hy3.loadR ch_zero.1
  have hen : ∀ W, Calls Tryz.prog 50 #[.int .i64 2, .agg (itC it0)] W fun e w' => e = .returned (.tuple #[.string ⟨#[]⟩, .int .i64 11]) ∧ Below W.heap.size W w' := fun W => by
    have := refEnc_any W 2 it0 it0_ok
    obtain ⟨e1, e2⟩ := enc_no (p := 2) (by decide) (x := it0) (by decide)
    rwa [e1, e2] at this
  clear hb2 h
  go_enter Tryz.func28, Tryz.ntmps28
  go_wp2_with (first
    | (refine wpList_storeR rfl _ _ rfl w1.heap.size it0 it0 rfl rfl ch_zero.1 ch_zero.1 hy2 ?_)
    | (refine iloadG rfl 49 _ rfl _ rfl _ L3.out ?_))
  clear L3 hy2 hw1 hw2 hw3
  refine (hen _).mono ?_
  rintro e w5 ⟨rfl, hb5⟩
  have hb15 := thenB hb3 hb5
  have hx5 := hx1.below hb15
  have hy5 := hy3.below hb5
  have hB5 := thenB hb1 hb15
  clear hen hx1 hy3 hb3
  go_wp2_with (refine wpList_storeR rfl _ _ rfl w.heap.size it0 it0 rfl rfl ch_zero.1 ch_zero.1 hx5 ?_)
  exact ret_itemR2 rfl w.heap.size it0 ch_zero.1 rfl _ rfl (hx5.setRow _) rfl ⟨rfl, below_setRow hB5 (Nat.le_refl _) _⟩

set_option maxRecDepth 100000 in
set_option maxHeartbeats 4000000 in
theorem refDec_b3 (w : World) (s : ByteArray) (h : s.size ≠ 32) : Calls Tryz.prog 28 #[.int .i64 3, .string s] w fun e w' => e = .returned (.tuple #[.agg (itC it0), .int .i64 11]) ∧ Below w.heap.size w w' := by
  obtain ⟨w1, hw1⟩ : ∃ w1, w.alloc (.cells (itC it0) 49) = w1 := ⟨_, rfl⟩
  have hb1 : Below w.heap.size w w1 := by rw [← hw1]; exact (Below.refl _ w).alloc (Nat.le_refl _) _
  have hx1 : ItAt 49 w1 w.heap.size it0 := by rw [← hw1]; exact ItAt.laid _ w it0
  obtain ⟨w2, hw2⟩ : ∃ w2, w1.alloc (.cells (itC it0) 49) = w2 := ⟨_, rfl⟩
  have hb2 : Below w1.heap.size w1 w2 := by rw [← hw2]; exact (Below.refl _ w1).alloc (Nat.le_refl _) _
  have hy2 : ItAt 49 w2 w1.heap.size it0 := by rw [← hw2]; exact ItAt.laid _ w1 it0
  obtain ⟨w3, hw3⟩ : ∃ w3, w2.setRow w1.heap.size (itC it0) = w3 := ⟨_, rfl⟩
  have hy3 : ItAt 49 w3 w1.heap.size it0 := by rw [← hw3]; exact hy2.setRow _
  have hb3 : Below w1.heap.size w1 w3 := by rw [← hw3]; exact below_setRow hb2 (Nat.le_refl _) _
  have hz := zeroItemR
  have hsI : ((s.size : Int) == 32) = false := by rw [beq_eq_false_iff_ne]; omega
  have L3 : Hid _ := hy3.loadR ch_zero.1
  have HZ : Hid ((strOfNums zeroC).size = 32) := by unfold Hid; rw [istrOfNums_size]; exact ch_zero.1
  have hen : ∀ W, Calls Tryz.prog 50 #[.int .i64 3, .agg (itC it0)] W fun e w' => e = .returned (.tuple #[.string (strOfNums zeroC), .int .i64 0]) ∧ Below W.heap.size W w' := fun W => by
    have := refEnc_any W 3 it0 it0_ok
    obtain ⟨e1, e2⟩ := enc_yes (p := 3) (by decide) (x := it0) (by decide)
    rwa [e1, e2] at this
  have hSe : ((strOfNums zeroC).toList == s.toList) = false := str_ne fun h => by have := HZ.out; rw [h] at this; omega
  generalize strOfNums zeroC = S at *
  clear hb2 h
  go_enter Tryz.func28, Tryz.ntmps28
  go_wp2_with (first
    | (refine wpList_storeR rfl _ _ rfl w1.heap.size it0 it0 rfl rfl ch_zero.1 ch_zero.1 hy2 ?_)
    | (refine iloadG rfl 49 _ rfl _ rfl _ L3.out ?_))
  clear L3 hy2 hw1 hw2 hw3
  refine (hen _).mono ?_
  rintro e w5 ⟨rfl, hb5⟩
  have hb15 := thenB hb3 hb5
  have hx5 := hx1.below hb15
  have hy5 := hy3.below hb5
  have hB5 := thenB hb1 hb15
  clear hen hx1 hy3 hb3
  go_wp2_with (refine wpList_storeR rfl _ _ rfl w.heap.size it0 it0 rfl rfl ch_zero.1 ch_zero.1 hx5 ?_)
  exact ret_itemR2 rfl w.heap.size it0 ch_zero.1 rfl _ rfl (hx5.setRow _) rfl ⟨rfl, below_setRow hB5 (Nat.le_refl _) _⟩

set_option maxRecDepth 100000 in
set_option maxHeartbeats 4000000 in
theorem refDec_1ok (w : World) (s : ByteArray) (h : s.size = 6) (hs : standsB 1 (rdI 1 (strB s)) = true) : Calls Tryz.prog 28 #[.int .i64 1, .string s] w fun e w' => e = .returned (.tuple #[.agg (itC (rdI 1 (strB s))), .int .i64 0]) ∧ Below w.heap.size w w' := by
  obtain ⟨w1, hw1⟩ : ∃ w1, w.alloc (.cells (itC it0) 49) = w1 := ⟨_, rfl⟩
  have hb1 : Below w.heap.size w w1 := by rw [← hw1]; exact (Below.refl _ w).alloc (Nat.le_refl _) _
  have hx1 : ItAt 49 w1 w.heap.size it0 := by rw [← hw1]; exact ItAt.laid _ w it0
  obtain ⟨w2, hw2⟩ : ∃ w2, w1.alloc (.cells (itC it0) 49) = w2 := ⟨_, rfl⟩
  have hb2 : Below w1.heap.size w1 w2 := by rw [← hw2]; exact (Below.refl _ w1).alloc (Nat.le_refl _) _
  have hy2 : ItAt 49 w2 w1.heap.size it0 := by rw [← hw2]; exact ItAt.laid _ w1 it0
  obtain ⟨w3, hw3⟩ : ∃ w3, w2.setRow w1.heap.size (itC it0) = w3 := ⟨_, rfl⟩
  have hy3 : ItAt 49 w3 w1.heap.size it0 := by rw [← hw3]; exact hy2.setRow _
  have hb3 : Below w1.heap.size w1 w3 := by rw [← hw3]; exact below_setRow hb2 (Nat.le_refl _) _
  have hz := zeroItemR
  have hlB : ((strB s).length : Int) = wid 1 := by rw [strB_length, h]; rfl
  have hok := rdI_ok 1 (strB s) (strB_byt s) hlB (by decide)
  have hsI : (s.size : Int) = 6 := by omega
  have hen0 := refEnc_any
  have z0 := strB_extract s 0 1 (by omega)
  have z1 := strB_extract s 1 3 (by omega)
  have z2 := strB_extract s 3 4 (by omega)
  have z3 := strB_extract s 4 6 (by omega)
  rw [List.drop_zero] at z0
  have n0 : ∀ W, Calls Tryz.prog 61 #[.string (s.extract 0 1)] W fun e w' => e = .returned (.int .i64 (valB ((strB s).take 1))) ∧ W = w' := fun W => by have := refNum_any W (s.extract 0 1) (by rw [extract_size _ _ _ (by omega)]; omega); rwa [z0] at this
  have n1 : ∀ W, Calls Tryz.prog 61 #[.string (s.extract 1 3)] W fun e w' => e = .returned (.int .i64 (valB (((strB s).drop 1).take 2))) ∧ W = w' := fun W => by have := refNum_any W (s.extract 1 3) (by rw [extract_size _ _ _ (by omega)]; omega); rwa [z1] at this
  have n2 : ∀ W, Calls Tryz.prog 61 #[.string (s.extract 3 4)] W fun e w' => e = .returned (.int .i64 (valB (((strB s).drop 3).take 1))) ∧ W = w' := fun W => by have := refNum_any W (s.extract 3 4) (by rw [extract_size _ _ _ (by omega)]; omega); rwa [z2] at this
  have n3 : ∀ W, Calls Tryz.prog 61 #[.string (s.extract 4 6)] W fun e w' => e = .returned (.int .i64 (valB (((strB s).drop 4).take 2))) ∧ W = w' := fun W => by have := refNum_any W (s.extract 4 6) (by rw [extract_size _ _ _ (by omega)]; omega); rwa [z3] at this
  have hen : ∀ W, Calls Tryz.prog 50 #[.int .i64 1, .agg (itC (rdI 1 (strB s)))] W fun e w' => e = .returned (.tuple #[.string s, .int .i64 0]) ∧ Below W.heap.size W w' := fun W => by
    have := refEnc_any W 1 (rdI 1 (strB s)) hok
    obtain ⟨e1, e2⟩ := enc_yes (p := 1) (by decide) (x := rdI 1 (strB s)) (encOk_iff.2 ⟨giveI_rdI _ _, hs⟩)
    rwa [e1, e2, wrL_rdI (strB_byt s) hlB (by decide), strOfNums_strB] at this
  rw [rdI_1] at hen ⊢
  clear hen0 z0 z1 z2 z3 hok hlB hs
  generalize valB ((strB s).take 1) = a0 at *
  generalize valB (((strB s).drop 1).take 2) = a1 at *
  generalize valB (((strB s).drop 3).take 1) = a2 at *
  generalize valB (((strB s).drop 4).take 2) = a3 at *
  have c0 : w3.cell? ⟨w1.heap.size, 0, none⟩ = some (.int .i64 0) := hy3.c0
  have c1 : w3.cell? ⟨w1.heap.size, 1, none⟩ = some (.int .i64 0) := hy3.c1
  have c2 : w3.cell? ⟨w1.heap.size, 2, none⟩ = some (.int .i64 0) := hy3.c2
  have c3 : w3.cell? ⟨w1.heap.size, 3, none⟩ = some (.int .i64 0) := hy3.c3
  have f0 := hy3.fr 0
  have f1 := hy3.fr 1
  have f2 := hy3.fr 2
  have f3 := hy3.fr 3
  obtain ⟨w4, hw4⟩ : ∃ w4, (w3.setCells w1.heap.size 0 [.int .i64 a0, .int .i64 a1, .int .i64 a2, .int .i64 a3]).drew = w4 := ⟨_, rfl⟩
  have hb4 : Below w1.heap.size w1 w4 := by rw [← hw4]; exact (below_setCells (Nat.le_refl _) _ _ _ hb3).drew
  have hy4 : ItAt 49 w4 w1.heap.size ⟨a0, a1, a2, a3, 0, zeroC⟩ := by rw [← hw4]; exact ⟨(hy3.putI ch_zero.1 _ _ _ _).row⟩
  have L4 : Hid _ := hy4.loadR ch_zero.1
  have HK : Hid (Below w1.heap.size w1 w4) := hb4
  have HW4 : Hid ((w3.setCells w1.heap.size 0 [.int .i64 a0, .int .i64 a1, .int .i64 a2, .int .i64 a3]).drew = w4) := hw4
  clear hb2 hy3 hw4
  go_enter Tryz.func28, Tryz.ntmps28
  go_wp2_with (refine wpList_storeR rfl _ _ rfl w1.heap.size it0 it0 rfl rfl ch_zero.1 ch_zero.1 hy2 ?_)
  refine wp_region_noPanic ?_
  refine wp_region_held_drew (S := fun W => Below w1.heap.size w1 W) (by kernel_rfl) hb3.drew (fun hHeld => ?_)
  refine wpAnyH_take (i := 0) (v := .string s) rfl (by kernel_rfl) (by kernel_rfl) (by kernel_rfl) (fun _ _ _ h => h) (Or.inl ⟨by rfl, fun W hSw => by (try dsimp only at hSw); go_simp⟩) (by assumption) ?_
  simp only [List.getElem_toArray, List.getElem_cons_zero, List.getElem_cons_succ, Act.put, List.setIfInBounds_toArray, List.set_cons_zero, List.set_cons_succ]
  refine wpAnyH_take (i := 1) (v := .string (s.extract 0 1)) rfl (by kernel_rfl) (by kernel_rfl) (by kernel_rfl) (fun _ _ _ h => h) (Or.inl ⟨by rfl, fun W hSw => by (try dsimp only at hSw); go_simp⟩) (by assumption) ?_
  simp only [List.getElem_toArray, List.getElem_cons_zero, List.getElem_cons_succ, Act.put, List.setIfInBounds_toArray, List.set_cons_zero, List.set_cons_succ]
  refine wpAnyH_take (i := 3) (v := .string s) rfl (by kernel_rfl) (by kernel_rfl) (by kernel_rfl) (fun _ _ _ h => h) (Or.inl ⟨by rfl, fun W hSw => by (try dsimp only at hSw); go_simp⟩) (by assumption) ?_
  simp only [List.getElem_toArray, List.getElem_cons_zero, List.getElem_cons_succ, Act.put, List.setIfInBounds_toArray, List.set_cons_zero, List.set_cons_succ]
  refine wpAnyH_take (i := 4) (v := .string (s.extract 1 3)) rfl (by kernel_rfl) (by kernel_rfl) (by kernel_rfl) (fun _ _ _ h => h) (Or.inl ⟨by rfl, fun W hSw => by (try dsimp only at hSw); go_simp⟩) (by assumption) ?_
  simp only [List.getElem_toArray, List.getElem_cons_zero, List.getElem_cons_succ, Act.put, List.setIfInBounds_toArray, List.set_cons_zero, List.set_cons_succ]
  refine wpAnyH_take (i := 6) (v := .string s) rfl (by kernel_rfl) (by kernel_rfl) (by kernel_rfl) (fun _ _ _ h => h) (Or.inl ⟨by rfl, fun W hSw => by (try dsimp only at hSw); go_simp⟩) (by assumption) ?_
  simp only [List.getElem_toArray, List.getElem_cons_zero, List.getElem_cons_succ, Act.put, List.setIfInBounds_toArray, List.set_cons_zero, List.set_cons_succ]
  refine wpAnyH_take (i := 7) (v := .string (s.extract 3 4)) rfl (by kernel_rfl) (by kernel_rfl) (by kernel_rfl) (fun _ _ _ h => h) (Or.inl ⟨by rfl, fun W hSw => by (try dsimp only at hSw); go_simp⟩) (by assumption) ?_
  simp only [List.getElem_toArray, List.getElem_cons_zero, List.getElem_cons_succ, Act.put, List.setIfInBounds_toArray, List.set_cons_zero, List.set_cons_succ]
  refine wpAnyH_take (i := 9) (v := .string s) rfl (by kernel_rfl) (by kernel_rfl) (by kernel_rfl) (fun _ _ _ h => h) (Or.inl ⟨by rfl, fun W hSw => by (try dsimp only at hSw); go_simp⟩) (by assumption) ?_
  simp only [List.getElem_toArray, List.getElem_cons_zero, List.getElem_cons_succ, Act.put, List.setIfInBounds_toArray, List.set_cons_zero, List.set_cons_succ]
  refine wpAnyH_take (i := 10) (v := .string (s.extract 4 6)) rfl (by kernel_rfl) (by kernel_rfl) (by kernel_rfl) (fun _ _ _ h => h) (Or.inl ⟨by rfl, fun W hSw => by (try dsimp only at hSw); go_simp⟩) (by assumption) ?_
  simp only [List.getElem_toArray, List.getElem_cons_zero, List.getElem_cons_succ, Act.put, List.setIfInBounds_toArray, List.set_cons_zero, List.set_cons_succ]
  refine wpAnyH_ready (rs := [2]) (by kernel_rfl) (by simp) ?_
  refine AllReadyH.cons rfl (fun K hK => ?_) AllReadyH.nil
  go_simp
  go_wp2_with (go_at_call 61; refine (n0 _).mono ?_; rintro e w' ⟨rfl, rfl⟩)
  refine hK.out _ _ (by assumption) (fun hHeld2 => ?_)
  clear hK K
  refine wpAnyH_ready (rs := [5]) (by kernel_rfl) (by simp) ?_
  refine AllReadyH.cons rfl (fun K hK => ?_) AllReadyH.nil
  go_simp
  go_wp2_with (go_at_call 61; refine (n1 _).mono ?_; rintro e w' ⟨rfl, rfl⟩)
  refine hK.out _ _ (by assumption) (fun hHeld2 => ?_)
  clear hK K
  refine wpAnyH_ready (rs := [8]) (by kernel_rfl) (by simp) ?_
  refine AllReadyH.cons rfl (fun K hK => ?_) AllReadyH.nil
  go_simp
  go_wp2_with (go_at_call 61; refine (n2 _).mono ?_; rintro e w' ⟨rfl, rfl⟩)
  refine hK.out _ _ (by assumption) (fun hHeld2 => ?_)
  clear hK K
  refine wpAnyH_ready (rs := [11]) (by kernel_rfl) (by simp) ?_
  refine AllReadyH.cons rfl (fun K hK => ?_) AllReadyH.nil
  go_simp
  go_wp2_with (go_at_call 61; refine (n3 _).mono ?_; rintro e w' ⟨rfl, rfl⟩)
  refine hK.out _ _ (by assumption) (fun hHeld2 => ?_)
  clear hK K
  refine wpAnyH_take (i := 12) (v := .agg #[.int .i64 a0, .int .i64 a1, .int .i64 a2, .int .i64 a3]) rfl (by kernel_rfl) (by kernel_rfl) (by kernel_rfl) (fun _ _ _ h => h) (Or.inl ⟨by rfl, fun W hSw => by (try dsimp only at hSw); go_simp⟩) (by assumption) ?_
  simp only [List.getElem_toArray, List.getElem_cons_zero, List.getElem_cons_succ, Act.put, List.setIfInBounds_toArray, List.set_cons_zero, List.set_cons_succ]
  refine wpAnyH_take (i := 13) (v := .pointer (some ⟨w1.heap.size, 0, none⟩)) rfl (by kernel_rfl) (by kernel_rfl) (by kernel_rfl) (fun _ _ _ h => h) (Or.inl ⟨by rfl, fun W hSw => by (try dsimp only at hSw); go_simp⟩) (by assumption) ?_
  simp only [List.getElem_toArray, List.getElem_cons_zero, List.getElem_cons_succ, Act.put, List.setIfInBounds_toArray, List.set_cons_zero, List.set_cons_succ]
  refine wpAnyH_ready (rs := [14]) (by kernel_rfl) (by simp) ?_
  refine AllReadyH.cons rfl (fun K hK => ?_) AllReadyH.nil
  go_simp
  go_wp2
  have hfold : ((((w3.setCell ⟨w1.heap.size, 0, none⟩ (.int .i64 a0)).setCell ⟨w1.heap.size, 1, none⟩ (.int .i64 a1)).setCell ⟨w1.heap.size, 2, none⟩ (.int .i64 a2)).setCell ⟨w1.heap.size, 3, none⟩ (.int .i64 a3)).drew = w4 := HW4.out
  rw [hfold]
  refine hK.out _ _ HK.out (fun hHeld2 => ?_)
  clear hK K hfold
  refine wpAnyH_done (by kernel_rfl) ?_ _
  refine NoPanic.normal ?_
  clear n0 n1 n2 n3 c0 c1 c2 c3 f0 f1 f2 f3
  go_wp2_with (refine iloadG rfl 49 _ rfl _ rfl _ L4.out ?_)
  clear L4 hy2 hw1 hw2 hw3
  refine (hen _).mono ?_
  rintro e w5 ⟨rfl, hb5⟩
  have hb15 := thenB hb4 hb5
  have hx5 := hx1.below hb15
  have hy5 := hy4.below hb5
  have hB5 := thenB hb1 hb15
  clear hen hx1 hy4 hb4
  have L5 : Hid _ := hy5.loadR ch_zero.1
  have HX5 : Hid ((⟨a0, a1, a2, a3, 0, zeroC⟩ : It).bytes.length = 32) := ch_zero.1
  go_wp2_with (first
    | (refine iloadG rfl 49 _ rfl _ rfl _ L5.out ?_)
    | (refine wpList_storeR rfl _ _ rfl w.heap.size (⟨a0, a1, a2, a3, 0, zeroC⟩ : It) it0 rfl rfl HX5.out ch_zero.1 hx5 ?_))
  exact ret_itemR2 rfl w.heap.size (⟨a0, a1, a2, a3, 0, zeroC⟩ : It) HX5.out rfl _ rfl (hx5.setRow _) rfl ⟨rfl, below_setRow hB5 (Nat.le_refl _) _⟩

set_option maxRecDepth 100000 in
set_option maxHeartbeats 4000000 in
theorem refDec_2ok (w : World) (s : ByteArray) (h : s.size = 4) (hs : standsB 2 (rdI 2 (strB s)) = true) : Calls Tryz.prog 28 #[.int .i64 2, .string s] w fun e w' => e = .returned (.tuple #[.agg (itC (rdI 2 (strB s))), .int .i64 0]) ∧ Below w.heap.size w w' := by
  obtain ⟨w1, hw1⟩ : ∃ w1, w.alloc (.cells (itC it0) 49) = w1 := ⟨_, rfl⟩
  have hb1 : Below w.heap.size w w1 := by rw [← hw1]; exact (Below.refl _ w).alloc (Nat.le_refl _) _
  have hx1 : ItAt 49 w1 w.heap.size it0 := by rw [← hw1]; exact ItAt.laid _ w it0
  obtain ⟨w2, hw2⟩ : ∃ w2, w1.alloc (.cells (itC it0) 49) = w2 := ⟨_, rfl⟩
  have hb2 : Below w1.heap.size w1 w2 := by rw [← hw2]; exact (Below.refl _ w1).alloc (Nat.le_refl _) _
  have hy2 : ItAt 49 w2 w1.heap.size it0 := by rw [← hw2]; exact ItAt.laid _ w1 it0
  obtain ⟨w3, hw3⟩ : ∃ w3, w2.setRow w1.heap.size (itC it0) = w3 := ⟨_, rfl⟩
  have hy3 : ItAt 49 w3 w1.heap.size it0 := by rw [← hw3]; exact hy2.setRow _
  have hb3 : Below w1.heap.size w1 w3 := by rw [← hw3]; exact below_setRow hb2 (Nat.le_refl _) _
  have hz := zeroItemR
  have hlB : ((strB s).length : Int) = wid 2 := by rw [strB_length, h]; rfl
  have hok := rdI_ok 2 (strB s) (strB_byt s) hlB (by decide)
  have hsI : (s.size : Int) = 4 := by omega
  have hv := valB_small (strB s) (strB_byt s) 4 (by rw [strB_length]; omega) (by omega)
  have hn := fun W => refNum_any W s (by omega)
  have hen : ∀ W, Calls Tryz.prog 50 #[.int .i64 2, .agg (itC (rdI 2 (strB s)))] W fun e w' => e = .returned (.tuple #[.string s, .int .i64 0]) ∧ Below W.heap.size W w' := fun W => by
    have := refEnc_any W 2 (rdI 2 (strB s)) hok
    obtain ⟨e1, e2⟩ := enc_yes (p := 2) (by decide) (x := rdI 2 (strB s)) (encOk_iff.2 ⟨giveI_rdI _ _, hs⟩)
    rwa [e1, e2, wrL_rdI (strB_byt s) hlB (by decide), strOfNums_strB] at this
  rw [rdI_2] at hen ⊢
  clear hok hlB hs
  generalize valB (strB s) = a at *
  have wt : IntKind.u32.wrap (a : Int) = a := by rw [IntKind.wrap_u32]; omega
  have c4 : w3.cell? ⟨w1.heap.size, 4, none⟩ = some (.int .u32 0) := hy3.c4
  have f4 := hy3.fr 4
  obtain ⟨w4, hw4⟩ : ∃ w4, w3.setCell ⟨w1.heap.size, 4, none⟩ (.int .u32 a) = w4 := ⟨_, rfl⟩
  have hb4 : Below w1.heap.size w1 w4 := by rw [← hw4]; exact hb3.setCell (Nat.le_refl _) _
  have hy4 : ItAt 49 w4 w1.heap.size ⟨0, 0, 0, 0, a, zeroC⟩ := by rw [← hw4]; exact hy3.putT _
  have L4 : Hid _ := hy4.loadR ch_zero.1
  clear hb2 hy3
  go_enter Tryz.func28, Tryz.ntmps28
  go_wp2_with (refine wpList_storeR rfl _ _ rfl w1.heap.size it0 it0 rfl rfl ch_zero.1 ch_zero.1 hy2 ?_)
  refine (hn _).mono ?_
  rintro e w' ⟨rfl, rfl⟩
  go_wp2_with (refine iloadG rfl 49 _ rfl _ rfl _ L4.out ?_)
  clear L4 hy2 hw1 hw2 hw3 hn c4 f4
  refine (hen _).mono ?_
  rintro e w5 ⟨rfl, hb5⟩
  have hb15 := thenB hb4 hb5
  have hx5 := hx1.below hb15
  have hy5 := hy4.below hb5
  have hB5 := thenB hb1 hb15
  clear hen hx1 hy4 hb4
  have L5 : Hid _ := hy5.loadR ch_zero.1
  have HX5 : Hid ((⟨0, 0, 0, 0, a, zeroC⟩ : It).bytes.length = 32) := ch_zero.1
  go_wp2_with (first
    | (refine iloadG rfl 49 _ rfl _ rfl _ L5.out ?_)
    | (refine wpList_storeR rfl _ _ rfl w.heap.size (⟨0, 0, 0, 0, a, zeroC⟩ : It) it0 rfl rfl HX5.out ch_zero.1 hx5 ?_))
  exact ret_itemR2 rfl w.heap.size (⟨0, 0, 0, 0, a, zeroC⟩ : It) HX5.out rfl _ rfl (hx5.setRow _) rfl ⟨rfl, below_setRow hB5 (Nat.le_refl _) _⟩

set_option maxRecDepth 100000 in
set_option maxHeartbeats 4000000 in
theorem refDec_1no (w : World) (s : ByteArray) (h : s.size = 6) (hs : standsB 1 (rdI 1 (strB s)) = false) : Calls Tryz.prog 28 #[.int .i64 1, .string s] w fun e w' => e = .returned (.tuple #[.agg (itC it0), .int .i64 11]) ∧ Below w.heap.size w w' := by
  obtain ⟨w1, hw1⟩ : ∃ w1, w.alloc (.cells (itC it0) 49) = w1 := ⟨_, rfl⟩
  have hb1 : Below w.heap.size w w1 := by rw [← hw1]; exact (Below.refl _ w).alloc (Nat.le_refl _) _
  have hx1 : ItAt 49 w1 w.heap.size it0 := by rw [← hw1]; exact ItAt.laid _ w it0
  obtain ⟨w2, hw2⟩ : ∃ w2, w1.alloc (.cells (itC it0) 49) = w2 := ⟨_, rfl⟩
  have hb2 : Below w1.heap.size w1 w2 := by rw [← hw2]; exact (Below.refl _ w1).alloc (Nat.le_refl _) _
  have hy2 : ItAt 49 w2 w1.heap.size it0 := by rw [← hw2]; exact ItAt.laid _ w1 it0
  obtain ⟨w3, hw3⟩ : ∃ w3, w2.setRow w1.heap.size (itC it0) = w3 := ⟨_, rfl⟩
  have hy3 : ItAt 49 w3 w1.heap.size it0 := by rw [← hw3]; exact hy2.setRow _
  have hb3 : Below w1.heap.size w1 w3 := by rw [← hw3]; exact below_setRow hb2 (Nat.le_refl _) _
  have hz := zeroItemR
  have hlB : ((strB s).length : Int) = wid 1 := by rw [strB_length, h]; rfl
  have hok := rdI_ok 1 (strB s) (strB_byt s) hlB (by decide)
  have hsI : (s.size : Int) = 6 := by omega
  have hen0 := refEnc_any
  have z0 := strB_extract s 0 1 (by omega)
  have z1 := strB_extract s 1 3 (by omega)
  have z2 := strB_extract s 3 4 (by omega)
  have z3 := strB_extract s 4 6 (by omega)
  rw [List.drop_zero] at z0
  have n0 : ∀ W, Calls Tryz.prog 61 #[.string (s.extract 0 1)] W fun e w' => e = .returned (.int .i64 (valB ((strB s).take 1))) ∧ W = w' := fun W => by have := refNum_any W (s.extract 0 1) (by rw [extract_size _ _ _ (by omega)]; omega); rwa [z0] at this
  have n1 : ∀ W, Calls Tryz.prog 61 #[.string (s.extract 1 3)] W fun e w' => e = .returned (.int .i64 (valB (((strB s).drop 1).take 2))) ∧ W = w' := fun W => by have := refNum_any W (s.extract 1 3) (by rw [extract_size _ _ _ (by omega)]; omega); rwa [z1] at this
  have n2 : ∀ W, Calls Tryz.prog 61 #[.string (s.extract 3 4)] W fun e w' => e = .returned (.int .i64 (valB (((strB s).drop 3).take 1))) ∧ W = w' := fun W => by have := refNum_any W (s.extract 3 4) (by rw [extract_size _ _ _ (by omega)]; omega); rwa [z2] at this
  have n3 : ∀ W, Calls Tryz.prog 61 #[.string (s.extract 4 6)] W fun e w' => e = .returned (.int .i64 (valB (((strB s).drop 4).take 2))) ∧ W = w' := fun W => by have := refNum_any W (s.extract 4 6) (by rw [extract_size _ _ _ (by omega)]; omega); rwa [z3] at this
  have hen : ∀ W, Calls Tryz.prog 50 #[.int .i64 1, .agg (itC (rdI 1 (strB s)))] W fun e w' => e = .returned (.tuple #[.string ⟨#[]⟩, .int .i64 11]) ∧ Below W.heap.size W w' := fun W => by
    have := refEnc_any W 1 (rdI 1 (strB s)) hok
    obtain ⟨e1, e2⟩ := enc_no (p := 1) (by decide) (x := rdI 1 (strB s)) (by unfold encOk; rw [hs, Bool.and_false])
    rwa [e1, e2] at this
  rw [rdI_1] at hen 
  clear hen0 z0 z1 z2 z3 hok hlB hs
  generalize valB ((strB s).take 1) = a0 at *
  generalize valB (((strB s).drop 1).take 2) = a1 at *
  generalize valB (((strB s).drop 3).take 1) = a2 at *
  generalize valB (((strB s).drop 4).take 2) = a3 at *
  have c0 : w3.cell? ⟨w1.heap.size, 0, none⟩ = some (.int .i64 0) := hy3.c0
  have c1 : w3.cell? ⟨w1.heap.size, 1, none⟩ = some (.int .i64 0) := hy3.c1
  have c2 : w3.cell? ⟨w1.heap.size, 2, none⟩ = some (.int .i64 0) := hy3.c2
  have c3 : w3.cell? ⟨w1.heap.size, 3, none⟩ = some (.int .i64 0) := hy3.c3
  have f0 := hy3.fr 0
  have f1 := hy3.fr 1
  have f2 := hy3.fr 2
  have f3 := hy3.fr 3
  obtain ⟨w4, hw4⟩ : ∃ w4, (w3.setCells w1.heap.size 0 [.int .i64 a0, .int .i64 a1, .int .i64 a2, .int .i64 a3]).drew = w4 := ⟨_, rfl⟩
  have hb4 : Below w1.heap.size w1 w4 := by rw [← hw4]; exact (below_setCells (Nat.le_refl _) _ _ _ hb3).drew
  have hy4 : ItAt 49 w4 w1.heap.size ⟨a0, a1, a2, a3, 0, zeroC⟩ := by rw [← hw4]; exact ⟨(hy3.putI ch_zero.1 _ _ _ _).row⟩
  have L4 : Hid _ := hy4.loadR ch_zero.1
  have HK : Hid (Below w1.heap.size w1 w4) := hb4
  have HW4 : Hid ((w3.setCells w1.heap.size 0 [.int .i64 a0, .int .i64 a1, .int .i64 a2, .int .i64 a3]).drew = w4) := hw4
  clear hb2 hy3 hw4
  go_enter Tryz.func28, Tryz.ntmps28
  go_wp2_with (refine wpList_storeR rfl _ _ rfl w1.heap.size it0 it0 rfl rfl ch_zero.1 ch_zero.1 hy2 ?_)
  refine wp_region_noPanic ?_
  refine wp_region_held_drew (S := fun W => Below w1.heap.size w1 W) (by kernel_rfl) hb3.drew (fun hHeld => ?_)
  refine wpAnyH_take (i := 0) (v := .string s) rfl (by kernel_rfl) (by kernel_rfl) (by kernel_rfl) (fun _ _ _ h => h) (Or.inl ⟨by rfl, fun W hSw => by (try dsimp only at hSw); go_simp⟩) (by assumption) ?_
  simp only [List.getElem_toArray, List.getElem_cons_zero, List.getElem_cons_succ, Act.put, List.setIfInBounds_toArray, List.set_cons_zero, List.set_cons_succ]
  refine wpAnyH_take (i := 1) (v := .string (s.extract 0 1)) rfl (by kernel_rfl) (by kernel_rfl) (by kernel_rfl) (fun _ _ _ h => h) (Or.inl ⟨by rfl, fun W hSw => by (try dsimp only at hSw); go_simp⟩) (by assumption) ?_
  simp only [List.getElem_toArray, List.getElem_cons_zero, List.getElem_cons_succ, Act.put, List.setIfInBounds_toArray, List.set_cons_zero, List.set_cons_succ]
  refine wpAnyH_take (i := 3) (v := .string s) rfl (by kernel_rfl) (by kernel_rfl) (by kernel_rfl) (fun _ _ _ h => h) (Or.inl ⟨by rfl, fun W hSw => by (try dsimp only at hSw); go_simp⟩) (by assumption) ?_
  simp only [List.getElem_toArray, List.getElem_cons_zero, List.getElem_cons_succ, Act.put, List.setIfInBounds_toArray, List.set_cons_zero, List.set_cons_succ]
  refine wpAnyH_take (i := 4) (v := .string (s.extract 1 3)) rfl (by kernel_rfl) (by kernel_rfl) (by kernel_rfl) (fun _ _ _ h => h) (Or.inl ⟨by rfl, fun W hSw => by (try dsimp only at hSw); go_simp⟩) (by assumption) ?_
  simp only [List.getElem_toArray, List.getElem_cons_zero, List.getElem_cons_succ, Act.put, List.setIfInBounds_toArray, List.set_cons_zero, List.set_cons_succ]
  refine wpAnyH_take (i := 6) (v := .string s) rfl (by kernel_rfl) (by kernel_rfl) (by kernel_rfl) (fun _ _ _ h => h) (Or.inl ⟨by rfl, fun W hSw => by (try dsimp only at hSw); go_simp⟩) (by assumption) ?_
  simp only [List.getElem_toArray, List.getElem_cons_zero, List.getElem_cons_succ, Act.put, List.setIfInBounds_toArray, List.set_cons_zero, List.set_cons_succ]
  refine wpAnyH_take (i := 7) (v := .string (s.extract 3 4)) rfl (by kernel_rfl) (by kernel_rfl) (by kernel_rfl) (fun _ _ _ h => h) (Or.inl ⟨by rfl, fun W hSw => by (try dsimp only at hSw); go_simp⟩) (by assumption) ?_
  simp only [List.getElem_toArray, List.getElem_cons_zero, List.getElem_cons_succ, Act.put, List.setIfInBounds_toArray, List.set_cons_zero, List.set_cons_succ]
  refine wpAnyH_take (i := 9) (v := .string s) rfl (by kernel_rfl) (by kernel_rfl) (by kernel_rfl) (fun _ _ _ h => h) (Or.inl ⟨by rfl, fun W hSw => by (try dsimp only at hSw); go_simp⟩) (by assumption) ?_
  simp only [List.getElem_toArray, List.getElem_cons_zero, List.getElem_cons_succ, Act.put, List.setIfInBounds_toArray, List.set_cons_zero, List.set_cons_succ]
  refine wpAnyH_take (i := 10) (v := .string (s.extract 4 6)) rfl (by kernel_rfl) (by kernel_rfl) (by kernel_rfl) (fun _ _ _ h => h) (Or.inl ⟨by rfl, fun W hSw => by (try dsimp only at hSw); go_simp⟩) (by assumption) ?_
  simp only [List.getElem_toArray, List.getElem_cons_zero, List.getElem_cons_succ, Act.put, List.setIfInBounds_toArray, List.set_cons_zero, List.set_cons_succ]
  refine wpAnyH_ready (rs := [2]) (by kernel_rfl) (by simp) ?_
  refine AllReadyH.cons rfl (fun K hK => ?_) AllReadyH.nil
  go_simp
  go_wp2_with (go_at_call 61; refine (n0 _).mono ?_; rintro e w' ⟨rfl, rfl⟩)
  refine hK.out _ _ (by assumption) (fun hHeld2 => ?_)
  clear hK K
  refine wpAnyH_ready (rs := [5]) (by kernel_rfl) (by simp) ?_
  refine AllReadyH.cons rfl (fun K hK => ?_) AllReadyH.nil
  go_simp
  go_wp2_with (go_at_call 61; refine (n1 _).mono ?_; rintro e w' ⟨rfl, rfl⟩)
  refine hK.out _ _ (by assumption) (fun hHeld2 => ?_)
  clear hK K
  refine wpAnyH_ready (rs := [8]) (by kernel_rfl) (by simp) ?_
  refine AllReadyH.cons rfl (fun K hK => ?_) AllReadyH.nil
  go_simp
  go_wp2_with (go_at_call 61; refine (n2 _).mono ?_; rintro e w' ⟨rfl, rfl⟩)
  refine hK.out _ _ (by assumption) (fun hHeld2 => ?_)
  clear hK K
  refine wpAnyH_ready (rs := [11]) (by kernel_rfl) (by simp) ?_
  refine AllReadyH.cons rfl (fun K hK => ?_) AllReadyH.nil
  go_simp
  go_wp2_with (go_at_call 61; refine (n3 _).mono ?_; rintro e w' ⟨rfl, rfl⟩)
  refine hK.out _ _ (by assumption) (fun hHeld2 => ?_)
  clear hK K
  refine wpAnyH_take (i := 12) (v := .agg #[.int .i64 a0, .int .i64 a1, .int .i64 a2, .int .i64 a3]) rfl (by kernel_rfl) (by kernel_rfl) (by kernel_rfl) (fun _ _ _ h => h) (Or.inl ⟨by rfl, fun W hSw => by (try dsimp only at hSw); go_simp⟩) (by assumption) ?_
  simp only [List.getElem_toArray, List.getElem_cons_zero, List.getElem_cons_succ, Act.put, List.setIfInBounds_toArray, List.set_cons_zero, List.set_cons_succ]
  refine wpAnyH_take (i := 13) (v := .pointer (some ⟨w1.heap.size, 0, none⟩)) rfl (by kernel_rfl) (by kernel_rfl) (by kernel_rfl) (fun _ _ _ h => h) (Or.inl ⟨by rfl, fun W hSw => by (try dsimp only at hSw); go_simp⟩) (by assumption) ?_
  simp only [List.getElem_toArray, List.getElem_cons_zero, List.getElem_cons_succ, Act.put, List.setIfInBounds_toArray, List.set_cons_zero, List.set_cons_succ]
  refine wpAnyH_ready (rs := [14]) (by kernel_rfl) (by simp) ?_
  refine AllReadyH.cons rfl (fun K hK => ?_) AllReadyH.nil
  go_simp
  go_wp2
  have hfold : ((((w3.setCell ⟨w1.heap.size, 0, none⟩ (.int .i64 a0)).setCell ⟨w1.heap.size, 1, none⟩ (.int .i64 a1)).setCell ⟨w1.heap.size, 2, none⟩ (.int .i64 a2)).setCell ⟨w1.heap.size, 3, none⟩ (.int .i64 a3)).drew = w4 := HW4.out
  rw [hfold]
  refine hK.out _ _ HK.out (fun hHeld2 => ?_)
  clear hK K hfold
  refine wpAnyH_done (by kernel_rfl) ?_ _
  refine NoPanic.normal ?_
  clear n0 n1 n2 n3 c0 c1 c2 c3 f0 f1 f2 f3
  go_wp2_with (refine iloadG rfl 49 _ rfl _ rfl _ L4.out ?_)
  clear L4 hy2 hw1 hw2 hw3
  refine (hen _).mono ?_
  rintro e w5 ⟨rfl, hb5⟩
  have hb15 := thenB hb4 hb5
  have hx5 := hx1.below hb15
  have hy5 := hy4.below hb5
  have hB5 := thenB hb1 hb15
  clear hen hx1 hy4 hb4
  go_wp2_with (refine wpList_storeR rfl _ _ rfl w.heap.size it0 it0 rfl rfl ch_zero.1 ch_zero.1 hx5 ?_)
  exact ret_itemR2 rfl w.heap.size it0 ch_zero.1 rfl _ rfl (hx5.setRow _) rfl ⟨rfl, below_setRow hB5 (Nat.le_refl _) _⟩

set_option maxRecDepth 100000 in
set_option maxHeartbeats 4000000 in
theorem refDec_2no (w : World) (s : ByteArray) (h : s.size = 4) (hs : standsB 2 (rdI 2 (strB s)) = false) : Calls Tryz.prog 28 #[.int .i64 2, .string s] w fun e w' => e = .returned (.tuple #[.agg (itC it0), .int .i64 11]) ∧ Below w.heap.size w w' := by
  obtain ⟨w1, hw1⟩ : ∃ w1, w.alloc (.cells (itC it0) 49) = w1 := ⟨_, rfl⟩
  have hb1 : Below w.heap.size w w1 := by rw [← hw1]; exact (Below.refl _ w).alloc (Nat.le_refl _) _
  have hx1 : ItAt 49 w1 w.heap.size it0 := by rw [← hw1]; exact ItAt.laid _ w it0
  obtain ⟨w2, hw2⟩ : ∃ w2, w1.alloc (.cells (itC it0) 49) = w2 := ⟨_, rfl⟩
  have hb2 : Below w1.heap.size w1 w2 := by rw [← hw2]; exact (Below.refl _ w1).alloc (Nat.le_refl _) _
  have hy2 : ItAt 49 w2 w1.heap.size it0 := by rw [← hw2]; exact ItAt.laid _ w1 it0
  obtain ⟨w3, hw3⟩ : ∃ w3, w2.setRow w1.heap.size (itC it0) = w3 := ⟨_, rfl⟩
  have hy3 : ItAt 49 w3 w1.heap.size it0 := by rw [← hw3]; exact hy2.setRow _
  have hb3 : Below w1.heap.size w1 w3 := by rw [← hw3]; exact below_setRow hb2 (Nat.le_refl _) _
  have hz := zeroItemR
  have hlB : ((strB s).length : Int) = wid 2 := by rw [strB_length, h]; rfl
  have hok := rdI_ok 2 (strB s) (strB_byt s) hlB (by decide)
  have hsI : (s.size : Int) = 4 := by omega
  have hv := valB_small (strB s) (strB_byt s) 4 (by rw [strB_length]; omega) (by omega)
  have hn := fun W => refNum_any W s (by omega)
  have hen : ∀ W, Calls Tryz.prog 50 #[.int .i64 2, .agg (itC (rdI 2 (strB s)))] W fun e w' => e = .returned (.tuple #[.string ⟨#[]⟩, .int .i64 11]) ∧ Below W.heap.size W w' := fun W => by
    have := refEnc_any W 2 (rdI 2 (strB s)) hok
    obtain ⟨e1, e2⟩ := enc_no (p := 2) (by decide) (x := rdI 2 (strB s)) (by unfold encOk; rw [hs, Bool.and_false])
    rwa [e1, e2] at this
  rw [rdI_2] at hen 
  clear hok hlB hs
  generalize valB (strB s) = a at *
  have wt : IntKind.u32.wrap (a : Int) = a := by rw [IntKind.wrap_u32]; omega
  have c4 : w3.cell? ⟨w1.heap.size, 4, none⟩ = some (.int .u32 0) := hy3.c4
  have f4 := hy3.fr 4
  obtain ⟨w4, hw4⟩ : ∃ w4, w3.setCell ⟨w1.heap.size, 4, none⟩ (.int .u32 a) = w4 := ⟨_, rfl⟩
  have hb4 : Below w1.heap.size w1 w4 := by rw [← hw4]; exact hb3.setCell (Nat.le_refl _) _
  have hy4 : ItAt 49 w4 w1.heap.size ⟨0, 0, 0, 0, a, zeroC⟩ := by rw [← hw4]; exact hy3.putT _
  have L4 : Hid _ := hy4.loadR ch_zero.1
  clear hb2 hy3
  go_enter Tryz.func28, Tryz.ntmps28
  go_wp2_with (refine wpList_storeR rfl _ _ rfl w1.heap.size it0 it0 rfl rfl ch_zero.1 ch_zero.1 hy2 ?_)
  refine (hn _).mono ?_
  rintro e w' ⟨rfl, rfl⟩
  go_wp2_with (refine iloadG rfl 49 _ rfl _ rfl _ L4.out ?_)
  clear L4 hy2 hw1 hw2 hw3 hn c4 f4
  refine (hen _).mono ?_
  rintro e w5 ⟨rfl, hb5⟩
  have hb15 := thenB hb4 hb5
  have hx5 := hx1.below hb15
  have hy5 := hy4.below hb5
  have hB5 := thenB hb1 hb15
  clear hen hx1 hy4 hb4
  go_wp2_with (refine wpList_storeR rfl _ _ rfl w.heap.size it0 it0 rfl rfl ch_zero.1 ch_zero.1 hx5 ?_)
  exact ret_itemR2 rfl w.heap.size it0 ch_zero.1 rfl _ rfl (hx5.setRow _) rfl ⟨rfl, below_setRow hB5 (Nat.le_refl _) _⟩

set_option maxRecDepth 100000 in
set_option maxHeartbeats 4000000 in
theorem refDec_3ok (w : World) (s : ByteArray) (h : s.size = 32) : Calls Tryz.prog 28 #[.int .i64 3, .string s] w fun e w' => e = .returned (.tuple #[.agg (itC (rdI 3 (strB s))), .int .i64 0]) ∧ Below w.heap.size w w' := by
  obtain ⟨w1, hw1⟩ : ∃ w1, w.alloc (.cells (itC it0) 49) = w1 := ⟨_, rfl⟩
  have hb1 : Below w.heap.size w w1 := by rw [← hw1]; exact (Below.refl _ w).alloc (Nat.le_refl _) _
  have hx1 : ItAt 49 w1 w.heap.size it0 := by rw [← hw1]; exact ItAt.laid _ w it0
  obtain ⟨w2, hw2⟩ : ∃ w2, w1.alloc (.cells (itC it0) 49) = w2 := ⟨_, rfl⟩
  have hb2 : Below w1.heap.size w1 w2 := by rw [← hw2]; exact (Below.refl _ w1).alloc (Nat.le_refl _) _
  have hy2 : ItAt 49 w2 w1.heap.size it0 := by rw [← hw2]; exact ItAt.laid _ w1 it0
  obtain ⟨w3, hw3⟩ : ∃ w3, w2.setRow w1.heap.size (itC it0) = w3 := ⟨_, rfl⟩
  have hy3 : ItAt 49 w3 w1.heap.size it0 := by rw [← hw3]; exact hy2.setRow _
  have hb3 : Below w1.heap.size w1 w3 := by rw [← hw3]; exact below_setRow hb2 (Nat.le_refl _) _
  have hz := zeroItemR
  have hlB : ((strB s).length : Int) = wid 3 := by rw [strB_length, h]; rfl
  have hok := rdI_ok 3 (strB s) (strB_byt s) hlB (by decide)
  have hsI : (s.size : Int) = 32 := by omega
  have hs : standsB 3 (rdI 3 (strB s)) = true := stands_3 (by decide) (by decide) _
  have hlb : (strB s).length = 32 := by rw [strB_length]; exact h
  have hen : ∀ W, Calls Tryz.prog 50 #[.int .i64 3, .agg (itC (rdI 3 (strB s)))] W fun e w' => e = .returned (.tuple #[.string s, .int .i64 0]) ∧ Below W.heap.size W w' := fun W => by
    have := refEnc_any W 3 (rdI 3 (strB s)) hok
    obtain ⟨e1, e2⟩ := enc_yes (p := 3) (by decide) (x := rdI 3 (strB s)) (encOk_iff.2 ⟨giveI_rdI _ _, hs⟩)
    rwa [e1, e2, wrL_rdI (strB_byt s) hlB (by decide), strOfNums_strB] at this
  rw [rdI_3 (by decide) (by decide)] at hen ⊢
  have hcp := Lib.run_copy_row_string (P := Tryz.prog) w3 136 9 3 5 w1.heap.size 5 32 32 s (itC it0) 49 Tryz.underlying136 (by kernel_rfl) hy3.row (by omega) (by rw [itC_size ch_zero.1]; omega)
  have hcells : ((itC it0).toList.take 5 ++ Lib.byteCells s.data.toList ++ (itC it0).toList.drop (5 + s.size)).toArray = itC ⟨0, 0, 0, 0, 0, strB s⟩ := by
    have e1 : Lib.byteCells s.data.toList = (strB s).map (Value.int .u8) := by simp [Lib.byteCells, strB]
    have e2 : (itC it0).toList.drop (5 + s.size) = [] := List.drop_eq_nil_of_le (by rw [Array.length_toList, itC_size ch_zero.1]; omega)
    rw [e1, e2]
    apply Array.ext'
    simp [itC, it0]
  rw [hcells] at hcp
  obtain ⟨w4, hw4⟩ : ∃ w4, w3.setRow w1.heap.size (itC ⟨0, 0, 0, 0, 0, strB s⟩) = w4 := ⟨_, rfl⟩
  rw [hw4] at hcp
  have hb4 : Below w1.heap.size w1 w4 := by rw [← hw4]; exact below_setRow hb3 (Nat.le_refl _) _
  have hy4 : ItAt 49 w4 w1.heap.size ⟨0, 0, 0, 0, 0, strB s⟩ := by rw [← hw4]; exact hy3.setRow _
  have L4 : Hid _ := hy4.loadR hlb
  have HLB : Hid ((strB s).length = 32) := hlb
  clear hb2 hy3 hok hlB hs hcells hlb hw4
  generalize strB s = b at *
  go_enter Tryz.func28, Tryz.ntmps28
  go_wp2_with (first
    | (refine wpList_storeR rfl _ _ rfl w1.heap.size it0 it0 rfl rfl ch_zero.1 ch_zero.1 hy2 ?_)
    | (refine iloadG rfl 49 _ rfl _ rfl _ L4.out ?_))
  clear L4 hy2 hw1 hw2 hw3 hcp
  refine (hen _).mono ?_
  rintro e w5 ⟨rfl, hb5⟩
  have hb15 := thenB hb4 hb5
  have hx5 := hx1.below hb15
  have hy5 := hy4.below hb5
  have hB5 := thenB hb1 hb15
  clear hen hx1 hy4 hb4
  have L5 : Hid _ := hy5.loadR HLB.out
  have HX5 : Hid ((⟨0, 0, 0, 0, 0, b⟩ : It).bytes.length = 32) := HLB.out
  go_wp2_with (first
    | (refine iloadG rfl 49 _ rfl _ rfl _ L5.out ?_)
    | (refine wpList_storeR rfl _ _ rfl w.heap.size (⟨0, 0, 0, 0, 0, b⟩ : It) it0 rfl rfl HX5.out ch_zero.1 hx5 ?_))
  exact ret_itemR2 rfl w.heap.size (⟨0, 0, 0, 0, 0, b⟩ : It) HX5.out rfl _ rfl (hx5.setRow _) rfl ⟨rfl, below_setRow hB5 (Nat.le_refl _) _⟩

theorem refDec_any (w : World) (p : Int) (s : ByteArray) : Calls Tryz.prog 28 #[.int .i64 p, .string s] w fun e w' => e = .returned (.tuple #[.agg (itC (decI p s)), .int .i64 (decE p s)]) ∧ Below w.heap.size w w' := by
  have key : ∀ p : Int, wid p ≠ 0 → ∀ n : Nat, wid p = n → (s.size ≠ n → decE p s = 11 ∧ decI p s = it0) ∧ (s.size = n → standsB p (rdI p (strB s)) = false → decE p s = 11 ∧ decI p s = it0) ∧ (s.size = n → standsB p (rdI p (strB s)) = true → decE p s = 0 ∧ decI p s = rdI p (strB s)) := fun p hp n hn => by
    refine ⟨fun h => dec_no hp (by unfold decOk; rw [decide_eq_false (by omega)]; rfl), fun h hs => dec_no hp (by unfold decOk; rw [hs, Bool.and_false]), fun h hs => dec_yes hp (by unfold decOk; rw [hs, decide_eq_true (by omega)]; rfl)⟩
  rcases wid_cases p with ⟨rfl, hw⟩ | ⟨rfl, hw⟩ | ⟨rfl, hw⟩ | ⟨h1, h2, h3, hw⟩
  · obtain ⟨k1, k2, k3⟩ := key 1 (by decide) 6 rfl
    by_cases hl : s.size = 6
    · cases hs : standsB 1 (rdI 1 (strB s)) with
      | false => rw [(k2 hl hs).1, (k2 hl hs).2]; exact refDec_1no w s hl hs
      | true => rw [(k3 hl hs).1, (k3 hl hs).2]; exact refDec_1ok w s hl hs
    · rw [(k1 hl).1, (k1 hl).2]; exact refDec_b1 w s hl
  · obtain ⟨k1, k2, k3⟩ := key 2 (by decide) 4 rfl
    by_cases hl : s.size = 4
    · cases hs : standsB 2 (rdI 2 (strB s)) with
      | false => rw [(k2 hl hs).1, (k2 hl hs).2]; exact refDec_2no w s hl hs
      | true => rw [(k3 hl hs).1, (k3 hl hs).2]; exact refDec_2ok w s hl hs
    · rw [(k1 hl).1, (k1 hl).2]; exact refDec_b2 w s hl
  · obtain ⟨k1, k2, k3⟩ := key 3 (by decide) 32 rfl
    by_cases hl : s.size = 32
    · have hs : standsB 3 (rdI 3 (strB s)) = true := stands_3 (by decide) (by decide) _
      rw [(k3 hl hs).1, (k3 hl hs).2]; exact refDec_3ok w s hl
    · rw [(k1 hl).1, (k1 hl).2]; exact refDec_b3 w s hl
  · rw [(dec_arg hw s).1, (dec_arg hw s).2]
    by_cases hp : p < 1
    · exact refDec_z0 w p s hp
    · exact refDec_z1 w p s (by omega) (by omega)

end Go.Proofs.YtjlglnhmkheidaaGreat
