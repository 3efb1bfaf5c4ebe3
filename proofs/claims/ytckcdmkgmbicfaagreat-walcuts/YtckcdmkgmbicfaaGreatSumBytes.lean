/- The contract of codec.sumBytes. -/
import Derived.Test.YtckcdmkgmbicfaaGreatSum
namespace Go.Proofs.YtckcdmkgmbicfaaGreat
open Go.RowKit
set_option linter.unusedVariables false
set_option maxRecDepth 4000

set_option maxHeartbeats 400000 in
theorem sumBytes_any (w : World) (v : Value) (xs : List Int) (h : Rd w v xs) (hy : Byt xs) : Calls Tryz.prog 104 #[v] w fun e w' => e = .returned (.agg ((sealB xs).map (Value.int .u8)).toArray) ∧ Below w.heap.size w w' := by
  have hs0 : Hid (((lowRow (sumS xs) 0).map (Value.int .u8)).toArray = #[Value.int .u8 0, Value.int .u8 0, Value.int .u8 0, Value.int .u8 0]) := rfl
  have hS := sumS_lt xs hy
  go_enter Tryz.func104, Tryz.ntmps104
  go_wp2_with fail
  have hb0 : Below w.heap.size w (w.alloc (.cells #[Value.int .u8 0, Value.int .u8 0, Value.int .u8 0, Value.int .u8 0] 169)) := (Below.refl _ _).alloc (Nat.le_refl _) _
  refine (sum_any _ _ _ (h.below hb0) hy).mono ?_
  rintro e w1 ⟨rfl, hb1⟩
  go_wp2_with fail
  rw [← hs0.out]
  have hgz : w1.heap[w.heap.size]? = some (.cells #[Value.int .u8 0, Value.int .u8 0, Value.int .u8 0, Value.int .u8 0] 169 (0, 0)) := (hb1.block w.heap.size (by simp)).trans (heap_alloc_new w _)
  have hbw : Below w.heap.size w w1 := hb0.trans (hb1.mono (by simp))
  have hlt1 : w.heap.size < w1.heap.size := by have := hb1.size; simp at this; omega
  have HG : Hid _ := hgz
  clear hb0 hb1 h hgz
  have HX : Hid (sealB xs = lowRow (sumS xs) 4) := rfl
  generalize sumS xs = S at *
  go_loopw [8] (fun t wr => ∃ i : Nat, i ≤ 4 ∧ t = .int .i64 i ∧ wr = w1.alloc (.cells ((lowRow S i).map (Value.int .u8)).toArray 169)) (fun t _ => 4 - (intOf t).toNat)
  case atStart => exact ⟨0, Nat.zero_le _, rfl, rfl⟩
  case round =>
    obtain ⟨i, hi, rfl, rfl⟩ := hrel
    clear hs0
    by_cases hlt : i < 4
    · obtain ⟨M, hM⟩ : ∃ M, M = ((lowRow S i).map (Value.int .u8)).toArray := ⟨_, rfl⟩
      obtain ⟨z, hz⟩ : ∃ z, M[i]? = some (.int .u8 z) := by
        refine ⟨(lowRow S i)[i]'(by rw [lowRow_length]; omega), ?_⟩
        rw [hM, List.getElem?_toArray, List.getElem?_map, List.getElem?_eq_getElem (by rw [lowRow_length]; omega)]
        rfl
      have HS : Hid (M.setIfInBounds i (.int .u8 ((S : Int) / 2 ^ (8 * i) % 256)) = ((lowRow S (i + 1)).map (Value.int .u8)).toArray) := by
        show _ = _
        rw [hM, ← lowRow_set S i hlt]
        apply Array.ext'
        rw [Array.toList_setIfInBounds, List.map_set]
        simp
      rw [← hM]
      clear hM
      go_wp2
      go_roundw
      case rel => exact ⟨i + 1, by omega, by go_num, by rw [HS.out]⟩
      case measure => simp [intOf]; omega
    · obtain rfl : i = 4 := by omega
      have hMs : ((lowRow S 4).map (Value.int .u8)).toArray.size = 4 := rfl
      have hM1 : ((lowRow S 4).map (Value.int .u8)).toArray.all (·.oneCell') = true := Array.all_eq_true_iff_forall_mem.2 (fun u hu => ints_oneCell .u8 (lowRow S 4) u (by simpa using hu))
      generalize hMe : ((lowRow S 4).map (Value.int .u8)).toArray = M at *
      have HE : Hid _ := hMe
      clear hMe
      have hi43 : (Tryz.prog.info? 169).map (·.size) = some M.size := by rw [hMs]; kernel_rfl
      have hg1 := heap_alloc_new w1 (.cells M 169)
      have hg0 := (heap_alloc_old w1 (.cells M 169) hlt1).trans HG.out
      obtain ⟨W, hW⟩ : ∃ W, W = w1.alloc (.cells M 169) := ⟨_, rfl⟩
      have hbW : Below w.heap.size w W := by rw [hW]; exact hbw.alloc (Nat.le_of_lt hlt1) _
      rw [← hW] at hg1 hg0 ⊢
      clear hW
      have HI : Hid _ := hi43
      have HO : Hid _ := hMs.symm
      have HM : Hid _ := hM1
      have H1 : Hid _ := hg1
      have H0 : Hid _ := hg0
      clear hi43 hM1 hMs hg1 hg0
      go_wp2_with (first | (refine wpList_load_row rfl 169 _ rfl w1.heap.size rfl 169 M (0, 0) _ H1.out Tryz.underlying169 rfl HI.out ?_) | (refine wpList_store_row rfl 169 _ _ rfl w.heap.size M rfl rfl 169 _ H0.out HI.out HO.out HM.out ?_))
      refine bodyPost_ret (v := .agg M) (results_cell_row Tryz.results104 _ _ w.heap.size 169 M (0, 0) _ rfl (setRow_heap W w.heap.size _ M 169 (0, 0) H0.out) Tryz.underlying169 rfl HI.out) rfl ⟨by rw [HX.out, HE.out], below_setRow hbW (Nat.le_refl _) _⟩

end Go.Proofs.YtckcdmkgmbicfaaGreat
