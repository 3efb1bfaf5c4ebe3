/- The contract of codec.sumSteps. -/
import Derived.Test.YtckcdmkgmbicfaaGreatShifted
import Derived.Test.YtckcdmkgmbicfaaGreatLaws
namespace Go.Proofs.YtckcdmkgmbicfaaGreat
open Go.RowKit
set_option linter.unusedVariables false
set_option maxRecDepth 4000

set_option maxHeartbeats 400000 in
theorem steps_any (w : World) : Calls Tryz.prog 142 #[] w fun e w' => e = .returned (.agg ((stepRow 16).map (Value.int .u32)).toArray) ∧ Below w.heap.size w w' := by
  have hs0 : Hid (((stepRow 0).map (Value.int .u32)).toArray = #[Value.int .u32 0, Value.int .u32 0, Value.int .u32 0, Value.int .u32 0, Value.int .u32 0, Value.int .u32 0, Value.int .u32 0, Value.int .u32 0, Value.int .u32 0, Value.int .u32 0, Value.int .u32 0, Value.int .u32 0, Value.int .u32 0, Value.int .u32 0, Value.int .u32 0, Value.int .u32 0]) := rfl
  go_enter Tryz.func142, Tryz.ntmps142
  go_wp2
  rw [← hs0.out]
  go_loopw [3] (fun t wr => ∃ i : Nat, i ≤ 16 ∧ t = .int .i64 i ∧ wr = (w.alloc (.cells ((stepRow 0).map (Value.int .u32)).toArray 202)).alloc (.cells ((stepRow i).map (Value.int .u32)).toArray 202)) (fun t _ => 16 - (intOf t).toNat)
  case atStart => exact ⟨0, Nat.zero_le _, rfl, rfl⟩
  case round =>
    obtain ⟨i, hi, rfl, rfl⟩ := hrel
    have hZ0 : ((stepRow 0).map (Value.int .u32)).toArray.size = 16 := rfl
    generalize ((stepRow 0).map (Value.int .u32)).toArray = Z0 at *
    by_cases hlt : i < 16
    · obtain ⟨M, hM⟩ : ∃ M, M = ((stepRow i).map (Value.int .u32)).toArray := ⟨_, rfl⟩
      obtain ⟨z, hz⟩ : ∃ z, M[i]? = some (.int .u32 z) := by
        refine ⟨(stepRow i)[i]'(by rw [stepRow_length]; omega), ?_⟩
        rw [hM, List.getElem?_toArray, List.getElem?_map, List.getElem?_eq_getElem (by rw [stepRow_length]; omega)]
        rfl
      have HS : Hid (M.setIfInBounds i (.int .u32 (iterS 4 i)) = ((stepRow (i + 1)).map (Value.int .u32)).toArray) := by
        show _ = _
        rw [hM, ← stepRow_set i hlt]
        apply Array.ext'
        rw [Array.toList_setIfInBounds, List.map_set]
      rw [← hM]
      clear hM
      go_wp2_with fail
      refine (shifted_any _ i (by omega)).mono ?_
      rintro e w' ⟨rfl, rfl⟩
      go_wp2
      go_roundw
      case rel => exact ⟨i + 1, by omega, by go_num, by rw [HS.out]⟩
      case measure => simp [intOf]; omega
    · obtain rfl : i = 16 := by omega
      have hMs : ((stepRow 16).map (Value.int .u32)).toArray.size = 16 := rfl
      have hM1 : ((stepRow 16).map (Value.int .u32)).toArray.all (·.oneCell') = true := Array.all_eq_true_iff_forall_mem.2 (fun u hu => ints_oneCell .u32 (stepRow 16) u (by simpa using hu))
      generalize hMe : ((stepRow 16).map (Value.int .u32)).toArray = M at *
      have HE : Hid _ := hMe
      clear hMe
      have hi45 : (Tryz.prog.info? 202).map (·.size) = some M.size := by rw [hMs]; kernel_rfl
      have hg1 := heap_alloc2_new w (.cells Z0 202) (.cells M 202)
      have hg0 := heap_alloc2_old w (.cells Z0 202) (.cells M 202)
      have hold : Z0.size = M.size := by rw [hMs, hZ0]
      obtain ⟨W, hW⟩ : ∃ W, W = (w.alloc (.cells Z0 202)).alloc (.cells M 202) := ⟨_, rfl⟩
      have hbW : Below w.heap.size w W := by rw [hW]; exact ((Below.refl _ _).alloc (Nat.le_refl _) _).alloc (by simp) _
      rw [← hW] at hg1 hg0 ⊢
      clear hW
      have HI : Hid _ := hi45
      have HO : Hid _ := hold
      have HM : Hid _ := hM1
      have H1 : Hid _ := hg1
      have H0 : Hid _ := hg0
      have hr : Tryz.f142.results = #[.cell 0 202] := Tryz.results142
      clear hi45 hold hM1 hMs hZ0 hs0 hg1 hg0 hr
      go_wp2_with (first | (refine wpList_load_row rfl 202 _ rfl (w.heap.size + 1) rfl 202 M (0, 0) _ H1.out Tryz.underlying202 rfl HI.out ?_) | (refine wpList_store_row rfl 202 _ _ rfl w.heap.size M rfl rfl 202 Z0 H0.out HI.out HO.out HM.out ?_))
      refine bodyPost_ret (v := .agg M) (results_cell_row Tryz.results142 _ _ w.heap.size 202 M (0, 0) _ rfl (setRow_heap W w.heap.size Z0 M 202 (0, 0) H0.out) Tryz.underlying202 rfl HI.out) rfl ⟨by rw [HE.out], below_setRow hbW (Nat.le_refl _) _⟩

end Go.Proofs.YtckcdmkgmbicfaaGreat
