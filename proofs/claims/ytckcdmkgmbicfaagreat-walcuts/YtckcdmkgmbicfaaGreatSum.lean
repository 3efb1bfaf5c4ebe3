/- The contract of codec.Sum. -/
import Derived.Test.YtckcdmkgmbicfaaGreatSteps
namespace Go.Proofs.YtckcdmkgmbicfaaGreat
open Go.RowKit
set_option linter.unusedVariables false
set_option maxRecDepth 4000

theorem cell_steps (w : World) (j : Nat) (hj : j < 16) : (w.alloc (.cells ((stepRow 16).map (Value.int .u32)).toArray 202)).cell? ⟨w.heap.size, j, none⟩ = some (.int .u32 (iterS 4 j)) := by
  rw [cell_of_row _ _ j _ 202 (0, 0) (heap_alloc_new w _), List.getElem?_toArray, List.getElem?_map, List.getElem?_eq_getElem (by rw [stepRow_length]; exact hj)]
  simp [stepRow, hj]

set_option maxHeartbeats 400000 in
theorem sum_any (w : World) (v : Value) (xs : List Int) (h : Rd w v xs) (hy : Byt xs) : Calls Tryz.prog 126 #[v] w fun e w' => e = .returned (.int .u32 (sumS xs)) ∧ Below w.heap.size w w' := by
  obtain ⟨a, cap, rfl, hcap, hm, _, hne⟩ := h
  unfold maxLen at hm
  go_enter Tryz.func126, Tryz.ntmps126
  go_wp2_with fail
  refine (steps_any _).mono ?_
  rintro e w1 ⟨rfl, hb1⟩
  have hM1 : ((stepRow 16).map (Value.int .u32)).toArray.all (·.oneCell') = true := Array.all_eq_true_iff_forall_mem.2 (fun u hu => ints_oneCell .u32 (stepRow 16) u (by simpa using hu))
  have hst := run_storeCells_new (P := Tryz.prog) w1 202 #[Value.int .u32 0, Value.int .u32 0, Value.int .u32 0, Value.int .u32 0, Value.int .u32 0, Value.int .u32 0, Value.int .u32 0, Value.int .u32 0, Value.int .u32 0, Value.int .u32 0, Value.int .u32 0, Value.int .u32 0, Value.int .u32 0, Value.int .u32 0, Value.int .u32 0, Value.int .u32 0] ((stepRow 16).map (Value.int .u32)).toArray (by kernel_rfl) rfl hM1
  have htab := cell_steps w1
  have hMs : ((stepRow 16).map (Value.int .u32)).toArray.size = 16 := rfl
  generalize ((stepRow 16).map (Value.int .u32)).toArray = M at *
  clear hM1
  have hbW : Below w.heap.size w (w1.alloc (.cells M 202)) := hb1.alloc hb1.size _
  have hz : w.heap.size ≤ w1.heap.size := hb1.size
  clear hb1
  go_wp2_with fail
  clear hst hMs
  generalize w1.alloc (.cells M 202) = W at *
  generalize w1.heap.size = T at *
  go_loop [4, 10] (fun s t => ∃ i : Nat, i ≤ xs.length ∧ t = .int .i64 i ∧ s = .int .u32 (regS (xs.take i))) (fun _ t => xs.length - (intOf t).toNat)
  case atStart => exact ⟨0, Nat.zero_le _, rfl, rfl⟩
  case round =>
    obtain ⟨i, hi, rfl, rfl⟩ := hrel
    by_cases hlt : i < xs.length
    · obtain ⟨b, off, rfl, hbl, hc⟩ := hne (by intro e; subst e; simp at hlt)
      have hci : W.cell? ⟨b, off + i, none⟩ = some (.int .u8 (xs.getD i 0)) := (hbW.cell (p := ⟨b, off + i, none⟩) hbl).trans (hc i hlt)
      have hR := regS_lt (xs.take i) (hy.take i)
      have HS : Hid _ := regS_take xs i hlt
      obtain ⟨hb0, hb1⟩ := hy.getD i
      generalize xs.getD i 0 = c at *
      generalize regS (xs.take i) = R at *
      clear hc hne
      have hil : (i : Int) < xs.length := by omega
      go_wp2_with fail
      rw [xor_byte32 R c hR hb0 hb1]
      have hX : R ^^^ c.toNat < 4294967296 := xor_lt32 hR (by omega)
      have hby : byteS R c.toNat = iterS 8 (R ^^^ c.toNat) := rfl
      rw [hby] at HS
      clear hby
      generalize R ^^^ c.toNat = X at *
      go_loop [4, 18] (fun s t => ∃ j : Nat, j ≤ 2 ∧ t = .int .i64 j ∧ s = .int .u32 (iterS (4 * j) X)) (fun _ t => 2 - (intOf t).toNat)
      case atStart => exact ⟨0, Nat.zero_le _, rfl, rfl⟩
      case round =>
        obtain ⟨j, hj, rfl, rfl⟩ := hrel
        by_cases hjl : j < 2
        · have hY := iterS_lt (4 * j) hX
          have HY : Hid _ := iterS_half j X
          generalize iterS (4 * j) X = Y at *
          have ht := htab (Y % 16) (by omega)
          clear htab
          go_wp2
          go_round
          case rel => exact ⟨j + 1, by omega, by go_num, by rw [xor_half32 Y hY, HY.out]⟩
          case measure => simp [intOf]; omega
        · obtain rfl : j = 2 := by omega
          go_wp2
          go_round
          case rel => exact ⟨i + 1, by omega, by go_num, by rw [HS.out]⟩
          case measure => simp [intOf]; omega
    · obtain rfl : i = xs.length := by omega
      have HF : Hid _ := xor_all32 (regS xs) (regS_lt xs hy)
      rw [List.take_length]
      go_wp2
      go_ret
      exact ⟨by rw [HF.out]; rfl, hbW⟩

end Go.Proofs.YtckcdmkgmbicfaaGreat
