/- The contracts of codec.Sum and of the document's Sum: the sum of any bytes. -/
import Derived.Test.YtmpddbnggddmdaaSteps
import Derived.Deep.WholeRow
namespace Go.Proofs.Ytmpddbnggddmdaa
open Go.RowKit
set_option linter.unusedVariables false

theorem regS_take (xs : List Int) (i : Nat) (hi : i < xs.length) : regS (xs.take (i + 1)) = byteS (regS (xs.take i)) (xs.getD i 0).toNat := by
  rw [List.take_succ_eq_append_getElem hi, regS_snoc]
  simp [List.getElem?_eq_getElem hi]
theorem cell_steps (w : World) (j : Nat) (hj : j < 16) : (w.alloc (.cells ((stepRow 16).map (Value.int .u32)).toArray 45)).cell? ⟨w.heap.size, j, none⟩ = some (.int .u32 (iterS 4 j)) := by
  rw [cell_of_row _ _ j _ 45 (0, 0) (heap_alloc_new w _), List.getElem?_toArray, List.getElem?_map, List.getElem?_eq_getElem (by rw [stepRow_length]; exact hj)]
  simp [stepRow, hj]

theorem xor_byte32 (R : Nat) (c : Int) (hR : R < 4294967296) (h0 : 0 ≤ c) (h1 : c ≤ 255) : bits .xor .u32 (R : Int) c = ((R ^^^ c.toNat : Nat) : Int) := by
  have := u32_xor (R : Int) c (by omega) (by omega) h0 (by omega)
  rw [this, Int.toNat_natCast]
theorem xor_all32 (R : Nat) (hR : R < 4294967296) : bits .xor .u32 IntKind.u32.max (R : Int) = ((R ^^^ 4294967295 : Nat) : Int) := by
  have := u32_xor 4294967295 (R : Int) (by decide) (by decide) (by omega) (by omega)
  rw [show IntKind.u32.max = 4294967295 from rfl, this, Int.toNat_natCast, Nat.xor_comm]
  rfl
theorem xor_all32' (R : Nat) (hR : R < 4294967296) : bits .xor .u32 (R : Int) 4294967295 = ((R ^^^ 4294967295 : Nat) : Int) := by
  have := u32_xor (R : Int) 4294967295 (by omega) (by omega) (by decide) (by decide)
  rw [this, Int.toNat_natCast]
  rfl
theorem xor_half32 (Y : Nat) (hY : Y < 4294967296) : bits .xor .u32 ((Y : Int) / 16) ((iterS 4 (Y % 16) : Nat) : Int) = ((Y / 16 ^^^ iterS 4 (Y % 16) : Nat) : Int) := by
  have h := iterS_lt 4 (r := Y % 16) (by omega)
  have := u32_xor_nat (Y / 16) (iterS 4 (Y % 16)) (by omega) h
  rw [← this]
  congr 1
theorem iterS_half (j X : Nat) : iterS (4 * (j + 1)) X = (iterS (4 * j) X / 16) ^^^ iterS 4 (iterS (4 * j) X % 16) := by
  rw [show 4 * (j + 1) = 4 * j + 4 from by omega, iterS_add, iterS_four]

set_option maxHeartbeats 400000 in
theorem sum_any (w : World) (v : Value) (xs : List Int) (h : Rd w v xs) (hy : Byt xs) : Calls Try.prog 23 #[v] w fun e w' => e = .returned (.int .u32 (sumS xs)) ∧ Below w.heap.size w w' := by
  obtain ⟨a, cap, rfl, hcap, hm, _, hne⟩ := h
  unfold maxLen at hm
  go_enter Try.func23, Try.ntmps23
  go_wp2_with fail
  refine (steps_any _).mono ?_
  rintro e w1 ⟨rfl, hb1⟩
  have hM1 : ((stepRow 16).map (Value.int .u32)).toArray.all (·.oneCell') = true := Array.all_eq_true_iff_forall_mem.2 (fun u hu => ints_oneCell .u32 (stepRow 16) u (by simpa using hu))
  have hst := run_storeCells_new (P := Try.prog) w1 45 #[Value.int .u32 0, Value.int .u32 0, Value.int .u32 0, Value.int .u32 0, Value.int .u32 0, Value.int .u32 0, Value.int .u32 0, Value.int .u32 0, Value.int .u32 0, Value.int .u32 0, Value.int .u32 0, Value.int .u32 0, Value.int .u32 0, Value.int .u32 0, Value.int .u32 0, Value.int .u32 0] ((stepRow 16).map (Value.int .u32)).toArray (by kernel_rfl) rfl hM1
  have htab := cell_steps w1
  have hMs : ((stepRow 16).map (Value.int .u32)).toArray.size = 16 := rfl
  generalize ((stepRow 16).map (Value.int .u32)).toArray = M at *
  clear hM1
  have hbW : Below w.heap.size w (w1.alloc (.cells M 45)) := hb1.alloc hb1.size _
  have hz : w.heap.size ≤ w1.heap.size := hb1.size
  clear hb1
  go_wp2_with fail
  clear hst hMs
  generalize w1.alloc (.cells M 45) = W at *
  generalize w1.heap.size = T at *
  go_loop [4, 10] (fun s t => ∃ i : Nat, i ≤ xs.length ∧ t = .int .i64 i ∧ s = .int .u32 (regS (xs.take i))) (fun _ t => xs.length - (intOf t).toNat)
  case atStart => exact ⟨0, Nat.zero_le _, rfl, rfl⟩
  case round =>
    obtain ⟨i, hi, rfl, rfl⟩ := hrel
    by_cases hlt : i < xs.length
    · obtain ⟨b, off, rfl, hbl, hc⟩ := hne (by intro e; subst e; simp at hlt)
      have hci : W.cell? ⟨b, off + i, none⟩ = some (.int .u8 (xs.getD i 0)) := (hbW.cell (p := ⟨b, off + i, none⟩) hbl).trans (hc i hlt)
      have hR := regS_lt (xs.take i) (hy.take i)
      have HS : Hid _ := regS_take xs i hlt
      obtain ⟨hb0, hb1⟩ := hy.getD i
      generalize xs.getD i 0 = c at *
      generalize regS (xs.take i) = R at *
      clear hc hne
      have hil : (i : Int) < xs.length := by omega
      go_wp2_with fail
      rw [xor_byte32 R c hR hb0 hb1]
      have hX : R ^^^ c.toNat < 4294967296 := xor_lt32 hR (by omega)
      have hby : byteS R c.toNat = iterS 8 (R ^^^ c.toNat) := rfl
      rw [hby] at HS
      clear hby
      generalize R ^^^ c.toNat = X at *
      go_loop [4, 18] (fun s t => ∃ j : Nat, j ≤ 2 ∧ t = .int .i64 j ∧ s = .int .u32 (iterS (4 * j) X)) (fun _ t => 2 - (intOf t).toNat)
      case atStart => exact ⟨0, Nat.zero_le _, rfl, rfl⟩
      case round =>
        obtain ⟨j, hj, rfl, rfl⟩ := hrel
        by_cases hjl : j < 2
        · have hY := iterS_lt (4 * j) hX
          have HY : Hid _ := iterS_half j X
          generalize iterS (4 * j) X = Y at *
          have ht := htab (Y % 16) (by omega)
          clear htab
          go_wp2
          go_round
          case rel => exact ⟨j + 1, by omega, by go_num, by rw [xor_half32 Y hY, HY.out]⟩
          case measure => simp [intOf]; omega
        · obtain rfl : j = 2 := by omega
          go_wp2
          go_round
          case rel => exact ⟨i + 1, by omega, by go_num, by rw [HS.out]⟩
          case measure => simp [intOf]; omega
    · obtain rfl : i = xs.length := by omega
      have HF : Hid _ := xor_all32 (regS xs) (regS_lt xs hy)
      rw [List.take_length]
      go_wp2
      go_ret
      exact ⟨by rw [HF.out]; rfl, hbW⟩
set_option maxHeartbeats 400000 in
theorem refSum_any (w : World) (v : Value) (xs : List Int) (h : Rd w v xs) (hy : Byt xs) : Calls Try.prog 24 #[v] w fun e w' => e = .returned (.int .u32 (sumS xs)) ∧ w = w' := by
  obtain ⟨a, cap, rfl, hcap, hm, _, hne⟩ := h
  unfold maxLen at hm
  go_enter Try.func24, Try.ntmps24
  go_wp2
  go_loop [3, 9] (fun s t => ∃ i : Nat, i ≤ xs.length ∧ t = .int .i64 i ∧ s = .int .u32 (regS (xs.take i))) (fun _ t => xs.length - (intOf t).toNat)
  case atStart => exact ⟨0, Nat.zero_le _, rfl, rfl⟩
  case round =>
    obtain ⟨i, hi, rfl, rfl⟩ := hrel
    by_cases hlt : i < xs.length
    · obtain ⟨b, off, rfl, hbl, hc⟩ := hne (by intro e; subst e; simp at hlt)
      have hci : w.cell? ⟨b, off + i, none⟩ = some (.int .u8 (xs.getD i 0)) := hc i hlt
      have hR := regS_lt (xs.take i) (hy.take i)
      have HS : Hid _ := regS_take xs i hlt
      obtain ⟨hb0, hb1⟩ := hy.getD i
      generalize xs.getD i 0 = c at *
      generalize regS (xs.take i) = R at *
      clear hc hne
      have hil : (i : Int) < xs.length := by omega
      go_wp2_with fail
      rw [xor_byte32 R c hR hb0 hb1]
      have hX : R ^^^ c.toNat < 4294967296 := xor_lt32 hR (by omega)
      have hby : byteS R c.toNat = iterS 8 (R ^^^ c.toNat) := rfl
      rw [hby] at HS
      clear hby
      generalize R ^^^ c.toNat = X at *
      go_loop [3, 6] (fun s t => ∃ j : Nat, j ≤ 8 ∧ t = .int .i64 j ∧ s = .int .u32 (iterS j X)) (fun _ t => 8 - (intOf t).toNat)
      case atStart => exact ⟨0, Nat.zero_le _, rfl, rfl⟩
      case round =>
        obtain ⟨j, hj, rfl, rfl⟩ := hrel
        by_cases hjl : j < 8
        · have hY := iterS_lt j hX
          have HY : Hid _ := iterS_succ j X
          generalize iterS j X = Y at *
          by_cases ho : Y % 2 = 1
          · have HB : Hid (_ = _) := bitS_odd hY ho
            go_wp2
            go_round
            case rel => exact ⟨j + 1, by omega, by go_num, by rw [HB.out, HY.out]⟩
            case measure => simp [intOf]; omega
          · have HB : Hid (_ = _) := bitS_ev ho
            go_wp2
            go_round
            case rel => exact ⟨j + 1, by omega, by go_num, by rw [HB.out, HY.out]⟩
            case measure => simp [intOf]; omega
        · obtain rfl : j = 8 := by omega
          go_wp2
          go_round
          case rel => exact ⟨i + 1, by omega, by go_num, by rw [HS.out]⟩
          case measure => simp [intOf]; omega
    · obtain rfl : i = xs.length := by omega
      have HF : Hid _ := xor_all32' (regS xs) (regS_lt xs hy)
      rw [List.take_length]
      go_wp2
      go_ret
      exact ⟨by rw [HF.out]; rfl, rfl⟩
end Go.Proofs.Ytmpddbnggddmdaa
