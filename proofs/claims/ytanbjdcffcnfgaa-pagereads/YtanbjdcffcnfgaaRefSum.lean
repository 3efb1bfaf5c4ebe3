/- The contract of the document's Sum. -/
import Derived.Test.YtanbjdcffcnfgaaSumMath
import Derived.Test.YtanbjdcffcnfgaaLaws
namespace Go.Proofs.Ytanbjdcffcnfgaa
open Go.RowKit
set_option linter.unusedVariables false
set_option maxRecDepth 4000

set_option maxHeartbeats 400000 in
theorem refSum_any (w : World) (v : Value) (xs : List Int) (h : Rd w v xs) (hy : Byt xs) : Calls Try.prog 66 #[v] w fun e w' => e = .returned (.int .u32 (sumS xs)) ∧ w = w' := by
  obtain ⟨a, cap, rfl, hcap, hm, _, hne⟩ := h
  unfold maxLen at hm
  go_enter Try.func66, Try.ntmps66
  go_wp2
  go_loop [3, 9] (fun s t => ∃ i : Nat, i ≤ xs.length ∧ t = .int .i64 i ∧ s = .int .u32 (regS (xs.take i))) (fun _ t => xs.length - (intOf t).toNat)
  case atStart => exact ⟨0, Nat.zero_le _, rfl, rfl⟩
  case round =>
    obtain ⟨i, hi, rfl, rfl⟩ := hrel
    by_cases hlt : i < xs.length
    · obtain ⟨b, off, rfl, hbl, hc⟩ := hne (by intro e; subst e; simp at hlt)
      have hci : w.cell? ⟨b, off + i, none⟩ = some (.int .u8 (xs.getD i 0)) := hc i hlt
      have hR := regS_lt (xs.take i) (hy.take i)
      have HS : Hid _ := regS_take xs i hlt
      obtain ⟨hb0, hb1⟩ := hy.getD i
      generalize xs.getD i 0 = c at *
      generalize regS (xs.take i) = R at *
      clear hc hne
      have hil : (i : Int) < xs.length := by omega
      go_wp2_with fail
      rw [xor_byte32 R c hR hb0 hb1]
      have hX : R ^^^ c.toNat < 4294967296 := xor_lt32 hR (by omega)
      have hby : byteS R c.toNat = iterS 8 (R ^^^ c.toNat) := rfl
      rw [hby] at HS
      clear hby
      generalize R ^^^ c.toNat = X at *
      go_loop [3, 6] (fun s t => ∃ j : Nat, j ≤ 8 ∧ t = .int .i64 j ∧ s = .int .u32 (iterS j X)) (fun _ t => 8 - (intOf t).toNat)
      case atStart => exact ⟨0, Nat.zero_le _, rfl, rfl⟩
      case round =>
        obtain ⟨j, hj, rfl, rfl⟩ := hrel
        by_cases hjl : j < 8
        · have hY := iterS_lt j hX
          have HY : Hid _ := iterS_succ j X
          generalize iterS j X = Y at *
          by_cases ho : Y % 2 = 1
          · have HB : Hid (_ = _) := bitS_odd hY ho
            go_wp2
            go_round
            case rel => exact ⟨j + 1, by omega, by go_num, by rw [HB.out, HY.out]⟩
            case measure => simp [intOf]; omega
          · have HB : Hid (_ = _) := bitS_ev ho
            go_wp2
            go_round
            case rel => exact ⟨j + 1, by omega, by go_num, by rw [HB.out, HY.out]⟩
            case measure => simp [intOf]; omega
        · obtain rfl : j = 8 := by omega
          go_wp2
          go_round
          case rel => exact ⟨i + 1, by omega, by go_num, by rw [HS.out]⟩
          case measure => simp [intOf]; omega
    · obtain rfl : i = xs.length := by omega
      have HF : Hid _ := xor_all32' (regS xs) (regS_lt xs hy)
      rw [List.take_length]
      go_wp2
      go_ret
      exact ⟨by rw [HF.out]; rfl, rfl⟩

end Go.Proofs.Ytanbjdcffcnfgaa
