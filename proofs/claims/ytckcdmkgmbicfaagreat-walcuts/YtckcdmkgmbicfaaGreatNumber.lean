/- The contract of codec.Number. -/
import Derived.Test.YtckcdmkgmbicfaaGreatFixed
namespace Go.Proofs.YtckcdmkgmbicfaaGreat
open Go.RowKit
set_option linter.unusedVariables false
set_option maxRecDepth 4000

set_option maxHeartbeats 400000 in
theorem number_arg (w : World) (v : Value) (k : Int) (h : k < 1 ∨ 8 < k) : Calls Tryz.prog 108 #[v, .int .i64 k] w fun e w' => e = .returned (.tuple #[.int .u64 0, .int .i64 1]) ∧ w = w' := by
  go_enter Tryz.func108, Tryz.ntmps108
  go_wp2_with (go_at_call 125; refine (mayBe_no _ _ h).mono ?_; rintro e w' ⟨rfl, rfl⟩)
  go_ret2
  exact ⟨rfl, rfl⟩

set_option maxHeartbeats 400000 in
theorem number_short (w : World) (a : Option Addr) (n cap : Nat) (k : Int) (h1 : 1 ≤ k) (h2 : k ≤ 8) (hn : (n : Int) < k) : Calls Tryz.prog 108 #[.slice a n cap, .int .i64 k] w fun e w' => e = .returned (.tuple #[.int .u64 0, .int .i64 10]) ∧ w = w' := by
  go_enter Tryz.func108, Tryz.ntmps108
  go_wp2_with (go_at_call 125; refine (mayBe_yes _ _ h1 h2).mono ?_; rintro e w' ⟨rfl, rfl⟩)
  go_ret2
  exact ⟨rfl, rfl⟩

set_option maxHeartbeats 400000 in
theorem number_fits (w : World) (b off cap k : Nat) (xs : List Int) (hy : Byt xs) (h1 : 1 ≤ k) (h2 : k ≤ 8) (hn : k ≤ xs.length) (hc : ∀ i, i < xs.length → w.cell? ⟨b, off + i, none⟩ = some (.int .u8 (xs.getD i 0))) :
    Calls Tryz.prog 108 #[.slice (some ⟨b, off, none⟩) xs.length cap, .int .i64 k] w fun e w' => e = .returned (.tuple #[.int .u64 (valB (xs.take k)), .int .i64 0]) ∧ w = w' := by
  have hn' : ¬ (xs.length : Int) < k := by omega
  go_enter Tryz.func108, Tryz.ntmps108
  go_wp2_with (go_at_call 125; refine (mayBe_yes _ _ (by omega) (by omega)).mono ?_; rintro e w' ⟨rfl, rfl⟩)
  go_loop [6, 16] (fun s t => ∃ i : Nat, i ≤ k ∧ t = .int .i64 i ∧ s = .int .u64 (valB (xs.take i))) (fun _ t => k - (intOf t).toNat)
  case atStart => exact ⟨0, Nat.zero_le _, rfl, rfl⟩
  case round =>
    obtain ⟨i, hi, rfl, rfl⟩ := hrel
    by_cases hlt : i < k
    · have hci := hc i (by omega)
      have hil : (i : Int) < xs.length := by omega
      obtain ⟨hb0, hb1⟩ := hy.getD i
      have hV := valB_take_lt xs hy i (by omega)
      have hs := valB_succ xs i (by omega)
      generalize xs.getD i 0 = c at *
      generalize valB (xs.take i) = V at *
      have HS : Hid (bits .or .u64 ((V : Int) * 256) c = ((valB (xs.take (i + 1)) : Nat) : Int)) := by
        show _ = _
        rw [hs]; exact or_step V c hV hb0 hb1
      clear hc hs
      go_wp2
      go_round
      case rel => exact ⟨i + 1, by omega, by go_num, by rw [HS.out]⟩
      case measure => simp [intOf]; omega
    · obtain rfl : i = k := by omega
      go_wp2
      go_ret2
      exact ⟨rfl, rfl⟩

theorem number_any (w : World) (v : Value) (xs : List Int) (k : Int) (h : Rd w v xs) (hy : Byt xs) : Calls Tryz.prog 108 #[v, .int .i64 k] w fun e w' => e = .returned (.tuple #[.int .u64 (numV xs k), .int .i64 (numE xs k)]) ∧ w = w' := by
  by_cases hk : k < 1 ∨ 8 < k
  · have e1 : numE xs k = 1 := if_pos hk
    have e2 : numV xs k = 0 := by unfold numV; rw [e1]; rfl
    rw [e1, e2]
    exact number_arg w v k hk
  · obtain ⟨a, cap, rfl, hcap, hm, _, hne⟩ := h
    by_cases hs : (xs.length : Int) < k
    · have e1 : numE xs k = 10 := by unfold numE; rw [if_neg hk, if_pos hs]
      have e2 : numV xs k = 0 := by unfold numV; rw [e1]; rfl
      rw [e1, e2]
      exact number_short w a _ cap k (by omega) (by omega) hs
    · have e1 : numE xs k = 0 := by unfold numE; rw [if_neg hk, if_neg hs]
      have e2 : numV xs k = valB (xs.take k.toNat) := by unfold numV; rw [e1]; rfl
      rw [e1, e2]
      obtain ⟨K, rfl⟩ := Int.eq_ofNat_of_zero_le (show 0 ≤ k by omega)
      obtain ⟨b, off, rfl, _, hc⟩ := hne (by intro e; subst e; simp at hs; omega)
      exact number_fits w b off cap K xs hy (by omega) (by omega) (by omega) hc

end Go.Proofs.YtckcdmkgmbicfaaGreat
