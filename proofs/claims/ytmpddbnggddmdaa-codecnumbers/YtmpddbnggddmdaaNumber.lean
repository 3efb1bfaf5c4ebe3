/- The contracts of codec.Number and of the document's Number: the number whose bytes the first ones are, or ErrArg, or ErrShort. -/
import Derived.Test.YtmpddbnggddmdaaRefFixed
import Derived.Laws.BitsAllLaws
namespace Go.Proofs.Ytmpddbnggddmdaa
open Go.RowKit
set_option linter.unusedVariables false

/-- The number of some bytes, the highest one first. -/
def valB (xs : List Int) : Nat := xs.foldl (fun a b => a * 256 + b.toNat) 0
def numE (xs : List Int) (k : Int) : Int := if k < 1 ∨ 8 < k then 1 else if (xs.length : Int) < k then 10 else 0
def numV (xs : List Int) (k : Int) : Int := if numE xs k = 0 then (valB (xs.take k.toNat) : Int) else 0

theorem valB_snoc (xs : List Int) (b : Int) : valB (xs ++ [b]) = valB xs * 256 + b.toNat := by simp [valB]
theorem valB_from (xs : List Int) (h : Byt xs) : ∀ a : Nat, xs.foldl (fun a b => a * 256 + b.toNat) a < (a + 1) * 256 ^ xs.length := by
  induction xs with
  | nil => intro a; simp
  | cons b xs ih =>
    intro a
    have h1 := ih (fun x hx => h x (by simp [hx])) (a * 256 + b.toNat)
    have h2 := h b (by simp)
    rw [List.foldl_cons, List.length_cons, Nat.pow_succ, Nat.mul_comm (256 ^ xs.length) 256, ← Nat.mul_assoc]
    exact Nat.lt_of_lt_of_le h1 (Nat.mul_le_mul_right _ (by omega))
theorem valB_lt (xs : List Int) (h : Byt xs) : valB xs < 256 ^ xs.length := by
  have := valB_from xs h 0
  simpa [valB] using this
theorem valB_take_lt (xs : List Int) (h : Byt xs) (i : Nat) (hi : i ≤ 7) : valB (xs.take i) < 72057594037927936 := by
  have h1 := valB_lt (xs.take i) (h.take i)
  have h2 : (xs.take i).length ≤ 7 := by have := List.length_take_le i xs; omega
  have h3 : 256 ^ (xs.take i).length ≤ 256 ^ 7 := Nat.pow_le_pow_right (by decide) h2
  have h4 : 256 ^ 7 = 72057594037927936 := by decide
  omega
theorem valB_succ (xs : List Int) (i : Nat) (hi : i < xs.length) : valB (xs.take (i + 1)) = valB (xs.take i) * 256 + (xs.getD i 0).toNat := by
  rw [List.take_succ_eq_append_getElem hi, valB_snoc]
  simp [List.getElem?_eq_getElem hi]
theorem or_step (V : Nat) (c : Int) (hV : V < 72057594037927936) (h0 : 0 ≤ c) (h1 : c ≤ 255) : bits .or .u64 ((V : Int) * 256) c = ((V * 256 + c.toNat : Nat) : Int) := by
  obtain ⟨C, rfl⟩ := Int.eq_ofNat_of_zero_le h0
  have e1 : (V : Int) * 256 = ((V * 256 : Nat) : Int) := by omega
  rw [e1, u64_or_nat _ _ (by omega) (by omega), Int.toNat_natCast]
  have := Nat.shiftLeft_add_eq_or_of_lt (i := 8) (b := C) (by omega) V
  rw [Nat.shiftLeft_eq] at this
  rw [← this]
set_option maxHeartbeats 400000 in
theorem number_arg (w : World) (v : Value) (k : Int) (h : k < 1 ∨ 8 < k) : Calls Try.prog 12 #[v, .int .i64 k] w fun e w' => e = .returned (.tuple #[.int .u64 0, .int .i64 1]) ∧ w = w' := by
  go_enter Try.func12, Try.ntmps12
  go_wp2_with (go_at_call 26; refine (mayBe_no _ _ h).mono ?_; rintro e w' ⟨rfl, rfl⟩)
  go_ret2
  exact ⟨rfl, rfl⟩
set_option maxHeartbeats 400000 in
theorem number_short (w : World) (a : Option Addr) (n cap : Nat) (k : Int) (h1 : 1 ≤ k) (h2 : k ≤ 8) (hn : (n : Int) < k) : Calls Try.prog 12 #[.slice a n cap, .int .i64 k] w fun e w' => e = .returned (.tuple #[.int .u64 0, .int .i64 10]) ∧ w = w' := by
  go_enter Try.func12, Try.ntmps12
  go_wp2_with (go_at_call 26; refine (mayBe_yes _ _ h1 h2).mono ?_; rintro e w' ⟨rfl, rfl⟩)
  go_ret2
  exact ⟨rfl, rfl⟩
set_option maxHeartbeats 400000 in
theorem number_fits (w : World) (b off cap k : Nat) (xs : List Int) (hy : Byt xs) (h1 : 1 ≤ k) (h2 : k ≤ 8) (hn : k ≤ xs.length) (hc : ∀ i, i < xs.length → w.cell? ⟨b, off + i, none⟩ = some (.int .u8 (xs.getD i 0))) :
    Calls Try.prog 12 #[.slice (some ⟨b, off, none⟩) xs.length cap, .int .i64 k] w fun e w' => e = .returned (.tuple #[.int .u64 (valB (xs.take k)), .int .i64 0]) ∧ w = w' := by
  have hn' : ¬ (xs.length : Int) < k := by omega
  go_enter Try.func12, Try.ntmps12
  go_wp2_with (go_at_call 26; refine (mayBe_yes _ _ (by omega) (by omega)).mono ?_; rintro e w' ⟨rfl, rfl⟩)
  go_loop [6, 16] (fun s t => ∃ i : Nat, i ≤ k ∧ t = .int .i64 i ∧ s = .int .u64 (valB (xs.take i))) (fun _ t => k - (intOf t).toNat)
  case atStart => exact ⟨0, Nat.zero_le _, rfl, rfl⟩
  case round =>
    obtain ⟨i, hi, rfl, rfl⟩ := hrel
    by_cases hlt : i < k
    · have hci := hc i (by omega)
      have hil : (i : Int) < xs.length := by omega
      obtain ⟨hb0, hb1⟩ := hy.getD i
      have hV := valB_take_lt xs hy i (by omega)
      have hs := valB_succ xs i (by omega)
      generalize xs.getD i 0 = c at *
      generalize valB (xs.take i) = V at *
      have HS : Hid (bits .or .u64 ((V : Int) * 256) c = ((valB (xs.take (i + 1)) : Nat) : Int)) := by
        show _ = _
        rw [hs]; exact or_step V c hV hb0 hb1
      clear hc hs
      go_wp2
      go_round
      case rel => exact ⟨i + 1, by omega, by go_num, by rw [HS.out]⟩
      case measure => simp [intOf]; omega
    · obtain rfl : i = k := by omega
      go_wp2
      go_ret2
      exact ⟨rfl, rfl⟩
set_option maxHeartbeats 400000 in
theorem refNumber_arg (w : World) (v : Value) (k : Int) (h : k < 1 ∨ 8 < k) : Calls Try.prog 13 #[v, .int .i64 k] w fun e w' => e = .returned (.tuple #[.int .u64 0, .int .i64 1]) ∧ w = w' := by
  rcases h with h | h
  · go_enter Try.func13, Try.ntmps13
    go_wp2
    go_ret2
    exact ⟨rfl, rfl⟩
  · have h' : ¬ k < 1 := by omega
    go_enter Try.func13, Try.ntmps13
    go_wp2
    go_ret2
    exact ⟨rfl, rfl⟩
set_option maxHeartbeats 400000 in
theorem refNumber_short (w : World) (a : Option Addr) (n cap : Nat) (k : Int) (h1 : 1 ≤ k) (h2 : k ≤ 8) (hn : (n : Int) < k) : Calls Try.prog 13 #[.slice a n cap, .int .i64 k] w fun e w' => e = .returned (.tuple #[.int .u64 0, .int .i64 10]) ∧ w = w' := by
  have hk1 : ¬ (k : Int) < 1 := by omega
  have hk2 : ¬ 8 < (k : Int) := by omega
  go_enter Try.func13, Try.ntmps13
  go_wp2
  go_ret2
  exact ⟨rfl, rfl⟩
set_option maxHeartbeats 400000 in
theorem refNumber_fits (w : World) (b off cap k : Nat) (xs : List Int) (hy : Byt xs) (h1 : 1 ≤ k) (h2 : k ≤ 8) (hn : k ≤ xs.length) (hcap : xs.length ≤ cap) (hm : cap ≤ maxLen) (hc : ∀ i, i < xs.length → w.cell? ⟨b, off + i, none⟩ = some (.int .u8 (xs.getD i 0))) :
    Calls Try.prog 13 #[.slice (some ⟨b, off, none⟩) xs.length cap, .int .i64 k] w fun e w' => e = .returned (.tuple #[.int .u64 (valB (xs.take k)), .int .i64 0]) ∧ w = w' := by
  unfold maxLen at hm
  have hn' : ¬ (xs.length : Int) < k := by omega
  have hk1 : ¬ (k : Int) < 1 := by omega
  have hk2 : ¬ 8 < (k : Int) := by omega
  go_enter Try.func13, Try.ntmps13
  go_wp2
  go_loop [6, 23] (fun s t => ∃ i : Nat, i ≤ k ∧ t = .int .i64 i ∧ s = .int .u64 (valB (xs.take i))) (fun _ t => k - (intOf t).toNat)
  case atStart => exact ⟨0, Nat.zero_le _, rfl, rfl⟩
  case round =>
    obtain ⟨i, hi, rfl, rfl⟩ := hrel
    by_cases hlt : i < k
    · have hci := hc i (by omega)
      have hil : (i : Int) < xs.length := by omega
      obtain ⟨hb0, hb1⟩ := hy.getD i
      have hV := valB_take_lt xs hy i (by omega)
      have hs := valB_succ xs i (by omega)
      generalize xs.getD i 0 = c at *
      generalize valB (xs.take i) = V at *
      have HS : Hid ((V : Int) * 256 + c = ((valB (xs.take (i + 1)) : Nat) : Int)) := by
        show _ = _
        rw [hs]; omega
      clear hc hs
      go_wp2
      go_round
      case rel => exact ⟨i + 1, by omega, by go_num, by rw [HS.out]⟩
      case measure => simp [intOf]; omega
    · obtain rfl : i = k := by omega
      go_wp2
      go_ret2
      exact ⟨rfl, rfl⟩

theorem number_any (w : World) (v : Value) (xs : List Int) (k : Int) (h : Rd w v xs) (hy : Byt xs) : Calls Try.prog 12 #[v, .int .i64 k] w fun e w' => e = .returned (.tuple #[.int .u64 (numV xs k), .int .i64 (numE xs k)]) ∧ w = w' := by
  by_cases hk : k < 1 ∨ 8 < k
  · have e1 : numE xs k = 1 := if_pos hk
    have e2 : numV xs k = 0 := by unfold numV; rw [e1]; rfl
    rw [e1, e2]
    exact number_arg w v k hk
  · obtain ⟨a, cap, rfl, hcap, hm, _, hne⟩ := h
    by_cases hs : (xs.length : Int) < k
    · have e1 : numE xs k = 10 := by unfold numE; rw [if_neg hk, if_pos hs]
      have e2 : numV xs k = 0 := by unfold numV; rw [e1]; rfl
      rw [e1, e2]
      exact number_short w a _ cap k (by omega) (by omega) hs
    · have e1 : numE xs k = 0 := by unfold numE; rw [if_neg hk, if_neg hs]
      have e2 : numV xs k = valB (xs.take k.toNat) := by unfold numV; rw [e1]; rfl
      rw [e1, e2]
      obtain ⟨K, rfl⟩ := Int.eq_ofNat_of_zero_le (show 0 ≤ k by omega)
      obtain ⟨b, off, rfl, _, hc⟩ := hne (by intro e; subst e; simp at hs; omega)
      exact number_fits w b off cap K xs hy (by omega) (by omega) (by omega) hc
theorem refNumber_any (w : World) (v : Value) (xs : List Int) (k : Int) (h : Rd w v xs) (hy : Byt xs) : Calls Try.prog 13 #[v, .int .i64 k] w fun e w' => e = .returned (.tuple #[.int .u64 (numV xs k), .int .i64 (numE xs k)]) ∧ w = w' := by
  by_cases hk : k < 1 ∨ 8 < k
  · have e1 : numE xs k = 1 := if_pos hk
    have e2 : numV xs k = 0 := by unfold numV; rw [e1]; rfl
    rw [e1, e2]
    exact refNumber_arg w v k hk
  · obtain ⟨a, cap, rfl, hcap, hm, _, hne⟩ := h
    by_cases hs : (xs.length : Int) < k
    · have e1 : numE xs k = 10 := by unfold numE; rw [if_neg hk, if_pos hs]
      have e2 : numV xs k = 0 := by unfold numV; rw [e1]; rfl
      rw [e1, e2]
      exact refNumber_short w a _ cap k (by omega) (by omega) hs
    · have e1 : numE xs k = 0 := by unfold numE; rw [if_neg hk, if_neg hs]
      have e2 : numV xs k = valB (xs.take k.toNat) := by unfold numV; rw [e1]; rfl
      rw [e1, e2]
      obtain ⟨K, rfl⟩ := Int.eq_ofNat_of_zero_le (show 0 ≤ k by omega)
      obtain ⟨b, off, rfl, _, hc⟩ := hne (by intro e; subst e; simp at hs; omega)
      exact refNumber_fits w b off cap K xs hy (by omega) (by omega) (by omega) hcap hm hc
end Go.Proofs.Ytmpddbnggddmdaa
