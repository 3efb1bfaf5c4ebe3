/- The contract of the examples of numbers: they come out true. -/
import Derived.Test.YtmpddbnggddmdaaNumber
namespace Go.Proofs.Ytmpddbnggddmdaa
open Go.RowKit
set_option linter.unusedVariables false

theorem valB_fixB (N k : Nat) (h : N < 256 ^ k) : valB (fixB N k) = N := by
  suffices hs : ∀ k N, valB (fixB N k) = N % 256 ^ k by rw [hs, Nat.mod_eq_of_lt h]
  clear h N k
  intro k
  induction k with
  | zero => intro N; simp [fixB, valB, Nat.mod_one]
  | succ k ih =>
    intro N
    have e : fixB N (k + 1) = fixB (N / 256) k ++ [((N % 256 : Nat) : Int)] := by
      apply List.ext_getElem
      · simp [fixB]
      · intro p h1 h2
        simp only [fixB, List.length_map, List.length_range] at h1
        rw [List.getElem_append]
        by_cases hp : p < k
        · rw [dif_pos (by simpa [fixB] using hp)]
          simp only [fixB, List.getElem_map, List.getElem_range, dig]
          rw [show 8 * (k + 1 - 1 - p) = 8 + 8 * (k - 1 - p) from by omega, Nat.pow_add, ← Nat.div_div_eq_div_mul]
        · rw [dif_neg (by simpa [fixB] using hp)]
          obtain rfl : p = k := by omega
          simp [fixB, dig]
    rw [e, valB_snoc, ih, Int.toNat_natCast, Nat.pow_succ, Nat.mul_comm (256 ^ k) 256, Nat.mod_mul]
    omega

theorem fixE_width {n k : Int} (h : fixE n k = 0) : 1 ≤ k ∧ k ≤ 8 := by
  unfold fixE at h
  by_cases hk : k < 1 ∨ 8 < k
  · rw [if_pos hk] at h; cases h
  · omega
theorem fixE_fits {n k : Int} (h0 : 0 ≤ n) (h : fixE n k = 0) : n.toNat < 256 ^ k.toNat := by
  have hk := fixE_width h
  obtain ⟨N, rfl⟩ := Int.eq_ofNat_of_zero_le h0
  obtain ⟨K, rfl⟩ := Int.eq_ofNat_of_zero_le (show 0 ≤ k by omega)
  unfold fixE at h
  rw [if_neg (by omega)] at h
  cases hl : ((N : Int) / 2 ^ (8 * K) != 0) with
  | true => rw [Int.toNat_natCast, if_pos hl] at h; cases h
  | false =>
    have hz : (N : Int) / 2 ^ (8 * K) = 0 := bne_eq_false_iff_eq.1 hl
    rw [div_nat] at hz
    have hz' : N / 2 ^ (8 * K) = 0 := by omega
    rw [Int.toNat_natCast, Int.toNat_natCast, show (256 : Nat) = 2 ^ 8 from rfl, ← Nat.pow_mul]
    exact (Nat.div_eq_zero_iff_lt (Nat.pow_pos (by decide))).1 hz'
theorem back_num {n k : Int} (ys : List Int) (hk : 1 ≤ k ∧ k ≤ 8) (hn : n.toNat < 256 ^ k.toNat) : Hid (numV (fixB n.toNat k.toNat ++ ys) k = n.toNat ∧ numE (fixB n.toNat k.toNat ++ ys) k = 0) := by
  have hl := fixB_length n.toNat k.toNat
  have e1 : numE (fixB n.toNat k.toNat ++ ys) k = 0 := by
    unfold numE
    rw [if_neg (by omega), if_neg (by rw [List.length_append]; omega)]
  refine ⟨?_, e1⟩
  unfold numV
  rw [if_pos e1, List.take_append_of_le_length (by omega), List.take_of_length_le (by omega), valB_fixB _ _ hn]

set_option maxHeartbeats 1000000 in
theorem numbers_any (w : World) : Calls Try.prog 9 #[] w fun e w' => e = .returned (.bool true) ∧ Below w.heap.size w w' := by
  go_enter Try.func9, Try.ntmps9
  go_wp2_with fail
  refine (fixed_any _ 258 2 (by decide) (by decide)).mono ?_
  rintro e w1 ⟨v1, rfl, ho1, hb1⟩
  go_wp2_with fail
  refine (fixed_any _ 256 1 (by decide) (by decide)).mono ?_
  rintro e w2 ⟨v2, rfl, _, hb2⟩
  go_wp2_with fail
  refine (fixed_any _ 1 9 (by decide) (by decide)).mono ?_
  rintro e w3 ⟨v3, rfl, _, hb3⟩
  have ho3 := (ho1.below hb2).below hb3
  have hb : Below w.heap.size w w3 := (hb1.trans (hb2.mono hb1.size)).trans (hb3.mono (Nat.le_trans hb1.size hb2.size))
  clear ho1 hb1 hb2 hb3
  go_wp2_with fail
  refine (number_any _ _ [1, 2, 3] 2 ?_ ?_).mono ?_
  · exact Rd.laid (cs := #[.int .u8 1, .int .u8 2, .int .u8 3]) (by rfl) (by decide) rfl
  · unfold Byt; decide
  rintro e w4 ⟨rfl, rfl⟩
  have hb4 : Below w3.heap.size w3 (w3.alloc (.cells #[.int .u8 1, .int .u8 2, .int .u8 3] 5)) := (Below.refl _ _).alloc (Nat.le_refl _) _
  have hcv := (ho3.below hb4).rd.conv
  have e1 : strOfNums (fixL 258 2) = ⟨#[1, 2]⟩ := by decide
  have e2 : fixE 258 2 = 0 := by decide
  have e3 : fixE 256 1 = 2 := by decide
  have e4 : fixE 1 9 = 1 := by decide
  have e5 : numV [1, 2, 3] 2 = 258 := by decide
  have e6 : numE [1, 2, 3] 2 = 0 := by decide
  rw [e1] at hcv
  rw [e2, e3, e4, e5, e6]
  have hbb := hb.trans (hb4.mono hb.size)
  clear e1 e2 e3 e4 e5 e6 ho3 hb hb4
  go_wp2
  go_ret
  exact ⟨rfl, hbb⟩
end Go.Proofs.Ytmpddbnggddmdaa
