/- The contracts of the document's CheckInode, fixed, number. -/
import Derived.Test.YtflkbcdeogdodaaIWrite
import Derived.Test.YtflkbcdeogdodaaIRead
import Derived.Test.YtflkbcdeogdodaaRefFixed
namespace Go.Proofs.Ytflkbcdeogdodaa
open Go.RowKit
set_option linter.unusedVariables false


set_option maxHeartbeats 1000000 in
theorem refCheck_m01 (w : World) (m l s : Int) (hm : m < 0) : Calls Try.prog 12 #[.agg #[.int .i64 1, .int .i64 m, .int .i64 l, .int .i64 s]] w fun e w' => e = .returned (.int .i64 11) ∧ Below w.heap.size w w' := by
  go_enter Try.func12, Try.ntmps12
  go_wp2
  go_ret
  exact ⟨rfl, (Below.refl _ w).alloc (Nat.le_refl _) _⟩

set_option maxHeartbeats 1000000 in
theorem refCheck_m02 (w : World) (m l s : Int) (hm : m < 0) : Calls Try.prog 12 #[.agg #[.int .i64 2, .int .i64 m, .int .i64 l, .int .i64 s]] w fun e w' => e = .returned (.int .i64 11) ∧ Below w.heap.size w w' := by
  go_enter Try.func12, Try.ntmps12
  go_wp2
  go_ret
  exact ⟨rfl, (Below.refl _ w).alloc (Nat.le_refl _) _⟩

set_option maxHeartbeats 1000000 in
theorem refCheck_m0k (w : World) (k m l s : Int) (hm : m < 0) (h1 : k ≠ 1) (h2 : k ≠ 2) : Calls Try.prog 12 #[.agg #[.int .i64 k, .int .i64 m, .int .i64 l, .int .i64 s]] w fun e w' => e = .returned (.int .i64 11) ∧ Below w.heap.size w w' := by
  go_enter Try.func12, Try.ntmps12
  go_wp2
  go_ret
  exact ⟨rfl, (Below.refl _ w).alloc (Nat.le_refl _) _⟩

set_option maxHeartbeats 1000000 in
theorem refCheck_m11 (w : World) (m l s : Int) (hm : 511 < m) : Calls Try.prog 12 #[.agg #[.int .i64 1, .int .i64 m, .int .i64 l, .int .i64 s]] w fun e w' => e = .returned (.int .i64 11) ∧ Below w.heap.size w w' := by
  go_enter Try.func12, Try.ntmps12
  go_wp2
  go_ret
  exact ⟨rfl, (Below.refl _ w).alloc (Nat.le_refl _) _⟩

set_option maxHeartbeats 1000000 in
theorem refCheck_m12 (w : World) (m l s : Int) (hm : 511 < m) : Calls Try.prog 12 #[.agg #[.int .i64 2, .int .i64 m, .int .i64 l, .int .i64 s]] w fun e w' => e = .returned (.int .i64 11) ∧ Below w.heap.size w w' := by
  go_enter Try.func12, Try.ntmps12
  go_wp2
  go_ret
  exact ⟨rfl, (Below.refl _ w).alloc (Nat.le_refl _) _⟩

set_option maxHeartbeats 1000000 in
theorem refCheck_m1k (w : World) (k m l s : Int) (hm : 511 < m) (h1 : k ≠ 1) (h2 : k ≠ 2) : Calls Try.prog 12 #[.agg #[.int .i64 k, .int .i64 m, .int .i64 l, .int .i64 s]] w fun e w' => e = .returned (.int .i64 11) ∧ Below w.heap.size w w' := by
  go_enter Try.func12, Try.ntmps12
  go_wp2
  go_ret
  exact ⟨rfl, (Below.refl _ w).alloc (Nat.le_refl _) _⟩

set_option maxHeartbeats 1000000 in
theorem refCheck_a (w : World) (m l s : Int) (hm0 : 0 ≤ m) (hm1 : m ≤ 511) (hl : l < 1) : Calls Try.prog 12 #[.agg #[.int .i64 1, .int .i64 m, .int .i64 l, .int .i64 s]] w fun e w' => e = .returned (.int .i64 11) ∧ Below w.heap.size w w' := by
  go_enter Try.func12, Try.ntmps12
  go_wp2
  go_ret
  exact ⟨rfl, (Below.refl _ w).alloc (Nat.le_refl _) _⟩

set_option maxHeartbeats 1000000 in
theorem refCheck_b (w : World) (m l s : Int) (hm0 : 0 ≤ m) (hm1 : m ≤ 511) (hl0 : 1 ≤ l) (hl : 15 < l) : Calls Try.prog 12 #[.agg #[.int .i64 1, .int .i64 m, .int .i64 l, .int .i64 s]] w fun e w' => e = .returned (.int .i64 11) ∧ Below w.heap.size w w' := by
  go_enter Try.func12, Try.ntmps12
  go_wp2
  go_ret
  exact ⟨rfl, (Below.refl _ w).alloc (Nat.le_refl _) _⟩

set_option maxHeartbeats 1000000 in
theorem refCheck_c (w : World) (m l s : Int) (hm0 : 0 ≤ m) (hm1 : m ≤ 511) (hl0 : 1 ≤ l) (hl1 : l ≤ 15) (hs : s < 0) : Calls Try.prog 12 #[.agg #[.int .i64 1, .int .i64 m, .int .i64 l, .int .i64 s]] w fun e w' => e = .returned (.int .i64 11) ∧ Below w.heap.size w w' := by
  go_enter Try.func12, Try.ntmps12
  go_wp2
  go_ret
  exact ⟨rfl, (Below.refl _ w).alloc (Nat.le_refl _) _⟩

set_option maxHeartbeats 1000000 in
theorem refCheck_d (w : World) (m l s : Int) (hm0 : 0 ≤ m) (hm1 : m ≤ 511) (hl0 : 1 ≤ l) (hl1 : l ≤ 15) (hs0 : 0 ≤ s) (hs : 512 < s) : Calls Try.prog 12 #[.agg #[.int .i64 1, .int .i64 m, .int .i64 l, .int .i64 s]] w fun e w' => e = .returned (.int .i64 11) ∧ Below w.heap.size w w' := by
  have hsd : decide (s ≤ 512) = false := decide_eq_false (by omega)
  go_enter Try.func12, Try.ntmps12
  go_wp2
  go_ret
  exact ⟨rfl, (Below.refl _ w).alloc (Nat.le_refl _) _⟩

set_option maxHeartbeats 1000000 in
theorem refCheck_e (w : World) (m l s : Int) (hm0 : 0 ≤ m) (hm1 : m ≤ 511) (hl0 : 1 ≤ l) (hl1 : l ≤ 15) (hs0 : 0 ≤ s) (hs : s ≤ 512) : Calls Try.prog 12 #[.agg #[.int .i64 1, .int .i64 m, .int .i64 l, .int .i64 s]] w fun e w' => e = .returned (.int .i64 0) ∧ Below w.heap.size w w' := by
  go_enter Try.func12, Try.ntmps12
  go_wp2
  go_ret
  exact ⟨rfl, (Below.refl _ w).alloc (Nat.le_refl _) _⟩

set_option maxHeartbeats 1000000 in
theorem refCheck_f (w : World) (m l s : Int) (hm0 : 0 ≤ m) (hm1 : m ≤ 511) (hl : l ≠ 1) : Calls Try.prog 12 #[.agg #[.int .i64 2, .int .i64 m, .int .i64 l, .int .i64 s]] w fun e w' => e = .returned (.int .i64 11) ∧ Below w.heap.size w w' := by
  go_enter Try.func12, Try.ntmps12
  go_wp2
  go_ret
  exact ⟨rfl, (Below.refl _ w).alloc (Nat.le_refl _) _⟩

set_option maxHeartbeats 1000000 in
theorem refCheck_g (w : World) (m l s : Int) (hm0 : 0 ≤ m) (hm1 : m ≤ 511) (hl : l = 1) (hs : s ≠ 0) : Calls Try.prog 12 #[.agg #[.int .i64 2, .int .i64 m, .int .i64 l, .int .i64 s]] w fun e w' => e = .returned (.int .i64 11) ∧ Below w.heap.size w w' := by
  have hsb : (s == 0) = false := by rw [beq_eq_false_iff_ne]; exact hs
  go_enter Try.func12, Try.ntmps12
  go_wp2
  go_ret
  exact ⟨rfl, (Below.refl _ w).alloc (Nat.le_refl _) _⟩

set_option maxHeartbeats 1000000 in
theorem refCheck_h (w : World) (m l s : Int) (hm0 : 0 ≤ m) (hm1 : m ≤ 511) (hl : l = 1) (hs : s = 0) : Calls Try.prog 12 #[.agg #[.int .i64 2, .int .i64 m, .int .i64 l, .int .i64 s]] w fun e w' => e = .returned (.int .i64 0) ∧ Below w.heap.size w w' := by
  go_enter Try.func12, Try.ntmps12
  go_wp2
  go_ret
  exact ⟨rfl, (Below.refl _ w).alloc (Nat.le_refl _) _⟩

set_option maxHeartbeats 1000000 in
theorem refCheck_i (w : World) (k m l s : Int) (hm0 : 0 ≤ m) (hm1 : m ≤ 511) (h1 : k ≠ 1) (h2 : k ≠ 2) : Calls Try.prog 12 #[.agg #[.int .i64 k, .int .i64 m, .int .i64 l, .int .i64 s]] w fun e w' => e = .returned (.int .i64 11) ∧ Below w.heap.size w w' := by
  go_enter Try.func12, Try.ntmps12
  go_wp2
  go_ret
  exact ⟨rfl, (Below.refl _ w).alloc (Nat.le_refl _) _⟩


theorem inoE_is (k m l s : Int) : inoE k m l s = if (0 ≤ m ∧ m ≤ 511) ∧ ((k = 1 ∧ (1 ≤ l ∧ l ≤ 15) ∧ 0 ≤ s ∧ s ≤ 512) ∨ (k = 2 ∧ l = 1 ∧ s = 0)) then 0 else 11 := by
  unfold inoE inoOk
  by_cases h1 : k = 1
  · subst h1
    simp [inB]
  · by_cases h2 : k = 2
    · subst h2
      simp [inB]
    · simp [inB, h1, h2]

theorem refCheck_any (w : World) (k m l s : Int) : Calls Try.prog 12 #[.agg #[.int .i64 k, .int .i64 m, .int .i64 l, .int .i64 s]] w fun e w' => e = .returned (.int .i64 (inoE k m l s)) ∧ Below w.heap.size w w' := by
  rw [inoE_is]
  by_cases h1 : k = 1
  · subst h1
    by_cases a : m < 0
    · rw [if_neg (by omega)]; exact refCheck_m01 w m l s a
    · by_cases b : 511 < m
      · rw [if_neg (by omega)]; exact refCheck_m11 w m l s b
      · by_cases c : l < 1
        · rw [if_neg (by omega)]; exact refCheck_a w m l s (by omega) (by omega) c
        · by_cases d : 15 < l
          · rw [if_neg (by omega)]; exact refCheck_b w m l s (by omega) (by omega) (by omega) d
          · by_cases e : s < 0
            · rw [if_neg (by omega)]; exact refCheck_c w m l s (by omega) (by omega) (by omega) (by omega) e
            · by_cases f : 512 < s
              · rw [if_neg (by omega)]; exact refCheck_d w m l s (by omega) (by omega) (by omega) (by omega) (by omega) f
              · rw [if_pos (by omega)]; exact refCheck_e w m l s (by omega) (by omega) (by omega) (by omega) (by omega) (by omega)
  · by_cases h2 : k = 2
    · subst h2
      by_cases a : m < 0
      · rw [if_neg (by omega)]; exact refCheck_m02 w m l s a
      · by_cases b : 511 < m
        · rw [if_neg (by omega)]; exact refCheck_m12 w m l s b
        · by_cases c : l = 1
          · by_cases d : s = 0
            · rw [if_pos (by omega)]; exact refCheck_h w m l s (by omega) (by omega) c d
            · rw [if_neg (by omega)]; exact refCheck_g w m l s (by omega) (by omega) c d
          · rw [if_neg (by omega)]; exact refCheck_f w m l s (by omega) (by omega) c
    · rw [if_neg (by omega)]
      by_cases a : m < 0
      · exact refCheck_m0k w k m l s a h1 h2
      · by_cases b : 511 < m
        · exact refCheck_m1k w k m l s b h1 h2
        · exact refCheck_i w k m l s (by omega) (by omega) h1 h2

set_option maxHeartbeats 1000000 in
/-- The document's 'fixed': a number's bytes behind what stands. -/
theorem refFix_any (w : World) (B : Nat) (v : Value) (xs : List Int) (n : Int) (k : Nat) (ho : Own w B v xs) (hB : B ≤ w.heap.size) (hx : xs.length ≤ 1000) (h1 : 1 ≤ k) (h2 : k ≤ 8) (h0 : 0 ≤ n) (hn : n < 2 ^ (8 * k)) (h63 : n < 2 ^ 63) :
    Calls Try.prog 20 #[v, .int .i64 n, .int .i64 k] w fun e w' => ∃ v', e = .returned v' ∧ Own w' B v' (xs ++ fixB n.toNat k) ∧ Below B w w' := by
  have hL := fixL_in n k h1 h2 h0 hn
  have HW : IntKind.u64.wrap n = n := by rw [IntKind.wrap_u64]; omega
  go_enter Try.func20, Try.ntmps20
  go_wp2_with fail
  refine (refFixed_any _ n k h0 (by omega)).mono ?_
  rintro e w1 ⟨v1, rfl, ho1, hb1⟩
  rw [hL] at ho1
  have ho' := ho.below hb1
  have hsz := hb1.size
  go_wp2_with (at_builtin; refine wpList_append_rd rfl _ _ rfl B _ _ rfl ho' _ _ rfl ho1.rd ?c1 ?c2 ?_)
  case c1 => rw [fixB_length]; omega
  case c2 => omega
  intro v3 w3 ho3 hg3
  go_wp2
  go_ret
  exact ⟨_, rfl, ho3, below_grown (hb1.mono hB) (by omega) ho' hg3⟩

set_option maxHeartbeats 1000000 in
theorem refNum_any (w : World) (s : ByteArray) (hs : s.size ≤ 4) : Calls Try.prog 23 #[.string s] w fun e w' => e = .returned (.int .i64 (valB (strB s))) ∧ w = w' := by
  have hlen := strB_length s
  have hy := strB_byt s
  go_enter Try.func23, Try.ntmps23
  go_wp2
  go_loop [3, 4] (fun n t => ∃ i : Nat, i ≤ s.size ∧ t = .int .i64 i ∧ n = .int .i64 (valB ((strB s).take i))) (fun _ t => s.size - (intOf t).toNat)
  case atStart => exact ⟨0, Nat.zero_le _, rfl, rfl⟩
  case round =>
    obtain ⟨i, hi, rfl, rfl⟩ := hrel
    by_cases hlt : i < s.size
    · have hV := valB_small ((strB s).take i) (hy.take i) 4 (by simp; omega) (by omega)
      have hsu := valB_succ (strB s) i (by omega)
      have hb : ((strB s).getD i 0) = ((s[i]'hlt).toNat : Int) := by
        rw [List.getD_eq_getElem?_getD, List.getElem?_eq_getElem (by omega)]
        simp [strB]
        rfl
      rw [hb, Int.toNat_natCast] at hsu
      have hbl := (s[i]'hlt).toNat_lt
      have HS : Hid (valB ((strB s).take (i + 1)) = valB ((strB s).take i) * 256 + (s[i]'hlt).toNat) := hsu
      generalize valB ((strB s).take i) = V at *
      clear hb hsu hy hlen
      go_wp2
      go_round
      case rel => exact ⟨i + 1, by omega, by go_num, by rw [HS.out]; go_num⟩
      case measure => simp [intOf]; omega
    · obtain rfl : i = s.size := by omega
      have HT : Hid ((strB s).take s.size = strB s) := by unfold Hid; rw [← hlen, List.take_length]
      rw [HT.out]
      go_wp2
      go_ret
      exact ⟨rfl, rfl⟩

end Go.Proofs.Ytflkbcdeogdodaa
