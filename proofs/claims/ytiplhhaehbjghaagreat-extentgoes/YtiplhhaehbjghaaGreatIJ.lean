/- JChk, RefFixed, JSmall, ILive, ILaw, JEncode, IMath, JDecode: in one text. -/
import Derived.Test.YtiplhhaehbjghaaGreatM1
import Derived.Test.YtiplhhaehbjghaaGreatI1
import Derived.Test.YtiplhhaehbjghaaGreatIW
import Derived.Test.YtiplhhaehbjghaaGreatI2
import Derived.Deep.RegionHeld3
namespace Go.Proofs.YtiplhhaehbjghaaGreat
open Go.RowKit
set_option linter.unusedVariables false
set_option maxHeartbeats 32000000
set_option maxRecDepth 100000
set_option linter.unusedSimpArgs false
theorem refCheck_m01 (w : World) (m l s : Int) (hm : m < 0) : Calls Tryz.prog 89 #[.agg #[.int .i64 1, .int .i64 m, .int .i64 l, .int .i64 s]] w fun e w' => e = .returned (.int .i64 11) ∧ Below w.heap.size w w' := by
 go_enter Tryz.func89, Tryz.ntmps89
 go_wp2
 go_ret
 exact ⟨rfl, (Below.refl _ w).alloc (Nat.le_refl _) _⟩
theorem refCheck_m02 (w : World) (m l s : Int) (hm : m < 0) : Calls Tryz.prog 89 #[.agg #[.int .i64 2, .int .i64 m, .int .i64 l, .int .i64 s]] w fun e w' => e = .returned (.int .i64 11) ∧ Below w.heap.size w w' := by
 go_enter Tryz.func89, Tryz.ntmps89
 go_wp2
 go_ret
 exact ⟨rfl, (Below.refl _ w).alloc (Nat.le_refl _) _⟩
theorem refCheck_m0k (w : World) (k m l s : Int) (hm : m < 0) (h1 : k ≠ 1) (h2 : k ≠ 2) : Calls Tryz.prog 89 #[.agg #[.int .i64 k, .int .i64 m, .int .i64 l, .int .i64 s]] w fun e w' => e = .returned (.int .i64 11) ∧ Below w.heap.size w w' := by
 go_enter Tryz.func89, Tryz.ntmps89
 go_wp2
 go_ret
 exact ⟨rfl, (Below.refl _ w).alloc (Nat.le_refl _) _⟩
theorem refCheck_m11 (w : World) (m l s : Int) (hm : 511 < m) : Calls Tryz.prog 89 #[.agg #[.int .i64 1, .int .i64 m, .int .i64 l, .int .i64 s]] w fun e w' => e = .returned (.int .i64 11) ∧ Below w.heap.size w w' := by
 go_enter Tryz.func89, Tryz.ntmps89
 go_wp2
 go_ret
 exact ⟨rfl, (Below.refl _ w).alloc (Nat.le_refl _) _⟩
theorem refCheck_m12 (w : World) (m l s : Int) (hm : 511 < m) : Calls Tryz.prog 89 #[.agg #[.int .i64 2, .int .i64 m, .int .i64 l, .int .i64 s]] w fun e w' => e = .returned (.int .i64 11) ∧ Below w.heap.size w w' := by
 go_enter Tryz.func89, Tryz.ntmps89
 go_wp2
 go_ret
 exact ⟨rfl, (Below.refl _ w).alloc (Nat.le_refl _) _⟩
theorem refCheck_m1k (w : World) (k m l s : Int) (hm : 511 < m) (h1 : k ≠ 1) (h2 : k ≠ 2) : Calls Tryz.prog 89 #[.agg #[.int .i64 k, .int .i64 m, .int .i64 l, .int .i64 s]] w fun e w' => e = .returned (.int .i64 11) ∧ Below w.heap.size w w' := by
 go_enter Tryz.func89, Tryz.ntmps89
 go_wp2
 go_ret
 exact ⟨rfl, (Below.refl _ w).alloc (Nat.le_refl _) _⟩
theorem refCheck_a (w : World) (m l s : Int) (hm0 : 0 ≤ m) (hm1 : m ≤ 511) (hl : l < 1) : Calls Tryz.prog 89 #[.agg #[.int .i64 1, .int .i64 m, .int .i64 l, .int .i64 s]] w fun e w' => e = .returned (.int .i64 11) ∧ Below w.heap.size w w' := by
 go_enter Tryz.func89, Tryz.ntmps89
 go_wp2
 go_ret
 exact ⟨rfl, (Below.refl _ w).alloc (Nat.le_refl _) _⟩
theorem refCheck_b (w : World) (m l s : Int) (hm0 : 0 ≤ m) (hm1 : m ≤ 511) (hl0 : 1 ≤ l) (hl : 15 < l) : Calls Tryz.prog 89 #[.agg #[.int .i64 1, .int .i64 m, .int .i64 l, .int .i64 s]] w fun e w' => e = .returned (.int .i64 11) ∧ Below w.heap.size w w' := by
 go_enter Tryz.func89, Tryz.ntmps89
 go_wp2
 go_ret
 exact ⟨rfl, (Below.refl _ w).alloc (Nat.le_refl _) _⟩
theorem refCheck_c (w : World) (m l s : Int) (hm0 : 0 ≤ m) (hm1 : m ≤ 511) (hl0 : 1 ≤ l) (hl1 : l ≤ 15) (hs : s < 0) : Calls Tryz.prog 89 #[.agg #[.int .i64 1, .int .i64 m, .int .i64 l, .int .i64 s]] w fun e w' => e = .returned (.int .i64 11) ∧ Below w.heap.size w w' := by
 go_enter Tryz.func89, Tryz.ntmps89
 go_wp2
 go_ret
 exact ⟨rfl, (Below.refl _ w).alloc (Nat.le_refl _) _⟩
theorem refCheck_d (w : World) (m l s : Int) (hm0 : 0 ≤ m) (hm1 : m ≤ 511) (hl0 : 1 ≤ l) (hl1 : l ≤ 15) (hs0 : 0 ≤ s) (hs : 512 < s) : Calls Tryz.prog 89 #[.agg #[.int .i64 1, .int .i64 m, .int .i64 l, .int .i64 s]] w fun e w' => e = .returned (.int .i64 11) ∧ Below w.heap.size w w' := by
 have hsd : decide (s ≤ 512) = false := decide_eq_false (by omega)
 go_enter Tryz.func89, Tryz.ntmps89
 go_wp2
 go_ret
 exact ⟨rfl, (Below.refl _ w).alloc (Nat.le_refl _) _⟩
theorem refCheck_e (w : World) (m l s : Int) (hm0 : 0 ≤ m) (hm1 : m ≤ 511) (hl0 : 1 ≤ l) (hl1 : l ≤ 15) (hs0 : 0 ≤ s) (hs : s ≤ 512) : Calls Tryz.prog 89 #[.agg #[.int .i64 1, .int .i64 m, .int .i64 l, .int .i64 s]] w fun e w' => e = .returned (.int .i64 0) ∧ Below w.heap.size w w' := by
 go_enter Tryz.func89, Tryz.ntmps89
 go_wp2
 go_ret
 exact ⟨rfl, (Below.refl _ w).alloc (Nat.le_refl _) _⟩
theorem refCheck_f (w : World) (m l s : Int) (hm0 : 0 ≤ m) (hm1 : m ≤ 511) (hl : l ≠ 1) : Calls Tryz.prog 89 #[.agg #[.int .i64 2, .int .i64 m, .int .i64 l, .int .i64 s]] w fun e w' => e = .returned (.int .i64 11) ∧ Below w.heap.size w w' := by
 go_enter Tryz.func89, Tryz.ntmps89
 go_wp2
 go_ret
 exact ⟨rfl, (Below.refl _ w).alloc (Nat.le_refl _) _⟩
theorem refCheck_g (w : World) (m l s : Int) (hm0 : 0 ≤ m) (hm1 : m ≤ 511) (hl : l = 1) (hs : s ≠ 0) : Calls Tryz.prog 89 #[.agg #[.int .i64 2, .int .i64 m, .int .i64 l, .int .i64 s]] w fun e w' => e = .returned (.int .i64 11) ∧ Below w.heap.size w w' := by
 have hsb : (s == 0) = false := by rw [beq_eq_false_iff_ne]; exact hs
 go_enter Tryz.func89, Tryz.ntmps89
 go_wp2
 go_ret
 exact ⟨rfl, (Below.refl _ w).alloc (Nat.le_refl _) _⟩
theorem refCheck_h (w : World) (m l s : Int) (hm0 : 0 ≤ m) (hm1 : m ≤ 511) (hl : l = 1) (hs : s = 0) : Calls Tryz.prog 89 #[.agg #[.int .i64 2, .int .i64 m, .int .i64 l, .int .i64 s]] w fun e w' => e = .returned (.int .i64 0) ∧ Below w.heap.size w w' := by
 go_enter Tryz.func89, Tryz.ntmps89
 go_wp2
 go_ret
 exact ⟨rfl, (Below.refl _ w).alloc (Nat.le_refl _) _⟩
theorem refCheck_i (w : World) (k m l s : Int) (hm0 : 0 ≤ m) (hm1 : m ≤ 511) (h1 : k ≠ 1) (h2 : k ≠ 2) : Calls Tryz.prog 89 #[.agg #[.int .i64 k, .int .i64 m, .int .i64 l, .int .i64 s]] w fun e w' => e = .returned (.int .i64 11) ∧ Below w.heap.size w w' := by
 go_enter Tryz.func89, Tryz.ntmps89
 go_wp2
 go_ret
 exact ⟨rfl, (Below.refl _ w).alloc (Nat.le_refl _) _⟩
theorem inoE_is (k m l s : Int) : inoE k m l s = if (0 ≤ m ∧ m ≤ 511) ∧ ((k = 1 ∧ (1 ≤ l ∧ l ≤ 15) ∧ 0 ≤ s ∧ s ≤ 512) ∨ (k = 2 ∧ l = 1 ∧ s = 0)) then 0 else 11 := by
 unfold inoE inoOk
 by_cases h1 : k = 1
 ·subst h1
  simp [inB]
 ·by_cases h2 : k = 2
  ·subst h2
   simp [inB]
  ·simp [inB, h1, h2]
theorem irefCheck_any (w : World) (k m l s : Int) : Calls Tryz.prog 89 #[.agg #[.int .i64 k, .int .i64 m, .int .i64 l, .int .i64 s]] w fun e w' => e = .returned (.int .i64 (inoE k m l s)) ∧ Below w.heap.size w w' := by
 rw [inoE_is]
 by_cases h1 : k = 1
 ·subst h1
  by_cases a : m < 0
  ·rw [if_neg (by omega)]; exact refCheck_m01 w m l s a
  ·by_cases b : 511 < m
   ·rw [if_neg (by omega)]; exact refCheck_m11 w m l s b
   ·by_cases c : l < 1
    ·rw [if_neg (by omega)]; exact refCheck_a w m l s (by omega) (by omega) c
    ·by_cases d : 15 < l
     ·rw [if_neg (by omega)]; exact refCheck_b w m l s (by omega) (by omega) (by omega) d
     ·by_cases e : s < 0
      ·rw [if_neg (by omega)]; exact refCheck_c w m l s (by omega) (by omega) (by omega) (by omega) e
      ·by_cases f : 512 < s
       ·rw [if_neg (by omega)]; exact refCheck_d w m l s (by omega) (by omega) (by omega) (by omega) (by omega) f
       ·rw [if_pos (by omega)]; exact refCheck_e w m l s (by omega) (by omega) (by omega) (by omega) (by omega) (by omega)
 ·by_cases h2 : k = 2
  ·subst h2
   by_cases a : m < 0
   ·rw [if_neg (by omega)]; exact refCheck_m02 w m l s a
   ·by_cases b : 511 < m
    ·rw [if_neg (by omega)]; exact refCheck_m12 w m l s b
    ·by_cases c : l = 1
     ·by_cases d : s = 0
      ·rw [if_pos (by omega)]; exact refCheck_h w m l s (by omega) (by omega) c d
      ·rw [if_neg (by omega)]; exact refCheck_g w m l s (by omega) (by omega) c d
     ·rw [if_neg (by omega)]; exact refCheck_f w m l s (by omega) (by omega) c
  ·rw [if_neg (by omega)]
   by_cases a : m < 0
   ·exact refCheck_m0k w k m l s a h1 h2
   ·by_cases b : 511 < m
    ·exact refCheck_m1k w k m l s b h1 h2
    ·exact refCheck_i w k m l s (by omega) (by omega) h1 h2
theorem refFixed_arg (w : World) (n k : Int) (h : k < 1 ∨ 8 < k) : Calls Tryz.prog 159 #[.int .u64 n, .int .i64 k] w fun e w' => e = .returned (.tuple #[.slice none 0 0, .int .i64 1]) ∧ w = w' := by
 rcases h with h | h
 ·go_enter Tryz.func159, Tryz.ntmps159
  go_wp2
  go_ret2
  exact ⟨rfl, rfl⟩
 ·have h' : ¬ k < 1 := by omega
  go_enter Tryz.func159, Tryz.ntmps159
  go_wp2
  go_ret2
  exact ⟨rfl, rfl⟩
theorem refFixed_in (w : World) (N k : Nat) (h1 : 1 ≤ k) (h2 : k ≤ 8) (hN : N < 2 ^ 64) : Calls Tryz.prog 159 #[.int .u64 N, .int .i64 k] w fun e w' =>
  w' = w.alloc (.cells ((fixB N k).map (Value.int .u8)).toArray 5) ∧
  (((N : Int) / 2 ^ (8 * k) != 0) = true ∧ e = .returned (.tuple #[.slice none 0 0, .int .i64 2]) ∨ (N : Int) / 2 ^ (8 * k) = 0 ∧ e = .returned (.tuple #[.slice (some ⟨w.heap.size, 0, none⟩) k k, .int .i64 0])) := by
 have hmk := make_bytes w k k rfl (by omega)
 rw [show (List.replicate k (Value.int .u8 0)).toArray = ((fixRow N k 0).map (Value.int .u8)).toArray from by rw [fixRow_zero]; simp] at hmk
 have hk1 : ¬ (k : Int) < 1 := by omega
 have hk2 : ¬ 8 < (k : Int) := by omega
 go_enter Tryz.func159, Tryz.ntmps159
 go_wp2
 go_loopw [0, 7] (fun s t wr => ∃ i : Nat, i ≤ k ∧ t = .int .i64 ((k : Int) - 1 - i) ∧ s = .int .u64 ((N : Int) / 2 ^ (8 * i)) ∧ wr = w.alloc (.cells ((fixRow N k i).map (Value.int .u8)).toArray 5)) (fun _ t _ => (intOf t + 1).toNat)
 case atStart => exact ⟨0, Nat.zero_le _, by go_num, by simp, rfl⟩
 case round =>
  obtain ⟨i, hi, rfl, rfl, rfl⟩ := hrel
  clear hmk
  by_cases hlt : i < k
  ·obtain ⟨M, hM⟩ : ∃ M, M = ((fixRow N k i).map (Value.int .u8)).toArray := ⟨_, rfl⟩
   obtain ⟨z, hz⟩ : ∃ z, M[k - 1 - i]? = some (.int .u8 z) := by
    refine ⟨(fixRow N k i)[k - 1 - i]'(by rw [fixRow_length]; omega), ?_⟩
    rw [hM, List.getElem?_toArray, List.getElem?_map, List.getElem?_eq_getElem (by rw [fixRow_length]; omega)]
    rfl
   have HS : Hid (M.setIfInBounds (k - 1 - i) (.int .u8 ((N : Int) / 2 ^ (8 * i) % 256)) = ((fixRow N k (i + 1)).map (Value.int .u8)).toArray) := by
    show _ = _
    rw [hM, ← fixRow_set N k i hlt]
    apply Array.ext'
    rw [Array.toList_setIfInBounds, List.map_set]
    simp [dig]
   rw [← hM]
   clear hM
   go_wp2
   go_roundw
   case rel => exact ⟨i + 1, by omega, by go_num, by rw [div_step N i hN], by rw [mod_step, HS.out]⟩
   case measure => simp [intOf]; omega
  ·obtain rfl : i = k := by omega
   have hq0 : (0 : Int) ≤ (N : Int) / 2 ^ (8 * i) := Int.ediv_nonneg (by omega) (by exact Int.le_of_lt (Int.pow_pos (by decide)))
   by_cases hq : (0 : Int) < (N : Int) / 2 ^ (8 * i)
   ·have HQ : Hid (((N : Int) / 2 ^ (8 * i) != 0) = true) := bne_iff_ne.2 (by omega)
    go_wp2
    go_ret2
    exact ⟨by rw [fixRow_all], .inl ⟨HQ.out, rfl⟩⟩
   ·have HQ : Hid (((N : Int) / 2 ^ (8 * i) != 0) = false) := bne_eq_false_iff_eq.2 (by omega)
    go_wp2
    go_ret2
    exact ⟨by rw [fixRow_all], .inr ⟨bne_eq_false_iff_eq.1 HQ.out, rfl⟩⟩
theorem refFixed_any (w : World) (n k : Int) (h0 : 0 ≤ n) (h1 : n < 2 ^ 64) : Calls Tryz.prog 159 #[.int .u64 n, .int .i64 k] w fun e w' =>
  ∃ v, e = .returned (.tuple #[v, .int .i64 (fixE n k)]) ∧ Own w' w.heap.size v (fixL n k) ∧ Below w.heap.size w w' := by
 by_cases hk : k < 1 ∨ 8 < k
 ·have e1 : fixE n k = 1 := if_pos hk
  have e2 : fixL n k = [] := by unfold fixL; rw [e1]; rfl
  rw [e1, e2]
  refine (refFixed_arg w n k hk).mono ?_
  rintro e w' ⟨rfl, rfl⟩
  exact ⟨_, rfl, Own.nil _ _, Below.refl _ _⟩
 ·obtain ⟨N, rfl⟩ := Int.eq_ofNat_of_zero_le h0
  obtain ⟨K, rfl⟩ := Int.eq_ofNat_of_zero_le (show 0 ≤ k by omega)
  have hN : N < 2 ^ 64 := by omega
  refine (refFixed_in w N K (by omega) (by omega) hN).mono ?_
  rintro e w' ⟨rfl, ⟨hl, rfl⟩ | ⟨hl, rfl⟩⟩
  ·have e1 : fixE N K = 2 := by unfold fixE; rw [if_neg hk, Int.toNat_natCast, if_pos hl]
   have e2 : fixL N K = [] := by unfold fixL; rw [e1]; rfl
   rw [e1, e2]
   exact ⟨_, rfl, Own.nil _ _, (Below.refl _ _).alloc (Nat.le_refl _) _⟩
  ·have e1 : fixE N K = 0 := by unfold fixE; rw [if_neg hk, Int.toNat_natCast, if_neg (by rw [hl]; decide)]
   have e2 : fixL N K = fixB N K := by unfold fixL; rw [e1]; rfl
   rw [e1, e2]
   exact ⟨_, rfl, Own.laid (fixB_length N K).symm (by unfold maxLen; omega) rfl, (Below.refl _ _).alloc (Nat.le_refl _) _⟩
theorem refFix_any (w : World) (B : Nat) (v : Value) (xs : List Int) (n : Int) (k : Nat) (ho : Own w B v xs) (hB : B ≤ w.heap.size) (hx : xs.length ≤ 1000) (h1 : 1 ≤ k) (h2 : k ≤ 8) (h0 : 0 ≤ n) (hn : n < 2 ^ (8 * k)) (h63 : n < 2 ^ 63) :
  Calls Tryz.prog 116 #[v, .int .i64 n, .int .i64 k] w fun e w' => ∃ v', e = .returned v' ∧ Own w' B v' (xs ++ fixB n.toNat k) ∧ Below B w w' := by
 have hL := fixL_in n k h1 h2 h0 hn
 have HW : IntKind.u64.wrap n = n := by rw [IntKind.wrap_u64]; omega
 go_enter Tryz.func116, Tryz.ntmps116
 go_wp2_with fail
 refine (refFixed_any _ n k h0 (by omega)).mono ?_
 rintro e w1 ⟨v1, rfl, ho1, hb1⟩
 rw [hL] at ho1
 have ho' := ho.below hb1
 have hsz := hb1.size
 go_wp2_with (at_builtin; refine wpList_append_rd rfl _ _ rfl B _ _ rfl ho' _ _ rfl ho1.rd ?c1 ?c2 ?_)
 case c1 => rw [fixB_length]; omega
 case c2 => omega
 intro v3 w3 ho3 hg3
 go_wp2
 go_ret
 exact ⟨_, rfl, ho3, below_grown (hb1.mono hB) (by omega) ho' hg3⟩
theorem refNum_any (w : World) (s : ByteArray) (hs : s.size ≤ 4) : Calls Tryz.prog 248 #[.string s] w fun e w' => e = .returned (.int .i64 (valB (strB s))) ∧ w = w' := by
 have hlen := strB_length s
 have hy := strB_byt s
 go_enter Tryz.func248, Tryz.ntmps248
 go_wp2
 go_loop [3, 4] (fun n t => ∃ i : Nat, i ≤ s.size ∧ t = .int .i64 i ∧ n = .int .i64 (valB ((strB s).take i))) (fun _ t => s.size - (intOf t).toNat)
 case atStart => exact ⟨0, Nat.zero_le _, rfl, rfl⟩
 case round =>
  obtain ⟨i, hi, rfl, rfl⟩ := hrel
  by_cases hlt : i < s.size
  ·have hV := valB_small ((strB s).take i) (hy.take i) 4 (by simp; omega) (by omega)
   have hsu := valB_succ (strB s) i (by omega)
   have hb : ((strB s).getD i 0) = ((s[i]'hlt).toNat : Int) := by
    rw [List.getD_eq_getElem?_getD, List.getElem?_eq_getElem (by omega)]
    simp [strB]
    rfl
   rw [hb, Int.toNat_natCast] at hsu
   have hbl := (s[i]'hlt).toNat_lt
   have HS : Hid (valB ((strB s).take (i + 1)) = valB ((strB s).take i) * 256 + (s[i]'hlt).toNat) := hsu
   generalize valB ((strB s).take i) = V at *
   clear hb hsu hy hlen
   go_wp2
   go_round
   case rel => exact ⟨i + 1, by omega, by go_num, by rw [HS.out]; go_num⟩
   case measure => simp [intOf]; omega
  ·obtain rfl : i = s.size := by omega
   have HT : Hid ((strB s).take s.size = strB s) := by unfold Hid; rw [← hlen, List.take_length]
   rw [HT.out]
   go_wp2
   go_ret
   exact ⟨rfl, rfl⟩
theorem iloadG {ops : Array Oper} {rest : List Oper} {o : Oper} {a : Act} {w : World} {Q : Exit → Act → World → Prop} (hw : Region.wanted o (yielded ops a.tmps) = true) (ty : TypeId) (x : Operand) (ho : o.op = .load ty x)
  (q : Addr) (hx : a.eval x = .pointer (some q)) (v : Value) (hl : (Instr.loadAt ty (.pointer (some q))).run Tryz.prog w = .ok v w)
  (h : wpList Tryz.prog ops Q rest (a.put o.dst v) w) : wpList Tryz.prog ops Q (o :: rest) a w :=
 BigFrame.wpList_want hw fun K hK => by
  unfold Oper.wp execOp
  simp only [ho, hx, hl, Sem.run_bind, Sem.run_pure, Result.andThen_ok]
  exact hK _ _ h
structure IChAt (w : World) (g : Nat) (b : List Int) : Prop where
 row : w.heap[g]? = some (.cells (bytesV b) 115 (0, 0))
theorem IChAt.lt {w : World} {g : Nat} {b : List Int} (h : IChAt w g b) : g < w.heap.size := (Array.getElem?_eq_some_iff.1 h.row).1
theorem IChAt.below {w w' : World} {g : Nat} {b : List Int} (h : IChAt w g b) (hb : Below w.heap.size w w') : IChAt w' g b := ⟨(hb.block g h.lt).trans h.row⟩
theorem IChAt.load {w : World} {g : Nat} {b : List Int} (h : IChAt w g b) (hb : b.length = 32) : (Instr.loadAt 115 (.pointer (some ⟨g, 0, none⟩))).run Tryz.prog w = .ok (.agg (bytesV b)) w := by
 have hl := run_loadVar_row (P := Tryz.prog) w g _ 115 (bytesV b) _ _ h.row Tryz.underlying115 rfl (by rw [bytesV_size, hb]; exact size_chunk)
 simp only [Instr.loadAt, Instr.sureAddr, Sem.run_bind, Sem.run_pure, Result.andThen_ok, hl]
structure InAt (w : World) (g : Nat) (k m l s : Int) : Prop where
 row : w.heap[g]? = some (.cells #[.int .i64 k, .int .i64 m, .int .i64 l, .int .i64 s] 91 (0, 0))
theorem InAt.lt {w : World} {g : Nat} {k m l s : Int} (h : InAt w g k m l s) : g < w.heap.size := (Array.getElem?_eq_some_iff.1 h.row).1
theorem InAt.below {w w' : World} {g : Nat} {k m l s : Int} (h : InAt w g k m l s) (hb : Below w.heap.size w w') : InAt w' g k m l s := ⟨(hb.block g h.lt).trans h.row⟩
theorem InAt.load {w : World} {g : Nat} {k m l s : Int} (h : InAt w g k m l s) : (Instr.loadAt 91 (.pointer (some ⟨g, 0, none⟩))).run Tryz.prog w = .ok (.agg #[.int .i64 k, .int .i64 m, .int .i64 l, .int .i64 s]) w := by
 have hl := run_loadVar_row (P := Tryz.prog) w g _ 91 _ _ _ h.row Tryz.underlying91 rfl size_inode
 simp only [Instr.loadAt, Instr.sureAddr, Sem.run_bind, Sem.run_pure, Result.andThen_ok, hl]
theorem encOk_iff {p : Int} {x : It} : encOk p x = true ↔ giveI p x = x ∧ standsB p x = true := by
 unfold encOk; rw [Bool.and_eq_true, itEq_iff]
theorem size_itemR : (Tryz.prog.info? 130).map (·.size) = some 37 := by kernel_rfl
theorem zeroItemR (w : World) : (zeroValue 130).run Tryz.prog w = .ok (.agg (itC it0)) w := by
 have h : (Tryz.prog.info? 130).map (fun i => (i.zero, i.size)) = some (some (.agg (itC it0)), 37) := by kernel_rfl
 exact (zero_of_info h).1 w
theorem built_zeroR : Tryz.prog.built 130 [] = some (itC it0) := by kernel_rfl
theorem wpList_storeR {w : World} {ops : Array Oper} {rest : List Oper} {o : Oper} {a : Act} {Q : Exit → Act → World → Prop} (hg : o.guard = none) (x y : Operand) (ho : o.op = .store 130 x y)
  (g : Nat) (z old : It) (hx : a.eval x = .pointer (some ⟨g, 0, none⟩)) (hy : a.eval y = .agg (itC z)) (hz : z.bytes.length = 32) (hold : old.bytes.length = 32) (hat : ItAt 130 w g old)
  (h : wpList Tryz.prog ops Q rest (a.put o.dst undef) (w.setRow g (itC z))) : wpList Tryz.prog ops Q (o :: rest) a w :=
 wpList_store_row hg 130 x y ho g (itC z) hx hy 130 (itC old) hat.row (by rw [itC_size hz]; exact size_itemR) (by rw [itC_size hz, itC_size hold]) (one_item z) h
theorem ItAt.loadR {w : World} {g : Nat} {x : It} (h : ItAt 130 w g x) (hx : x.bytes.length = 32) : (Instr.loadAt 130 (.pointer (some ⟨g, 0, none⟩))).run Tryz.prog w = .ok (.agg (itC x)) w := by
 have hl := run_loadVar_row (P := Tryz.prog) w g _ 130 (itC x) _ _ h.row Tryz.underlying130 rfl (by rw [itC_size hx]; exact size_itemR)
 simp only [Instr.loadAt, Instr.sureAddr, Sem.run_bind, Sem.run_pure, Result.andThen_ok, hl]
theorem ItAt.loadI {T : TypeId} {w : World} {g : Nat} {x : It} (h : ItAt T w g x) : (Instr.loadAt 91 (.pointer (some ⟨g, 0, none⟩))).run Tryz.prog w = .ok (.agg #[.int .i64 x.kind, .int .i64 x.mode, .int .i64 x.links, .int .i64 x.size]) w :=
 run_loadAt_mid w g 0 91 _ _ h.rangeI Tryz.underlying91 rfl size_inode
theorem ItAt.loadC {T : TypeId} {w : World} {g : Nat} {x : It} (h : ItAt T w g x) (hx : x.bytes.length = 32) : (Instr.loadAt 115 (.pointer (some ⟨g, 5, none⟩))).run Tryz.prog w = .ok (.agg (bytesV x.bytes)) w :=
 run_loadAt_mid w g 5 115 _ _ h.range Tryz.underlying115 rfl (by rw [List.length_map, hx]; exact size_chunk)
theorem neq_itemsR (w : World) {x y : It} (hx : x.bytes.length = 32) (hy : y.bytes.length = 32) : (binOp .neq 130 (.agg (itC x)) (.agg (itC y))).run Tryz.prog w = .ok (.bool (!itEq x y)) w := by
 rw [run_neq_struct, equal_items _ (by kernel_rfl) (by kernel_rfl) (by kernel_rfl) w 9997 hx hy]
 rfl
theorem itEq_comm (x y : It) : itEq x y = itEq y x := by
 rw [Bool.eq_iff_iff, itEq_iff, itEq_iff]
 exact eq_comm
def setMany (cs : Array Value) : Nat → List Value → Array Value
 | _, [] => cs
 | o, v :: r => setMany (cs.setIfInBounds o v) (o + 1) r
theorem heap_setCells (g : Nat) (t : TypeId) : ∀ (vs : List Value) (o : Nat) (w : World) (cs : Array Value), w.heap[g]? = some (.cells cs t (0, 0)) → (w.setCells g o vs).heap[g]? = some (.cells (setMany cs o vs) t (0, 0))
 | [], _, _, _, h => h
 | v :: r, o, w, cs, h => heap_setCells g t r (o + 1) _ _ (heap_setCell_same w g o cs t v h)
theorem below_setCells {B : Nat} {w0 : World} {g : Nat} (hg : B ≤ g) : ∀ (vs : List Value) (o : Nat) (w : World), Below B w0 w → Below B w0 (w.setCells g o vs)
 | [], _, _, h => h
 | v :: r, o, w, h => below_setCells hg r (o + 1) _ (h.setCell hg v)
theorem setMany_toList : ∀ (vs : List Value) (o : Nat) (cs : Array Value), o + vs.length ≤ cs.size → (setMany cs o vs).toList = cs.toList.take o ++ vs ++ cs.toList.drop (o + vs.length)
 | [], o, cs, h => by simp [setMany]
 | v :: r, o, cs, h => by
  rw [List.length_cons] at h
  unfold setMany
  rw [setMany_toList r (o + 1) _ (by simp; omega), Array.toList_setIfInBounds]
  have hl : o < cs.toList.length := by simp; omega
  have e1 : (cs.toList.set o v).take (o + 1) = cs.toList.take o ++ [v] := by
   rw [List.take_succ_eq_append_getElem (by simpa using hl), List.take_set_of_le (Nat.le_refl _)]
   simp
  have e2 : (cs.toList.set o v).drop (o + 1 + r.length) = cs.toList.drop (o + (v :: r).length) := by
   rw [List.drop_set_of_lt (by omega)]
   congr 1
   simp
   omega
  rw [e1, e2]
  simp
theorem ItAt.there {T : TypeId} {w : World} {g : Nat} {x : It} (h : ItAt T w g x) (hx : x.bytes.length = 32) (o n : Nat) (hn : o + n ≤ 37) : w.there g o n := by
 intro j hj
 refine ⟨?_, by simp [World.frozen?, h.row]⟩
 rw [cell_of_row w g (o + j) _ _ (0, 0) h.row, Array.getElem?_eq_getElem (by rw [itC_size hx]; omega)]
 rfl
theorem ItAt.putI {T : TypeId} {w : World} {g : Nat} {x : It} (h : ItAt T w g x) (hx : x.bytes.length = 32) (k m l s : Int) : ItAt T (w.setCells g 0 [.int .i64 k, .int .i64 m, .int .i64 l, .int .i64 s]) g ⟨k, m, l, s, x.lead, x.bytes⟩ := by
 have := heap_setCells g T [.int .i64 k, .int .i64 m, .int .i64 l, .int .i64 s] 0 w _ h.row
 exact ⟨this⟩
theorem ItAt.putC {T : TypeId} {w : World} {g : Nat} {x : It} (h : ItAt T w g x) (hx : x.bytes.length = 32) (b : List Int) (hb : b.length = 32) : ItAt T (w.setCells g 5 (b.map (Value.int .u8))) g ⟨x.kind, x.mode, x.links, x.size, x.lead, b⟩ := by
 have := heap_setCells g T (b.map (Value.int .u8)) 5 w _ h.row
 refine ⟨this.trans ?_⟩
 congr 2
 apply Array.ext'
 rw [setMany_toList _ _ _ (by rw [itC_size hx, List.length_map, hb]; omega)]
 have hd : (itC x).toList.drop (5 + (b.map (Value.int .u8)).length) = [] := by
  apply List.drop_eq_nil_of_le
  rw [Array.length_toList, itC_size hx, List.length_map, hb]
  omega
 rw [hd]
 simp [itC]
theorem ItAt.putT {T : TypeId} {w : World} {g : Nat} {x : It} (h : ItAt T w g x) (t : Int) : ItAt T (w.setCell ⟨g, 4, none⟩ (.int .u32 t)) g ⟨x.kind, x.mode, x.links, x.size, t, x.bytes⟩ := by
 have := heap_setCell_same w g 4 _ T (.int .u32 t) h.row
 refine ⟨this.trans ?_⟩
 congr 2
theorem one_ino (k m l s : Int) : (#[Value.int .i64 k, .int .i64 m, .int .i64 l, .int .i64 s]).all (·.oneCell') = true := by simp [Value.oneCell']
theorem fixB_one (N : Nat) : fixB N 1 = [((N % 256 : Nat) : Int)] := by simp [fixB, dig]
theorem ItAt.fr {T : TypeId} {w : World} {g : Nat} {x : It} (h : ItAt T w g x) (j : Nat) : w.frozen? ⟨g, j, none⟩ = false := by simp [World.frozen?, h.row]
theorem refEnc_z (w : World) (p : Int) (x : It) (hx : ItOk x) (h1 : p ≠ 1) (h2 : p ≠ 2) (h3 : p ≠ 3) : Calls Tryz.prog 60 #[.int .i64 p, .agg (itC x)] w fun e w' => e = .returned (.tuple #[.string ⟨#[]⟩, .int .i64 1]) ∧ Below w.heap.size w w' := by
 obtain ⟨w1, hw1⟩ : ∃ w1, w.alloc (.cells (itC x) 130) = w1 := ⟨_, rfl⟩
 have hb1 : Below w.heap.size w w1 := by rw [← hw1]; exact (Below.refl _ w).alloc (Nat.le_refl _) _
 have hx1 : ItAt 130 w1 w.heap.size x := by rw [← hw1]; exact ItAt.laid _ w x
 obtain ⟨w2, hw2⟩ : ∃ w2, w1.alloc (.cells (itC it0) 130) = w2 := ⟨_, rfl⟩
 have hb2 : Below w1.heap.size w1 w2 := by rw [← hw2]; exact (Below.refl _ w1).alloc (Nat.le_refl _) _
 have hy2 : ItAt 130 w2 w1.heap.size it0 := by rw [← hw2]; exact ItAt.laid _ w1 it0
 obtain ⟨w3, hw3⟩ : ∃ w3, w2.setRow w1.heap.size (itC it0) = w3 := ⟨_, rfl⟩
 have hy3 : ItAt 130 w3 w1.heap.size it0 := by rw [← hw3]; exact hy2.setRow _
 have hb3 : Below w1.heap.size w1 w3 := by rw [← hw3]; exact below_setRow hb2 (Nat.le_refl _) _
 have hx3 := hx1.below hb3
 have hB3 : Below w.heap.size w w3 := thenB hb1 hb3
 have hz := zeroItemR
 have HX : Hid (x.bytes.length = 32) := hx.ch.1
 have hlt1 : w.heap.size < w1.heap.size := hx1.lt
 clear hx3 hy3
 go_enter Tryz.func60, Tryz.ntmps60
 go_wp2_with (refine wpList_storeR rfl _ _ rfl w1.heap.size it0 it0 rfl rfl ch_zero.1 ch_zero.1 hy2 ?_)
 go_ret2
 exact ⟨rfl, hB3⟩
theorem refEnc_1a (w : World) (x : It) (hx : ItOk x) (h1 : itEq (giveI 1 x) x = false) : Calls Tryz.prog 60 #[.int .i64 1, .agg (itC x)] w fun e w' => e = .returned (.tuple #[.string ⟨#[]⟩, .int .i64 11]) ∧ Below w.heap.size w w' := by
 obtain ⟨w1, hw1⟩ : ∃ w1, w.alloc (.cells (itC x) 130) = w1 := ⟨_, rfl⟩
 have hb1 : Below w.heap.size w w1 := by rw [← hw1]; exact (Below.refl _ w).alloc (Nat.le_refl _) _
 have hx1 : ItAt 130 w1 w.heap.size x := by rw [← hw1]; exact ItAt.laid _ w x
 obtain ⟨w2, hw2⟩ : ∃ w2, w1.alloc (.cells (itC it0) 130) = w2 := ⟨_, rfl⟩
 have hb2 : Below w1.heap.size w1 w2 := by rw [← hw2]; exact (Below.refl _ w1).alloc (Nat.le_refl _) _
 have hy2 : ItAt 130 w2 w1.heap.size it0 := by rw [← hw2]; exact ItAt.laid _ w1 it0
 obtain ⟨w3, hw3⟩ : ∃ w3, w2.setRow w1.heap.size (itC it0) = w3 := ⟨_, rfl⟩
 have hy3 : ItAt 130 w3 w1.heap.size it0 := by rw [← hw3]; exact hy2.setRow _
 have hb3 : Below w1.heap.size w1 w3 := by rw [← hw3]; exact below_setRow hb2 (Nat.le_refl _) _
 have hx3 := hx1.below hb3
 have hB3 : Below w.heap.size w w3 := thenB hb1 hb3
 have hz := zeroItemR
 have HX : Hid (x.bytes.length = 32) := hx.ch.1
 have hlt1 : w.heap.size < w1.heap.size := hx1.lt
 obtain ⟨k, m, l, s, t, b⟩ := x
 obtain ⟨w4, hw4⟩ : ∃ w4, w3.setCells w1.heap.size 0 [.int .i64 k, .int .i64 m, .int .i64 l, .int .i64 s] = w4 := ⟨_, rfl⟩
 have hb4 : Below w1.heap.size w1 w4 := by rw [← hw4]; exact below_setCells (Nat.le_refl _) _ _ _ hb3
 have hy4 : ItAt 130 w4 w1.heap.size ⟨k, m, l, s, 0, zeroC⟩ := by rw [← hw4]; exact hy3.putI ch_zero.1 k m l s
 have hx4 := hx1.below hb4
 have hB4 : Below w.heap.size w w4 := thenB hb1 hb4
 have hth := hy3.there ch_zero.1 0 4 (by omega)
 have LI : Hid _ := hx3.loadI
 have L3 : Hid _ := hx4.loadR hx.ch.1
 have L6 : Hid _ := hy4.loadR ch_zero.1
 have LI4 : Hid _ := hx4.loadI
 have HT : Hid (w3.there w1.heap.size 0 4) := hth
 rw [giveI_1] at h1
 have hne : ∀ W, (binOp .neq 130 (.agg (itC ⟨k, m, l, s, t, b⟩)) (.agg (itC ⟨k, m, l, s, 0, zeroC⟩))).run Tryz.prog W = .ok (.bool true) W := fun W => by rw [neq_itemsR W (x := ⟨k, m, l, s, t, b⟩) (y := ⟨k, m, l, s, 0, zeroC⟩) HX.out ch_zero.1, itEq_comm, h1]; rfl
 clear hx1 hx3 hy3 hb2 hb3 hth
 go_enter Tryz.func60, Tryz.ntmps60
 go_wp2_with (first
  | (refine wpList_storeR rfl _ _ rfl w1.heap.size it0 it0 rfl rfl ch_zero.1 ch_zero.1 hy2 ?_)
  | (refine iloadG rfl 91 _ rfl _ rfl _ LI.out ?_)
  | (refine wpList_store_mid rfl 91 _ _ rfl w1.heap.size 0 #[.int .i64 k, .int .i64 m, .int .i64 l, .int .i64 s] rfl rfl HT.out size_inode (one_ino k m l s) ?_; rw [show (#[Value.int .i64 k, .int .i64 m, .int .i64 l, .int .i64 s]).toList = [.int .i64 k, .int .i64 m, .int .i64 l, .int .i64 s] from rfl, hw4])
  | (refine iloadG rfl 130 _ rfl _ rfl _ L3.out ?_)
  | (refine iloadG rfl 130 _ rfl _ rfl _ L6.out ?_))
 go_ret2
 exact ⟨rfl, hB4⟩
theorem refEnc_1b (w : World) (x : It) (hx : ItOk x) (h1 : itEq (giveI 1 x) x = true) (h2 : standsB 1 x = false) : Calls Tryz.prog 60 #[.int .i64 1, .agg (itC x)] w fun e w' => e = .returned (.tuple #[.string ⟨#[]⟩, .int .i64 11]) ∧ Below w.heap.size w w' := by
 obtain ⟨w1, hw1⟩ : ∃ w1, w.alloc (.cells (itC x) 130) = w1 := ⟨_, rfl⟩
 have hb1 : Below w.heap.size w w1 := by rw [← hw1]; exact (Below.refl _ w).alloc (Nat.le_refl _) _
 have hx1 : ItAt 130 w1 w.heap.size x := by rw [← hw1]; exact ItAt.laid _ w x
 obtain ⟨w2, hw2⟩ : ∃ w2, w1.alloc (.cells (itC it0) 130) = w2 := ⟨_, rfl⟩
 have hb2 : Below w1.heap.size w1 w2 := by rw [← hw2]; exact (Below.refl _ w1).alloc (Nat.le_refl _) _
 have hy2 : ItAt 130 w2 w1.heap.size it0 := by rw [← hw2]; exact ItAt.laid _ w1 it0
 obtain ⟨w3, hw3⟩ : ∃ w3, w2.setRow w1.heap.size (itC it0) = w3 := ⟨_, rfl⟩
 have hy3 : ItAt 130 w3 w1.heap.size it0 := by rw [← hw3]; exact hy2.setRow _
 have hb3 : Below w1.heap.size w1 w3 := by rw [← hw3]; exact below_setRow hb2 (Nat.le_refl _) _
 have hx3 := hx1.below hb3
 have hB3 : Below w.heap.size w w3 := thenB hb1 hb3
 have hz := zeroItemR
 have HX : Hid (x.bytes.length = 32) := hx.ch.1
 have hlt1 : w.heap.size < w1.heap.size := hx1.lt
 obtain ⟨k, m, l, s, t, b⟩ := x
 obtain ⟨w4, hw4⟩ : ∃ w4, w3.setCells w1.heap.size 0 [.int .i64 k, .int .i64 m, .int .i64 l, .int .i64 s] = w4 := ⟨_, rfl⟩
 have hb4 : Below w1.heap.size w1 w4 := by rw [← hw4]; exact below_setCells (Nat.le_refl _) _ _ _ hb3
 have hy4 : ItAt 130 w4 w1.heap.size ⟨k, m, l, s, 0, zeroC⟩ := by rw [← hw4]; exact hy3.putI ch_zero.1 k m l s
 have hx4 := hx1.below hb4
 have hB4 : Below w.heap.size w w4 := thenB hb1 hb4
 have hth := hy3.there ch_zero.1 0 4 (by omega)
 have LI : Hid _ := hx3.loadI
 have L3 : Hid _ := hx4.loadR hx.ch.1
 have L6 : Hid _ := hy4.loadR ch_zero.1
 have LI4 : Hid _ := hx4.loadI
 have HT : Hid (w3.there w1.heap.size 0 4) := hth
 rw [giveI_1] at h1
 have hck : ∀ W, Calls Tryz.prog 89 #[.agg #[.int .i64 k, .int .i64 m, .int .i64 l, .int .i64 s]] W fun e w' => e = .returned (.int .i64 11) ∧ Below W.heap.size W w' := fun W => by
  have := irefCheck_any W k m l s
  rwa [inoE_11 h2] at this
 have hne : ∀ W, (binOp .neq 130 (.agg (itC ⟨k, m, l, s, t, b⟩)) (.agg (itC ⟨k, m, l, s, 0, zeroC⟩))).run Tryz.prog W = .ok (.bool false) W := fun W => by rw [neq_itemsR W (x := ⟨k, m, l, s, t, b⟩) (y := ⟨k, m, l, s, 0, zeroC⟩) HX.out ch_zero.1, itEq_comm, h1]; rfl
 clear hx1 hx3 hy3 hb2 hb3 hth
 clear h2
 go_enter Tryz.func60, Tryz.ntmps60
 go_wp2_with (first
  | (refine wpList_storeR rfl _ _ rfl w1.heap.size it0 it0 rfl rfl ch_zero.1 ch_zero.1 hy2 ?_)
  | (refine iloadG rfl 91 _ rfl _ rfl _ LI.out ?_)
  | (refine wpList_store_mid rfl 91 _ _ rfl w1.heap.size 0 #[.int .i64 k, .int .i64 m, .int .i64 l, .int .i64 s] rfl rfl HT.out size_inode (one_ino k m l s) ?_; rw [show (#[Value.int .i64 k, .int .i64 m, .int .i64 l, .int .i64 s]).toList = [.int .i64 k, .int .i64 m, .int .i64 l, .int .i64 s] from rfl, hw4])
  | (refine iloadG rfl 130 _ rfl _ rfl _ L3.out ?_)
  | (refine iloadG rfl 130 _ rfl _ rfl _ L6.out ?_)
  | (refine iloadG rfl 91 _ rfl _ rfl _ LI4.out ?_))
 refine (hck _).mono ?_
 rintro e w5 ⟨rfl, hb5⟩
 go_wp2
 go_ret2
 exact ⟨rfl, thenB hB4 hb5⟩
theorem refEnc_1c (w : World) (x : It) (hx : ItOk x) (h1 : itEq (giveI 1 x) x = true) (h2 : standsB 1 x = true) : Calls Tryz.prog 60 #[.int .i64 1, .agg (itC x)] w fun e w' => e = .returned (.tuple #[.string (strOfNums (wrL 1 x)), .int .i64 0]) ∧ Below w.heap.size w w' := by
 obtain ⟨w1, hw1⟩ : ∃ w1, w.alloc (.cells (itC x) 130) = w1 := ⟨_, rfl⟩
 have hb1 : Below w.heap.size w w1 := by rw [← hw1]; exact (Below.refl _ w).alloc (Nat.le_refl _) _
 have hx1 : ItAt 130 w1 w.heap.size x := by rw [← hw1]; exact ItAt.laid _ w x
 obtain ⟨w2, hw2⟩ : ∃ w2, w1.alloc (.cells (itC it0) 130) = w2 := ⟨_, rfl⟩
 have hb2 : Below w1.heap.size w1 w2 := by rw [← hw2]; exact (Below.refl _ w1).alloc (Nat.le_refl _) _
 have hy2 : ItAt 130 w2 w1.heap.size it0 := by rw [← hw2]; exact ItAt.laid _ w1 it0
 obtain ⟨w3, hw3⟩ : ∃ w3, w2.setRow w1.heap.size (itC it0) = w3 := ⟨_, rfl⟩
 have hy3 : ItAt 130 w3 w1.heap.size it0 := by rw [← hw3]; exact hy2.setRow _
 have hb3 : Below w1.heap.size w1 w3 := by rw [← hw3]; exact below_setRow hb2 (Nat.le_refl _) _
 have hx3 := hx1.below hb3
 have hB3 : Below w.heap.size w w3 := thenB hb1 hb3
 have hz := zeroItemR
 have HX : Hid (x.bytes.length = 32) := hx.ch.1
 have hlt1 : w.heap.size < w1.heap.size := hx1.lt
 obtain ⟨k, m, l, s, t, b⟩ := x
 obtain ⟨w4, hw4⟩ : ∃ w4, w3.setCells w1.heap.size 0 [.int .i64 k, .int .i64 m, .int .i64 l, .int .i64 s] = w4 := ⟨_, rfl⟩
 have hb4 : Below w1.heap.size w1 w4 := by rw [← hw4]; exact below_setCells (Nat.le_refl _) _ _ _ hb3
 have hy4 : ItAt 130 w4 w1.heap.size ⟨k, m, l, s, 0, zeroC⟩ := by rw [← hw4]; exact hy3.putI ch_zero.1 k m l s
 have hx4 := hx1.below hb4
 have hB4 : Below w.heap.size w w4 := thenB hb1 hb4
 have hth := hy3.there ch_zero.1 0 4 (by omega)
 have LI : Hid _ := hx3.loadI
 have L3 : Hid _ := hx4.loadR hx.ch.1
 have L6 : Hid _ := hy4.loadR ch_zero.1
 have LI4 : Hid _ := hx4.loadI
 have HT : Hid (w3.there w1.heap.size 0 4) := hth
 rw [giveI_1] at h1
 have hck : ∀ W, Calls Tryz.prog 89 #[.agg #[.int .i64 k, .int .i64 m, .int .i64 l, .int .i64 s]] W fun e w' => e = .returned (.int .i64 0) ∧ Below W.heap.size W w' := fun W => by
  have := irefCheck_any W k m l s
  rwa [inoE_0 h2] at this
 obtain ⟨⟨k0, k1⟩, ⟨m0, m1⟩, ⟨l0, l1⟩, s0, s1⟩ := inoOk_bounds (show inoOk k m l s = true from h2)
 have HR : Hid (wrL 1 ⟨k, m, l, s, t, b⟩ = [k] ++ fixB m.toNat 2 ++ [l] ++ fixB s.toNat 2) := by
  unfold Hid
  rw [wrL_1]
  unfold recL
  dsimp only
  rw [show fixB k.toNat 1 = [k] from by rw [fixB_one]; congr 1; omega, show fixB l.toNat 1 = [l] from by rw [fixB_one]; congr 1; omega]
 have wk : IntKind.u8.wrap k = k := by rw [IntKind.wrap_u8]; omega
 have wl : IntKind.u8.wrap l = l := by rw [IntKind.wrap_u8]; omega
 have hne : ∀ W, (binOp .neq 130 (.agg (itC ⟨k, m, l, s, t, b⟩)) (.agg (itC ⟨k, m, l, s, 0, zeroC⟩))).run Tryz.prog W = .ok (.bool false) W := fun W => by rw [neq_itemsR W (x := ⟨k, m, l, s, t, b⟩) (y := ⟨k, m, l, s, 0, zeroC⟩) HX.out ch_zero.1, itEq_comm, h1]; rfl
 clear hx1 hx3 hy3 hb2 hb3 hth
 clear h2
 go_enter Tryz.func60, Tryz.ntmps60
 go_wp2_with (first
  | (refine wpList_storeR rfl _ _ rfl w1.heap.size it0 it0 rfl rfl ch_zero.1 ch_zero.1 hy2 ?_)
  | (refine iloadG rfl 91 _ rfl _ rfl _ LI.out ?_)
  | (refine wpList_store_mid rfl 91 _ _ rfl w1.heap.size 0 #[.int .i64 k, .int .i64 m, .int .i64 l, .int .i64 s] rfl rfl HT.out size_inode (one_ino k m l s) ?_; rw [show (#[Value.int .i64 k, .int .i64 m, .int .i64 l, .int .i64 s]).toList = [.int .i64 k, .int .i64 m, .int .i64 l, .int .i64 s] from rfl, hw4])
  | (refine iloadG rfl 130 _ rfl _ rfl _ L3.out ?_)
  | (refine iloadG rfl 130 _ rfl _ rfl _ L6.out ?_)
  | (refine iloadG rfl 91 _ rfl _ rfl _ LI4.out ?_))
 refine (hck _).mono ?_
 rintro e w5 ⟨rfl, hb5⟩
 have hB5 := thenB hB4 hb5
 have hx5 := hx4.below hb5
 obtain ⟨w6, hw6⟩ : ∃ w6, w5.alloc (.cells #[.int .u8 k] 5) = w6 := ⟨_, rfl⟩
 have hb6 : Below w5.heap.size w5 w6 := by rw [← hw6]; exact (Below.refl _ w5).alloc (Nat.le_refl _) _
 have ho6 : Own w6 w5.heap.size (.slice (some ⟨w5.heap.size, 0, none⟩) 1 1) [k] := by rw [← hw6]; exact Own.laid (cs := #[.int .u8 k]) rfl (by decide) rfl
 have hx6 := hx5.below hb6
 have q0 := hx5.c0
 have q1 := hx6.c1
 have hsz6 := hb6.size
 clear hne LI L3 L6 LI4 HT hck hw1 hw2 hw3 hw4 hz
 go_wp2_with fail
 refine (refFix_any w6 w5.heap.size _ [k] m 2 ho6 hsz6 (by simp) (by omega) (by omega) m0 (by omega) (by omega)).mono ?_
 rintro e w7 ⟨v7, rfl, ho7, hb7⟩
 have hb57 : Below w5.heap.size w5 w7 := hb6.trans hb7
 have hx7 := hx5.below hb57
 have q2 := hx7.c2
 obtain ⟨w8, hw8⟩ : ∃ w8, w7.alloc (.cells #[.int .u8 l] 5) = w8 := ⟨_, rfl⟩
 have hb8 : Below w7.heap.size w7 w8 := by rw [← hw8]; exact (Below.refl _ w7).alloc (Nat.le_refl _) _
 have hr8 : Rd w8 (.slice (some ⟨w7.heap.size, 0, none⟩) 1 1) [l] := by rw [← hw8]; exact Rd.laid (cs := #[.int .u8 l]) rfl (by decide) rfl
 have ho8 := ho7.below hb8
 have hsz7 := hb57.size
 have hsz8 := hb8.size
 clear q0 q1 hw6 ho7
 go_wp2_with (at_builtin; refine wpList_append_rd rfl _ _ rfl w5.heap.size _ _ rfl ho8 _ _ rfl hr8 ?c1 ?c2 ?_)
 case c1 => simp [fixB_length]
 case c2 => omega
 intro v9 w9 ho9 hg9
 have hb59 : Below w5.heap.size w5 w9 := below_grown (hb57.trans (hb8.mono hsz7)) (by omega) ho8 hg9
 have hx9 := hx5.below hb59
 have q3 := hx9.c3
 clear hg9 ho8 hr8 q2 hw8
 go_wp2_with fail
 refine (refFix_any w9 w5.heap.size _ _ s 2 ho9 hb59.size (by simp [fixB_length]) (by omega) (by omega) s0 (by omega) (by omega)).mono ?_
 rintro e wa ⟨va, rfl, hoa, hba⟩
 have hcv : (convert 188 9 va).run Tryz.prog wa = .ok (.string (strOfNums (wrL 1 ⟨k, m, l, s, t, b⟩))) wa := by
  have h := hoa.rd.conv
  rw [HR.out]
  simpa using h
 go_wp2
 go_ret2
 exact ⟨rfl, hB5.trans ((hb59.trans hba).mono hB5.size)⟩
theorem refEnc_2a (w : World) (x : It) (hx : ItOk x) (h1 : itEq (giveI 2 x) x = false) : Calls Tryz.prog 60 #[.int .i64 2, .agg (itC x)] w fun e w' => e = .returned (.tuple #[.string ⟨#[]⟩, .int .i64 11]) ∧ Below w.heap.size w w' := by
 obtain ⟨w1, hw1⟩ : ∃ w1, w.alloc (.cells (itC x) 130) = w1 := ⟨_, rfl⟩
 have hb1 : Below w.heap.size w w1 := by rw [← hw1]; exact (Below.refl _ w).alloc (Nat.le_refl _) _
 have hx1 : ItAt 130 w1 w.heap.size x := by rw [← hw1]; exact ItAt.laid _ w x
 obtain ⟨w2, hw2⟩ : ∃ w2, w1.alloc (.cells (itC it0) 130) = w2 := ⟨_, rfl⟩
 have hb2 : Below w1.heap.size w1 w2 := by rw [← hw2]; exact (Below.refl _ w1).alloc (Nat.le_refl _) _
 have hy2 : ItAt 130 w2 w1.heap.size it0 := by rw [← hw2]; exact ItAt.laid _ w1 it0
 obtain ⟨w3, hw3⟩ : ∃ w3, w2.setRow w1.heap.size (itC it0) = w3 := ⟨_, rfl⟩
 have hy3 : ItAt 130 w3 w1.heap.size it0 := by rw [← hw3]; exact hy2.setRow _
 have hb3 : Below w1.heap.size w1 w3 := by rw [← hw3]; exact below_setRow hb2 (Nat.le_refl _) _
 have hx3 := hx1.below hb3
 have hB3 : Below w.heap.size w w3 := thenB hb1 hb3
 have hz := zeroItemR
 have HX : Hid (x.bytes.length = 32) := hx.ch.1
 have hlt1 : w.heap.size < w1.heap.size := hx1.lt
 obtain ⟨k, m, l, s, t, b⟩ := x
 obtain ⟨w4, hw4⟩ : ∃ w4, w3.setCell ⟨w1.heap.size, 4, none⟩ (.int .u32 t) = w4 := ⟨_, rfl⟩
 have hb4 : Below w1.heap.size w1 w4 := by rw [← hw4]; exact hb3.setCell (Nat.le_refl _) _
 have hy4 : ItAt 130 w4 w1.heap.size ⟨0, 0, 0, 0, t, zeroC⟩ := by rw [← hw4]; exact hy3.putT t
 have hx4 := hx1.below hb4
 have hB4 : Below w.heap.size w w4 := thenB hb1 hb4
 have q4 : w3.cell? ⟨w.heap.size, 4, none⟩ = some (.int .u32 t) := hx3.c4
 have q5 : w3.cell? ⟨w1.heap.size, 4, none⟩ = some (.int .u32 0) := hy3.c4
 have f5 := hy3.fr 4
 have q6 : w4.cell? ⟨w.heap.size, 4, none⟩ = some (.int .u32 t) := hx4.c4
 have L3 : Hid _ := hx4.loadR hx.ch.1
 have L6 : Hid _ := hy4.loadR ch_zero.1
 rw [giveI_2] at h1
 have hne : ∀ W, (binOp .neq 130 (.agg (itC ⟨k, m, l, s, t, b⟩)) (.agg (itC ⟨0, 0, 0, 0, t, zeroC⟩))).run Tryz.prog W = .ok (.bool true) W := fun W => by rw [neq_itemsR W (x := ⟨k, m, l, s, t, b⟩) (y := ⟨0, 0, 0, 0, t, zeroC⟩) HX.out ch_zero.1, itEq_comm, h1]; rfl
 clear hx1 hx3 hy3 hb2 hb3
 go_enter Tryz.func60, Tryz.ntmps60
 go_wp2_with (first
  | (refine wpList_storeR rfl _ _ rfl w1.heap.size it0 it0 rfl rfl ch_zero.1 ch_zero.1 hy2 ?_)
  | (refine iloadG rfl 130 _ rfl _ rfl _ L3.out ?_)
  | (refine iloadG rfl 130 _ rfl _ rfl _ L6.out ?_))
 go_ret2
 exact ⟨rfl, hB4⟩
theorem refEnc_2b (w : World) (x : It) (hx : ItOk x) (h1 : itEq (giveI 2 x) x = true) (h2 : standsB 2 x = false) : Calls Tryz.prog 60 #[.int .i64 2, .agg (itC x)] w fun e w' => e = .returned (.tuple #[.string ⟨#[]⟩, .int .i64 11]) ∧ Below w.heap.size w w' := by
 obtain ⟨w1, hw1⟩ : ∃ w1, w.alloc (.cells (itC x) 130) = w1 := ⟨_, rfl⟩
 have hb1 : Below w.heap.size w w1 := by rw [← hw1]; exact (Below.refl _ w).alloc (Nat.le_refl _) _
 have hx1 : ItAt 130 w1 w.heap.size x := by rw [← hw1]; exact ItAt.laid _ w x
 obtain ⟨w2, hw2⟩ : ∃ w2, w1.alloc (.cells (itC it0) 130) = w2 := ⟨_, rfl⟩
 have hb2 : Below w1.heap.size w1 w2 := by rw [← hw2]; exact (Below.refl _ w1).alloc (Nat.le_refl _) _
 have hy2 : ItAt 130 w2 w1.heap.size it0 := by rw [← hw2]; exact ItAt.laid _ w1 it0
 obtain ⟨w3, hw3⟩ : ∃ w3, w2.setRow w1.heap.size (itC it0) = w3 := ⟨_, rfl⟩
 have hy3 : ItAt 130 w3 w1.heap.size it0 := by rw [← hw3]; exact hy2.setRow _
 have hb3 : Below w1.heap.size w1 w3 := by rw [← hw3]; exact below_setRow hb2 (Nat.le_refl _) _
 have hx3 := hx1.below hb3
 have hB3 : Below w.heap.size w w3 := thenB hb1 hb3
 have hz := zeroItemR
 have HX : Hid (x.bytes.length = 32) := hx.ch.1
 have hlt1 : w.heap.size < w1.heap.size := hx1.lt
 obtain ⟨k, m, l, s, t, b⟩ := x
 obtain ⟨w4, hw4⟩ : ∃ w4, w3.setCell ⟨w1.heap.size, 4, none⟩ (.int .u32 t) = w4 := ⟨_, rfl⟩
 have hb4 : Below w1.heap.size w1 w4 := by rw [← hw4]; exact hb3.setCell (Nat.le_refl _) _
 have hy4 : ItAt 130 w4 w1.heap.size ⟨0, 0, 0, 0, t, zeroC⟩ := by rw [← hw4]; exact hy3.putT t
 have hx4 := hx1.below hb4
 have hB4 : Below w.heap.size w w4 := thenB hb1 hb4
 have q4 : w3.cell? ⟨w.heap.size, 4, none⟩ = some (.int .u32 t) := hx3.c4
 have q5 : w3.cell? ⟨w1.heap.size, 4, none⟩ = some (.int .u32 0) := hy3.c4
 have f5 := hy3.fr 4
 have q6 : w4.cell? ⟨w.heap.size, 4, none⟩ = some (.int .u32 t) := hx4.c4
 have L3 : Hid _ := hx4.loadR hx.ch.1
 have L6 : Hid _ := hy4.loadR ch_zero.1
 rw [giveI_2] at h1
 have ht0 : t = 0 := by simpa [stands_2] using h2
 subst ht0
 have hne : ∀ W, (binOp .neq 130 (.agg (itC ⟨k, m, l, s, 0, b⟩)) (.agg (itC ⟨0, 0, 0, 0, 0, zeroC⟩))).run Tryz.prog W = .ok (.bool false) W := fun W => by rw [neq_itemsR W (x := ⟨k, m, l, s, 0, b⟩) (y := ⟨0, 0, 0, 0, 0, zeroC⟩) HX.out ch_zero.1, itEq_comm, h1]; rfl
 clear hx1 hx3 hy3 hb2 hb3
 clear h2
 go_enter Tryz.func60, Tryz.ntmps60
 go_wp2_with (first
  | (refine wpList_storeR rfl _ _ rfl w1.heap.size it0 it0 rfl rfl ch_zero.1 ch_zero.1 hy2 ?_)
  | (refine iloadG rfl 130 _ rfl _ rfl _ L3.out ?_)
  | (refine iloadG rfl 130 _ rfl _ rfl _ L6.out ?_))
 go_ret2
 exact ⟨rfl, hB4⟩
theorem refEnc_2c (w : World) (x : It) (hx : ItOk x) (h1 : itEq (giveI 2 x) x = true) (h2 : standsB 2 x = true) : Calls Tryz.prog 60 #[.int .i64 2, .agg (itC x)] w fun e w' => e = .returned (.tuple #[.string (strOfNums (wrL 2 x)), .int .i64 0]) ∧ Below w.heap.size w w' := by
 obtain ⟨w1, hw1⟩ : ∃ w1, w.alloc (.cells (itC x) 130) = w1 := ⟨_, rfl⟩
 have hb1 : Below w.heap.size w w1 := by rw [← hw1]; exact (Below.refl _ w).alloc (Nat.le_refl _) _
 have hx1 : ItAt 130 w1 w.heap.size x := by rw [← hw1]; exact ItAt.laid _ w x
 obtain ⟨w2, hw2⟩ : ∃ w2, w1.alloc (.cells (itC it0) 130) = w2 := ⟨_, rfl⟩
 have hb2 : Below w1.heap.size w1 w2 := by rw [← hw2]; exact (Below.refl _ w1).alloc (Nat.le_refl _) _
 have hy2 : ItAt 130 w2 w1.heap.size it0 := by rw [← hw2]; exact ItAt.laid _ w1 it0
 obtain ⟨w3, hw3⟩ : ∃ w3, w2.setRow w1.heap.size (itC it0) = w3 := ⟨_, rfl⟩
 have hy3 : ItAt 130 w3 w1.heap.size it0 := by rw [← hw3]; exact hy2.setRow _
 have hb3 : Below w1.heap.size w1 w3 := by rw [← hw3]; exact below_setRow hb2 (Nat.le_refl _) _
 have hx3 := hx1.below hb3
 have hB3 : Below w.heap.size w w3 := thenB hb1 hb3
 have hz := zeroItemR
 have HX : Hid (x.bytes.length = 32) := hx.ch.1
 have hlt1 : w.heap.size < w1.heap.size := hx1.lt
 obtain ⟨k, m, l, s, t, b⟩ := x
 obtain ⟨w4, hw4⟩ : ∃ w4, w3.setCell ⟨w1.heap.size, 4, none⟩ (.int .u32 t) = w4 := ⟨_, rfl⟩
 have hb4 : Below w1.heap.size w1 w4 := by rw [← hw4]; exact hb3.setCell (Nat.le_refl _) _
 have hy4 : ItAt 130 w4 w1.heap.size ⟨0, 0, 0, 0, t, zeroC⟩ := by rw [← hw4]; exact hy3.putT t
 have hx4 := hx1.below hb4
 have hB4 : Below w.heap.size w w4 := thenB hb1 hb4
 have q4 : w3.cell? ⟨w.heap.size, 4, none⟩ = some (.int .u32 t) := hx3.c4
 have q5 : w3.cell? ⟨w1.heap.size, 4, none⟩ = some (.int .u32 0) := hy3.c4
 have f5 := hy3.fr 4
 have q6 : w4.cell? ⟨w.heap.size, 4, none⟩ = some (.int .u32 t) := hx4.c4
 have L3 : Hid _ := hx4.loadR hx.ch.1
 have L6 : Hid _ := hy4.loadR ch_zero.1
 rw [giveI_2] at h1
 have hne : ∀ W, (binOp .neq 130 (.agg (itC ⟨k, m, l, s, t, b⟩)) (.agg (itC ⟨0, 0, 0, 0, t, zeroC⟩))).run Tryz.prog W = .ok (.bool false) W := fun W => by rw [neq_itemsR W (x := ⟨k, m, l, s, t, b⟩) (y := ⟨0, 0, 0, 0, t, zeroC⟩) HX.out ch_zero.1, itEq_comm, h1]; rfl
 clear hx1 hx3 hy3 hb2 hb3
 have t0 := hx.t0
 have t1 := hx.t1
 dsimp only at t0 t1
 have wt : IntKind.i64.wrap t = t := by rw [IntKind.wrap_i64]; omega
 have ht0 : t ≠ 0 := by simpa [stands_2] using h2
 have htI : (t == 0) = false := by rw [beq_eq_false_iff_ne]; exact ht0
 clear h2
 go_enter Tryz.func60, Tryz.ntmps60
 go_wp2_with (first
  | (refine wpList_storeR rfl _ _ rfl w1.heap.size it0 it0 rfl rfl ch_zero.1 ch_zero.1 hy2 ?_)
  | (refine iloadG rfl 130 _ rfl _ rfl _ L3.out ?_)
  | (refine iloadG rfl 130 _ rfl _ rfl _ L6.out ?_))
 refine (refFix_any w4 w4.heap.size _ [] t 4 (Own.nil _ _) (Nat.le_refl _) (by simp) (by omega) (by omega) t0 (by omega) (by omega)).mono ?_
 rintro e w5 ⟨v5, rfl, ho5, hb5⟩
 rw [List.nil_append] at ho5
 have hcv : (convert 188 9 v5).run Tryz.prog w5 = .ok (.string (strOfNums (wrL 2 ⟨k, m, l, s, t, b⟩))) w5 := ho5.rd.conv
 go_wp2
 go_ret2
 exact ⟨rfl, thenB hB4 hb5⟩
theorem refEnc_3a (w : World) (x : It) (hx : ItOk x) (h1 : itEq (giveI 3 x) x = false) : Calls Tryz.prog 60 #[.int .i64 3, .agg (itC x)] w fun e w' => e = .returned (.tuple #[.string ⟨#[]⟩, .int .i64 11]) ∧ Below w.heap.size w w' := by
 obtain ⟨w1, hw1⟩ : ∃ w1, w.alloc (.cells (itC x) 130) = w1 := ⟨_, rfl⟩
 have hb1 : Below w.heap.size w w1 := by rw [← hw1]; exact (Below.refl _ w).alloc (Nat.le_refl _) _
 have hx1 : ItAt 130 w1 w.heap.size x := by rw [← hw1]; exact ItAt.laid _ w x
 obtain ⟨w2, hw2⟩ : ∃ w2, w1.alloc (.cells (itC it0) 130) = w2 := ⟨_, rfl⟩
 have hb2 : Below w1.heap.size w1 w2 := by rw [← hw2]; exact (Below.refl _ w1).alloc (Nat.le_refl _) _
 have hy2 : ItAt 130 w2 w1.heap.size it0 := by rw [← hw2]; exact ItAt.laid _ w1 it0
 obtain ⟨w3, hw3⟩ : ∃ w3, w2.setRow w1.heap.size (itC it0) = w3 := ⟨_, rfl⟩
 have hy3 : ItAt 130 w3 w1.heap.size it0 := by rw [← hw3]; exact hy2.setRow _
 have hb3 : Below w1.heap.size w1 w3 := by rw [← hw3]; exact below_setRow hb2 (Nat.le_refl _) _
 have hx3 := hx1.below hb3
 have hB3 : Below w.heap.size w w3 := thenB hb1 hb3
 have hz := zeroItemR
 have HX : Hid (x.bytes.length = 32) := hx.ch.1
 have hlt1 : w.heap.size < w1.heap.size := hx1.lt
 obtain ⟨k, m, l, s, t, b⟩ := x
 obtain ⟨w4, hw4⟩ : ∃ w4, w3.setCells w1.heap.size 5 (b.map (Value.int .u8)) = w4 := ⟨_, rfl⟩
 have hb4 : Below w1.heap.size w1 w4 := by rw [← hw4]; exact below_setCells (Nat.le_refl _) _ _ _ hb3
 have hy4 : ItAt 130 w4 w1.heap.size ⟨0, 0, 0, 0, 0, b⟩ := by rw [← hw4]; exact hy3.putC ch_zero.1 b hx.ch.1
 have hx4 := hx1.below hb4
 have hB4 : Below w.heap.size w w4 := thenB hb1 hb4
 have HT : Hid (w3.there w1.heap.size 5 (bytesV b).size) := by unfold Hid; rw [bytesV_size, HX.out]; exact hy3.there ch_zero.1 5 32 (by omega)
 have HS : Hid ((Tryz.prog.info? 115).map (·.size) = some (bytesV b).size) := by unfold Hid; rw [bytesV_size, HX.out]; exact size_chunk
 have LC : Hid _ := hx3.loadC hx.ch.1
 have L3 : Hid _ := hx4.loadR hx.ch.1
 have L6 : Hid _ := hy4.loadR hx.ch.1
 rw [giveI_3 (by decide) (by decide)] at h1
 have hne : ∀ W, (binOp .neq 130 (.agg (itC ⟨k, m, l, s, t, b⟩)) (.agg (itC ⟨0, 0, 0, 0, 0, b⟩))).run Tryz.prog W = .ok (.bool true) W := fun W => by rw [neq_itemsR W (x := ⟨k, m, l, s, t, b⟩) (y := ⟨0, 0, 0, 0, 0, b⟩) HX.out HX.out, itEq_comm, h1]; rfl
 clear hx1 hx3 hy3 hb2 hb3
 go_enter Tryz.func60, Tryz.ntmps60
 go_wp2_with (first
  | (refine wpList_storeR rfl _ _ rfl w1.heap.size it0 it0 rfl rfl ch_zero.1 ch_zero.1 hy2 ?_)
  | (refine iloadG rfl 115 _ rfl _ rfl _ LC.out ?_)
  | (refine wpList_store_mid rfl 115 _ _ rfl w1.heap.size 5 (bytesV b) rfl rfl HT.out HS.out (one_bytes b) ?_; rw [show (bytesV b).toList = b.map (Value.int .u8) from rfl, hw4])
  | (refine iloadG rfl 130 _ rfl _ rfl _ L3.out ?_)
  | (refine iloadG rfl 130 _ rfl _ rfl _ L6.out ?_))
 go_ret2
 exact ⟨rfl, hB4⟩
theorem refEnc_3c (w : World) (x : It) (hx : ItOk x) (h1 : itEq (giveI 3 x) x = true) : Calls Tryz.prog 60 #[.int .i64 3, .agg (itC x)] w fun e w' => e = .returned (.tuple #[.string (strOfNums (wrL 3 x)), .int .i64 0]) ∧ Below w.heap.size w w' := by
 obtain ⟨w1, hw1⟩ : ∃ w1, w.alloc (.cells (itC x) 130) = w1 := ⟨_, rfl⟩
 have hb1 : Below w.heap.size w w1 := by rw [← hw1]; exact (Below.refl _ w).alloc (Nat.le_refl _) _
 have hx1 : ItAt 130 w1 w.heap.size x := by rw [← hw1]; exact ItAt.laid _ w x
 obtain ⟨w2, hw2⟩ : ∃ w2, w1.alloc (.cells (itC it0) 130) = w2 := ⟨_, rfl⟩
 have hb2 : Below w1.heap.size w1 w2 := by rw [← hw2]; exact (Below.refl _ w1).alloc (Nat.le_refl _) _
 have hy2 : ItAt 130 w2 w1.heap.size it0 := by rw [← hw2]; exact ItAt.laid _ w1 it0
 obtain ⟨w3, hw3⟩ : ∃ w3, w2.setRow w1.heap.size (itC it0) = w3 := ⟨_, rfl⟩
 have hy3 : ItAt 130 w3 w1.heap.size it0 := by rw [← hw3]; exact hy2.setRow _
 have hb3 : Below w1.heap.size w1 w3 := by rw [← hw3]; exact below_setRow hb2 (Nat.le_refl _) _
 have hx3 := hx1.below hb3
 have hB3 : Below w.heap.size w w3 := thenB hb1 hb3
 have hz := zeroItemR
 have HX : Hid (x.bytes.length = 32) := hx.ch.1
 have hlt1 : w.heap.size < w1.heap.size := hx1.lt
 obtain ⟨k, m, l, s, t, b⟩ := x
 obtain ⟨w4, hw4⟩ : ∃ w4, w3.setCells w1.heap.size 5 (b.map (Value.int .u8)) = w4 := ⟨_, rfl⟩
 have hb4 : Below w1.heap.size w1 w4 := by rw [← hw4]; exact below_setCells (Nat.le_refl _) _ _ _ hb3
 have hy4 : ItAt 130 w4 w1.heap.size ⟨0, 0, 0, 0, 0, b⟩ := by rw [← hw4]; exact hy3.putC ch_zero.1 b hx.ch.1
 have hx4 := hx1.below hb4
 have hB4 : Below w.heap.size w w4 := thenB hb1 hb4
 have HT : Hid (w3.there w1.heap.size 5 (bytesV b).size) := by unfold Hid; rw [bytesV_size, HX.out]; exact hy3.there ch_zero.1 5 32 (by omega)
 have HS : Hid ((Tryz.prog.info? 115).map (·.size) = some (bytesV b).size) := by unfold Hid; rw [bytesV_size, HX.out]; exact size_chunk
 have LC : Hid _ := hx3.loadC hx.ch.1
 have L3 : Hid _ := hx4.loadR hx.ch.1
 have L6 : Hid _ := hy4.loadR hx.ch.1
 rw [giveI_3 (by decide) (by decide)] at h1
 have hne : ∀ W, (binOp .neq 130 (.agg (itC ⟨k, m, l, s, t, b⟩)) (.agg (itC ⟨0, 0, 0, 0, 0, b⟩))).run Tryz.prog W = .ok (.bool false) W := fun W => by rw [neq_itemsR W (x := ⟨k, m, l, s, t, b⟩) (y := ⟨0, 0, 0, 0, 0, b⟩) HX.out HX.out, itEq_comm, h1]; rfl
 have hrd : Rd w4 (.slice (some ⟨w.heap.size, 5, none⟩) 32 32) b := by
  have hl := HX.out
  dsimp only at hl
  refine ⟨_, 32, by rw [hl], by rw [hl]; omega, by unfold maxLen; omega, (by intro e; cases e), fun _ => ⟨_, 5, rfl, hx4.lt, fun i hi => ?_⟩⟩
  exact hx4.range i _ (by simp [List.getElem?_eq_getElem hi])
 have hcv := hrd.conv
 rw [wrL_3 (by decide) (by decide)]
 dsimp only
 clear hx1 hx3 hy3 hb2 hb3
 go_enter Tryz.func60, Tryz.ntmps60
 go_wp2_with (first
  | (refine wpList_storeR rfl _ _ rfl w1.heap.size it0 it0 rfl rfl ch_zero.1 ch_zero.1 hy2 ?_)
  | (refine iloadG rfl 115 _ rfl _ rfl _ LC.out ?_)
  | (refine wpList_store_mid rfl 115 _ _ rfl w1.heap.size 5 (bytesV b) rfl rfl HT.out HS.out (one_bytes b) ?_; rw [show (bytesV b).toList = b.map (Value.int .u8) from rfl, hw4])
  | (refine iloadG rfl 130 _ rfl _ rfl _ L3.out ?_)
  | (refine iloadG rfl 130 _ rfl _ rfl _ L6.out ?_))
 go_ret2
 exact ⟨rfl, hB4⟩
theorem refEnc_any (w : World) (p : Int) (x : It) (hx : ItOk x) : Calls Tryz.prog 60 #[.int .i64 p, .agg (itC x)] w fun e w' => e = .returned (.tuple #[.string (encS p x), .int .i64 (encE p x)]) ∧ Below w.heap.size w w' := by
 rcases wid_cases p with ⟨rfl, hw⟩ | ⟨rfl, hw⟩ | ⟨rfl, hw⟩ | ⟨h1, h2, h3, hw⟩
 ·have hp : wid 1 ≠ 0 := by decide
  cases h1 : itEq (giveI 1 x) x with
  | false =>
   obtain ⟨e1, e2⟩ := enc_no hp (x := x) (by unfold encOk; rw [h1]; rfl)
   rw [e1, e2]; exact refEnc_1a w x hx h1
  | true =>
   cases h2 : standsB 1 x with
   | false =>
    obtain ⟨e1, e2⟩ := enc_no hp (x := x) (by unfold encOk; rw [h1, h2]; rfl)
    rw [e1, e2]; exact refEnc_1b w x hx h1 h2
   | true =>
    obtain ⟨e1, e2⟩ := enc_yes hp (x := x) (by unfold encOk; rw [h1, h2]; rfl)
    rw [e1, e2]; exact refEnc_1c w x hx h1 h2
 ·have hp : wid 2 ≠ 0 := by decide
  cases h1 : itEq (giveI 2 x) x with
  | false =>
   obtain ⟨e1, e2⟩ := enc_no hp (x := x) (by unfold encOk; rw [h1]; rfl)
   rw [e1, e2]; exact refEnc_2a w x hx h1
  | true =>
   cases h2 : standsB 2 x with
   | false =>
    obtain ⟨e1, e2⟩ := enc_no hp (x := x) (by unfold encOk; rw [h1, h2]; rfl)
    rw [e1, e2]; exact refEnc_2b w x hx h1 h2
   | true =>
    obtain ⟨e1, e2⟩ := enc_yes hp (x := x) (by unfold encOk; rw [h1, h2]; rfl)
    rw [e1, e2]; exact refEnc_2c w x hx h1 h2
 ·have hp : wid 3 ≠ 0 := by decide
  cases h1 : itEq (giveI 3 x) x with
  | false =>
   obtain ⟨e1, e2⟩ := enc_no hp (x := x) (by unfold encOk; rw [h1]; rfl)
   rw [e1, e2]; exact refEnc_3a w x hx h1
  | true =>
   obtain ⟨e1, e2⟩ := enc_yes hp (x := x) (by unfold encOk; rw [h1]; rfl)
   rw [e1, e2]; exact refEnc_3c w x hx h1
 ·obtain ⟨e1, e2⟩ := enc_arg hw x
  rw [e1, e2]
  exact refEnc_z w p x hx h1 h2 h3
theorem fixB1 (N : Nat) : fixB N 1 = [((N % 256 : Nat) : Int)] := by simp [fixB, dig]
theorem fixB2 (N : Nat) : fixB N 2 = [((N / 256 % 256 : Nat) : Int), ((N % 256 : Nat) : Int)] := by simp [fixB, dig, List.range_succ]
theorem fixB4 (N : Nat) : fixB N 4 = [((N / 16777216 % 256 : Nat) : Int), ((N / 65536 % 256 : Nat) : Int), ((N / 256 % 256 : Nat) : Int), ((N % 256 : Nat) : Int)] := by simp [fixB, dig, List.range_succ]
theorem fixB_val1 (xs : List Int) (h : Byt xs) (hl : xs.length = 1) : fixB (valB xs) 1 = xs := by
 match xs, hl with
 | [a], _ =>
  have ha := h a (by simp)
  rw [fixB1]
  simp only [valB, List.foldl_cons, List.foldl_nil]
  congr 1
  omega
theorem fixB_val2 (xs : List Int) (h : Byt xs) (hl : xs.length = 2) : fixB (valB xs) 2 = xs := by
 match xs, hl with
 | [a, b], _ =>
  have ha := h a (by simp)
  have hb := h b (by simp)
  rw [fixB2]
  simp only [valB, List.foldl_cons, List.foldl_nil]
  refine List.cons_eq_cons.2 ⟨by omega, List.cons_eq_cons.2 ⟨by omega, rfl⟩⟩
theorem fixB_val4 (xs : List Int) (h : Byt xs) (hl : xs.length = 4) : fixB (valB xs) 4 = xs := by
 match xs, hl with
 | [a, b, c, d], _ =>
  have ha := h a (by simp)
  have hb := h b (by simp)
  have hc := h c (by simp)
  have hd := h d (by simp)
  rw [fixB4]
  simp only [valB, List.foldl_cons, List.foldl_nil]
  refine List.cons_eq_cons.2 ⟨by omega, List.cons_eq_cons.2 ⟨by omega, List.cons_eq_cons.2 ⟨by omega, List.cons_eq_cons.2 ⟨by omega, rfl⟩⟩⟩⟩
theorem wrL_rdI {p : Int} {xs : List Int} (h : Byt xs) (hl : (xs.length : Int) = wid p) (hp : wid p ≠ 0) : wrL p (rdI p xs) = xs := by
 rcases wid_cases p with ⟨rfl, hw⟩ | ⟨rfl, hw⟩ | ⟨rfl, hw⟩ | ⟨h1, h2, h3, hw⟩
 ·rw [wrL_1, rdI_1]
  rw [hw] at hl
  dsimp only
  unfold recL
  rw [Int.toNat_natCast, Int.toNat_natCast, Int.toNat_natCast, Int.toNat_natCast]
  rw [fixB_val1 _ (h.take 1) (by simp; omega), fixB_val2 _ ((h.drop 1).take 2) (by simp; omega), fixB_val1 _ ((h.drop 3).take 1) (by simp; omega), fixB_val2 _ ((h.drop 4).take 2) (by simp; omega)]
  match xs, hl with
  | [a, b, c, d, e, f], _ => rfl
 ·rw [wrL_2, rdI_2]
  rw [hw] at hl
  dsimp only
  rw [Int.toNat_natCast, fixB_val4 xs h (by omega)]
 ·rw [wrL_3 (by decide) (by decide), rdI_3 (by decide) (by decide)]
 ·exact absurd hw hp
theorem ret_itemR2 {fn : Func} {Rr : Ending → World → Prop} {a : Act} {w : World} {p u : Tmp} (h : fn.results = #[.cell p 130, .tmp u]) (g : Nat) (x : It) (hx : x.bytes.length = 32) (hp : a.tmps.getD p undef = .pointer (some ⟨g, 0, none⟩)) (v : Value) (hu : a.tmps.getD u undef = v)
  (hg : ItAt 130 w g x) (hd : a.defers = []) (hR : Rr (.returned (.tuple #[.agg (itC x), v])) w) : bodyPost Tryz.prog fn Rr .ret a w := by
 refine bodyPost_ret ?_ hd hR
 have hp' : a.tmps[p]?.getD undef = .pointer (some ⟨g, 0, none⟩) := by simpa using hp
 have hu' : a.tmps[u]?.getD undef = v := by simpa using hu
 have hl := run_loadVar_row (P := Tryz.prog) w g _ 130 (itC x) _ _ hg.row Tryz.underlying130 rfl (by rw [itC_size hx]; exact size_itemR)
 simp [results, h, hp', hu', asAddr, hl, Result.andThen]
theorem strB_extract (s : ByteArray) (i j : Nat) (hj : j ≤ s.size) : strB (s.extract i j) = ((strB s).drop i).take (j - i) := by
 have e : (s.extract i j).data.toList = (s.data.toList.drop i).take (j - i) := by
  rw [ByteArray.data_extract, Array.toList_extract, List.extract_eq_take_drop]
 unfold strB
 rw [e, List.map_take, List.map_drop]
theorem extract_size (s : ByteArray) (i j : Nat) (hj : j ≤ s.size) : (s.extract i j).size = j - i := by
 rw [ByteArray.size_extract]; omega
theorem str_ne {a b : ByteArray} (h : a ≠ b) : (a.toList == b.toList) = false := by
 rw [beq_eq_false_iff_ne]
 intro e
 rw [ByteArray.toList_eq, ByteArray.toList_eq] at e
 obtain ⟨d⟩ := a
 obtain ⟨d'⟩ := b
 exact h (congrArg ByteArray.mk (Array.ext' e))
theorem refDec_z0 (w : World) (p : Int) (s : ByteArray) (h : p < 1) : Calls Tryz.prog 225 #[.int .i64 p, .string s] w fun e w' => e = .returned (.tuple #[.agg (itC it0), .int .i64 1]) ∧ Below w.heap.size w w' := by
 obtain ⟨w1, hw1⟩ : ∃ w1, w.alloc (.cells (itC it0) 130) = w1 := ⟨_, rfl⟩
 have hb1 : Below w.heap.size w w1 := by rw [← hw1]; exact (Below.refl _ w).alloc (Nat.le_refl _) _
 have hx1 : ItAt 130 w1 w.heap.size it0 := by rw [← hw1]; exact ItAt.laid _ w it0
 obtain ⟨w2, hw2⟩ : ∃ w2, w1.alloc (.cells (itC it0) 130) = w2 := ⟨_, rfl⟩
 have hb2 : Below w1.heap.size w1 w2 := by rw [← hw2]; exact (Below.refl _ w1).alloc (Nat.le_refl _) _
 have hy2 : ItAt 130 w2 w1.heap.size it0 := by rw [← hw2]; exact ItAt.laid _ w1 it0
 obtain ⟨w3, hw3⟩ : ∃ w3, w2.setRow w1.heap.size (itC it0) = w3 := ⟨_, rfl⟩
 have hy3 : ItAt 130 w3 w1.heap.size it0 := by rw [← hw3]; exact hy2.setRow _
 have hb3 : Below w1.heap.size w1 w3 := by rw [← hw3]; exact below_setRow hb2 (Nat.le_refl _) _
 have hz := zeroItemR
 have hx3 := hx1.below hb3
 have hB3 := thenB hb1 hb3
 clear hx1 hy3 hb3 hb2
 go_enter Tryz.func225, Tryz.ntmps225
 go_wp2_with (first
  | (refine wpList_storeR rfl _ _ rfl w1.heap.size it0 it0 rfl rfl ch_zero.1 ch_zero.1 hy2 ?_)
  | (refine wpList_storeR rfl _ _ rfl w.heap.size it0 it0 rfl rfl ch_zero.1 ch_zero.1 hx3 ?_))
 exact ret_itemR2 rfl w.heap.size it0 ch_zero.1 rfl _ rfl (hx3.setRow _) rfl ⟨rfl, below_setRow hB3 (Nat.le_refl _) _⟩
theorem refDec_z1 (w : World) (p : Int) (s : ByteArray) (h0 : 1 ≤ p) (h : 3 < p) : Calls Tryz.prog 225 #[.int .i64 p, .string s] w fun e w' => e = .returned (.tuple #[.agg (itC it0), .int .i64 1]) ∧ Below w.heap.size w w' := by
 obtain ⟨w1, hw1⟩ : ∃ w1, w.alloc (.cells (itC it0) 130) = w1 := ⟨_, rfl⟩
 have hb1 : Below w.heap.size w w1 := by rw [← hw1]; exact (Below.refl _ w).alloc (Nat.le_refl _) _
 have hx1 : ItAt 130 w1 w.heap.size it0 := by rw [← hw1]; exact ItAt.laid _ w it0
 obtain ⟨w2, hw2⟩ : ∃ w2, w1.alloc (.cells (itC it0) 130) = w2 := ⟨_, rfl⟩
 have hb2 : Below w1.heap.size w1 w2 := by rw [← hw2]; exact (Below.refl _ w1).alloc (Nat.le_refl _) _
 have hy2 : ItAt 130 w2 w1.heap.size it0 := by rw [← hw2]; exact ItAt.laid _ w1 it0
 obtain ⟨w3, hw3⟩ : ∃ w3, w2.setRow w1.heap.size (itC it0) = w3 := ⟨_, rfl⟩
 have hy3 : ItAt 130 w3 w1.heap.size it0 := by rw [← hw3]; exact hy2.setRow _
 have hb3 : Below w1.heap.size w1 w3 := by rw [← hw3]; exact below_setRow hb2 (Nat.le_refl _) _
 have hz := zeroItemR
 have hx3 := hx1.below hb3
 have hB3 := thenB hb1 hb3
 clear hx1 hy3 hb3 hb2
 go_enter Tryz.func225, Tryz.ntmps225
 go_wp2_with (first
  | (refine wpList_storeR rfl _ _ rfl w1.heap.size it0 it0 rfl rfl ch_zero.1 ch_zero.1 hy2 ?_)
  | (refine wpList_storeR rfl _ _ rfl w.heap.size it0 it0 rfl rfl ch_zero.1 ch_zero.1 hx3 ?_))
 exact ret_itemR2 rfl w.heap.size it0 ch_zero.1 rfl _ rfl (hx3.setRow _) rfl ⟨rfl, below_setRow hB3 (Nat.le_refl _) _⟩
theorem refDec_b1 (w : World) (s : ByteArray) (h : s.size ≠ 6) : Calls Tryz.prog 225 #[.int .i64 1, .string s] w fun e w' => e = .returned (.tuple #[.agg (itC it0), .int .i64 11]) ∧ Below w.heap.size w w' := by
 obtain ⟨w1, hw1⟩ : ∃ w1, w.alloc (.cells (itC it0) 130) = w1 := ⟨_, rfl⟩
 have hb1 : Below w.heap.size w w1 := by rw [← hw1]; exact (Below.refl _ w).alloc (Nat.le_refl _) _
 have hx1 : ItAt 130 w1 w.heap.size it0 := by rw [← hw1]; exact ItAt.laid _ w it0
 obtain ⟨w2, hw2⟩ : ∃ w2, w1.alloc (.cells (itC it0) 130) = w2 := ⟨_, rfl⟩
 have hb2 : Below w1.heap.size w1 w2 := by rw [← hw2]; exact (Below.refl _ w1).alloc (Nat.le_refl _) _
 have hy2 : ItAt 130 w2 w1.heap.size it0 := by rw [← hw2]; exact ItAt.laid _ w1 it0
 obtain ⟨w3, hw3⟩ : ∃ w3, w2.setRow w1.heap.size (itC it0) = w3 := ⟨_, rfl⟩
 have hy3 : ItAt 130 w3 w1.heap.size it0 := by rw [← hw3]; exact hy2.setRow _
 have hb3 : Below w1.heap.size w1 w3 := by rw [← hw3]; exact below_setRow hb2 (Nat.le_refl _) _
 have hz := zeroItemR
 have hsI : ((s.size : Int) == 6) = false := by rw [beq_eq_false_iff_ne]; omega
 have L3 : Hid _ := hy3.loadR ch_zero.1
 have hen : ∀ W, Calls Tryz.prog 60 #[.int .i64 1, .agg (itC it0)] W fun e w' => e = .returned (.tuple #[.string ⟨#[]⟩, .int .i64 11]) ∧ Below W.heap.size W w' := fun W => by
  have := refEnc_any W 1 it0 it0_ok
  obtain ⟨e1, e2⟩ := enc_no (p := 1) (by decide) (x := it0) (by decide)
  rwa [e1, e2] at this
 clear hb2 h
 go_enter Tryz.func225, Tryz.ntmps225
 go_wp2_with (first
  | (refine wpList_storeR rfl _ _ rfl w1.heap.size it0 it0 rfl rfl ch_zero.1 ch_zero.1 hy2 ?_)
  | (refine iloadG rfl 130 _ rfl _ rfl _ L3.out ?_))
 clear L3 hy2 hw1 hw2 hw3
 refine (hen _).mono ?_
 rintro e w5 ⟨rfl, hb5⟩
 have hb15 := thenB hb3 hb5
 have hx5 := hx1.below hb15
 have hy5 := hy3.below hb5
 have hB5 := thenB hb1 hb15
 clear hen hx1 hy3 hb3
 go_wp2_with (refine wpList_storeR rfl _ _ rfl w.heap.size it0 it0 rfl rfl ch_zero.1 ch_zero.1 hx5 ?_)
 exact ret_itemR2 rfl w.heap.size it0 ch_zero.1 rfl _ rfl (hx5.setRow _) rfl ⟨rfl, below_setRow hB5 (Nat.le_refl _) _⟩
theorem refDec_b2 (w : World) (s : ByteArray) (h : s.size ≠ 4) : Calls Tryz.prog 225 #[.int .i64 2, .string s] w fun e w' => e = .returned (.tuple #[.agg (itC it0), .int .i64 11]) ∧ Below w.heap.size w w' := by
 obtain ⟨w1, hw1⟩ : ∃ w1, w.alloc (.cells (itC it0) 130) = w1 := ⟨_, rfl⟩
 have hb1 : Below w.heap.size w w1 := by rw [← hw1]; exact (Below.refl _ w).alloc (Nat.le_refl _) _
 have hx1 : ItAt 130 w1 w.heap.size it0 := by rw [← hw1]; exact ItAt.laid _ w it0
 obtain ⟨w2, hw2⟩ : ∃ w2, w1.alloc (.cells (itC it0) 130) = w2 := ⟨_, rfl⟩
 have hb2 : Below w1.heap.size w1 w2 := by rw [← hw2]; exact (Below.refl _ w1).alloc (Nat.le_refl _) _
 have hy2 : ItAt 130 w2 w1.heap.size it0 := by rw [← hw2]; exact ItAt.laid _ w1 it0
 obtain ⟨w3, hw3⟩ : ∃ w3, w2.setRow w1.heap.size (itC it0) = w3 := ⟨_, rfl⟩
 have hy3 : ItAt 130 w3 w1.heap.size it0 := by rw [← hw3]; exact hy2.setRow _
 have hb3 : Below w1.heap.size w1 w3 := by rw [← hw3]; exact below_setRow hb2 (Nat.le_refl _) _
 have hz := zeroItemR
 have hsI : ((s.size : Int) == 4) = false := by rw [beq_eq_false_iff_ne]; omega
 have L3 : Hid _ := hy3.loadR ch_zero.1
 have hen : ∀ W, Calls Tryz.prog 60 #[.int .i64 2, .agg (itC it0)] W fun e w' => e = .returned (.tuple #[.string ⟨#[]⟩, .int .i64 11]) ∧ Below W.heap.size W w' := fun W => by
  have := refEnc_any W 2 it0 it0_ok
  obtain ⟨e1, e2⟩ := enc_no (p := 2) (by decide) (x := it0) (by decide)
  rwa [e1, e2] at this
 clear hb2 h
 go_enter Tryz.func225, Tryz.ntmps225
 go_wp2_with (first
  | (refine wpList_storeR rfl _ _ rfl w1.heap.size it0 it0 rfl rfl ch_zero.1 ch_zero.1 hy2 ?_)
  | (refine iloadG rfl 130 _ rfl _ rfl _ L3.out ?_))
 clear L3 hy2 hw1 hw2 hw3
 refine (hen _).mono ?_
 rintro e w5 ⟨rfl, hb5⟩
 have hb15 := thenB hb3 hb5
 have hx5 := hx1.below hb15
 have hy5 := hy3.below hb5
 have hB5 := thenB hb1 hb15
 clear hen hx1 hy3 hb3
 go_wp2_with (refine wpList_storeR rfl _ _ rfl w.heap.size it0 it0 rfl rfl ch_zero.1 ch_zero.1 hx5 ?_)
 exact ret_itemR2 rfl w.heap.size it0 ch_zero.1 rfl _ rfl (hx5.setRow _) rfl ⟨rfl, below_setRow hB5 (Nat.le_refl _) _⟩
theorem refDec_b3 (w : World) (s : ByteArray) (h : s.size ≠ 32) : Calls Tryz.prog 225 #[.int .i64 3, .string s] w fun e w' => e = .returned (.tuple #[.agg (itC it0), .int .i64 11]) ∧ Below w.heap.size w w' := by
 obtain ⟨w1, hw1⟩ : ∃ w1, w.alloc (.cells (itC it0) 130) = w1 := ⟨_, rfl⟩
 have hb1 : Below w.heap.size w w1 := by rw [← hw1]; exact (Below.refl _ w).alloc (Nat.le_refl _) _
 have hx1 : ItAt 130 w1 w.heap.size it0 := by rw [← hw1]; exact ItAt.laid _ w it0
 obtain ⟨w2, hw2⟩ : ∃ w2, w1.alloc (.cells (itC it0) 130) = w2 := ⟨_, rfl⟩
 have hb2 : Below w1.heap.size w1 w2 := by rw [← hw2]; exact (Below.refl _ w1).alloc (Nat.le_refl _) _
 have hy2 : ItAt 130 w2 w1.heap.size it0 := by rw [← hw2]; exact ItAt.laid _ w1 it0
 obtain ⟨w3, hw3⟩ : ∃ w3, w2.setRow w1.heap.size (itC it0) = w3 := ⟨_, rfl⟩
 have hy3 : ItAt 130 w3 w1.heap.size it0 := by rw [← hw3]; exact hy2.setRow _
 have hb3 : Below w1.heap.size w1 w3 := by rw [← hw3]; exact below_setRow hb2 (Nat.le_refl _) _
 have hz := zeroItemR
 have hsI : ((s.size : Int) == 32) = false := by rw [beq_eq_false_iff_ne]; omega
 have L3 : Hid _ := hy3.loadR ch_zero.1
 have HZ : Hid ((strOfNums zeroC).size = 32) := by unfold Hid; rw [istrOfNums_size]; exact ch_zero.1
 have hen : ∀ W, Calls Tryz.prog 60 #[.int .i64 3, .agg (itC it0)] W fun e w' => e = .returned (.tuple #[.string (strOfNums zeroC), .int .i64 0]) ∧ Below W.heap.size W w' := fun W => by
  have := refEnc_any W 3 it0 it0_ok
  obtain ⟨e1, e2⟩ := enc_yes (p := 3) (by decide) (x := it0) (by decide)
  rwa [e1, e2] at this
 have hSe : ((strOfNums zeroC).toList == s.toList) = false := str_ne fun h => by have := HZ.out; rw [h] at this; omega
 generalize strOfNums zeroC = S at *
 clear hb2 h
 go_enter Tryz.func225, Tryz.ntmps225
 go_wp2_with (first
  | (refine wpList_storeR rfl _ _ rfl w1.heap.size it0 it0 rfl rfl ch_zero.1 ch_zero.1 hy2 ?_)
  | (refine iloadG rfl 130 _ rfl _ rfl _ L3.out ?_))
 clear L3 hy2 hw1 hw2 hw3
 refine (hen _).mono ?_
 rintro e w5 ⟨rfl, hb5⟩
 have hb15 := thenB hb3 hb5
 have hx5 := hx1.below hb15
 have hy5 := hy3.below hb5
 have hB5 := thenB hb1 hb15
 clear hen hx1 hy3 hb3
 go_wp2_with (refine wpList_storeR rfl _ _ rfl w.heap.size it0 it0 rfl rfl ch_zero.1 ch_zero.1 hx5 ?_)
 exact ret_itemR2 rfl w.heap.size it0 ch_zero.1 rfl _ rfl (hx5.setRow _) rfl ⟨rfl, below_setRow hB5 (Nat.le_refl _) _⟩
theorem refDec_1ok (w : World) (s : ByteArray) (h : s.size = 6) (hs : standsB 1 (rdI 1 (strB s)) = true) : Calls Tryz.prog 225 #[.int .i64 1, .string s] w fun e w' => e = .returned (.tuple #[.agg (itC (rdI 1 (strB s))), .int .i64 0]) ∧ Below w.heap.size w w' := by
 obtain ⟨w1, hw1⟩ : ∃ w1, w.alloc (.cells (itC it0) 130) = w1 := ⟨_, rfl⟩
 have hb1 : Below w.heap.size w w1 := by rw [← hw1]; exact (Below.refl _ w).alloc (Nat.le_refl _) _
 have hx1 : ItAt 130 w1 w.heap.size it0 := by rw [← hw1]; exact ItAt.laid _ w it0
 obtain ⟨w2, hw2⟩ : ∃ w2, w1.alloc (.cells (itC it0) 130) = w2 := ⟨_, rfl⟩
 have hb2 : Below w1.heap.size w1 w2 := by rw [← hw2]; exact (Below.refl _ w1).alloc (Nat.le_refl _) _
 have hy2 : ItAt 130 w2 w1.heap.size it0 := by rw [← hw2]; exact ItAt.laid _ w1 it0
 obtain ⟨w3, hw3⟩ : ∃ w3, w2.setRow w1.heap.size (itC it0) = w3 := ⟨_, rfl⟩
 have hy3 : ItAt 130 w3 w1.heap.size it0 := by rw [← hw3]; exact hy2.setRow _
 have hb3 : Below w1.heap.size w1 w3 := by rw [← hw3]; exact below_setRow hb2 (Nat.le_refl _) _
 have hz := zeroItemR
 have hlB : ((strB s).length : Int) = wid 1 := by rw [strB_length, h]; rfl
 have hok := rdI_ok 1 (strB s) (strB_byt s) hlB (by decide)
 have hsI : (s.size : Int) = 6 := by omega
 have hen0 := refEnc_any
 have z0 := strB_extract s 0 1 (by omega)
 have z1 := strB_extract s 1 3 (by omega)
 have z2 := strB_extract s 3 4 (by omega)
 have z3 := strB_extract s 4 6 (by omega)
 rw [List.drop_zero] at z0
 have n0 : ∀ W, Calls Tryz.prog 248 #[.string (s.extract 0 1)] W fun e w' => e = .returned (.int .i64 (valB ((strB s).take 1))) ∧ W = w' := fun W => by have := refNum_any W (s.extract 0 1) (by rw [extract_size _ _ _ (by omega)]; omega); rwa [z0] at this
 have n1 : ∀ W, Calls Tryz.prog 248 #[.string (s.extract 1 3)] W fun e w' => e = .returned (.int .i64 (valB (((strB s).drop 1).take 2))) ∧ W = w' := fun W => by have := refNum_any W (s.extract 1 3) (by rw [extract_size _ _ _ (by omega)]; omega); rwa [z1] at this
 have n2 : ∀ W, Calls Tryz.prog 248 #[.string (s.extract 3 4)] W fun e w' => e = .returned (.int .i64 (valB (((strB s).drop 3).take 1))) ∧ W = w' := fun W => by have := refNum_any W (s.extract 3 4) (by rw [extract_size _ _ _ (by omega)]; omega); rwa [z2] at this
 have n3 : ∀ W, Calls Tryz.prog 248 #[.string (s.extract 4 6)] W fun e w' => e = .returned (.int .i64 (valB (((strB s).drop 4).take 2))) ∧ W = w' := fun W => by have := refNum_any W (s.extract 4 6) (by rw [extract_size _ _ _ (by omega)]; omega); rwa [z3] at this
 have hen : ∀ W, Calls Tryz.prog 60 #[.int .i64 1, .agg (itC (rdI 1 (strB s)))] W fun e w' => e = .returned (.tuple #[.string s, .int .i64 0]) ∧ Below W.heap.size W w' := fun W => by
  have := refEnc_any W 1 (rdI 1 (strB s)) hok
  obtain ⟨e1, e2⟩ := enc_yes (p := 1) (by decide) (x := rdI 1 (strB s)) (encOk_iff.2 ⟨giveI_rdI _ _, hs⟩)
  rwa [e1, e2, wrL_rdI (strB_byt s) hlB (by decide), strOfNums_strB] at this
 rw [rdI_1] at hen ⊢
 clear hen0 z0 z1 z2 z3 hok hlB hs
 generalize valB ((strB s).take 1) = a0 at *
 generalize valB (((strB s).drop 1).take 2) = a1 at *
 generalize valB (((strB s).drop 3).take 1) = a2 at *
 generalize valB (((strB s).drop 4).take 2) = a3 at *
 have c0 : w3.cell? ⟨w1.heap.size, 0, none⟩ = some (.int .i64 0) := hy3.c0
 have c1 : w3.cell? ⟨w1.heap.size, 1, none⟩ = some (.int .i64 0) := hy3.c1
 have c2 : w3.cell? ⟨w1.heap.size, 2, none⟩ = some (.int .i64 0) := hy3.c2
 have c3 : w3.cell? ⟨w1.heap.size, 3, none⟩ = some (.int .i64 0) := hy3.c3
 have f0 := hy3.fr 0
 have f1 := hy3.fr 1
 have f2 := hy3.fr 2
 have f3 := hy3.fr 3
 obtain ⟨w4, hw4⟩ : ∃ w4, (w3.setCells w1.heap.size 0 [.int .i64 a0, .int .i64 a1, .int .i64 a2, .int .i64 a3]).drew = w4 := ⟨_, rfl⟩
 have hb4 : Below w1.heap.size w1 w4 := by rw [← hw4]; exact (below_setCells (Nat.le_refl _) _ _ _ hb3).drew
 have hy4 : ItAt 130 w4 w1.heap.size ⟨a0, a1, a2, a3, 0, zeroC⟩ := by rw [← hw4]; exact ⟨(hy3.putI ch_zero.1 _ _ _ _).row⟩
 have L4 : Hid _ := hy4.loadR ch_zero.1
 have HK : Hid (Below w1.heap.size w1 w4) := hb4
 have HW4 : Hid ((w3.setCells w1.heap.size 0 [.int .i64 a0, .int .i64 a1, .int .i64 a2, .int .i64 a3]).drew = w4) := hw4
 clear hb2 hy3 hw4
 go_enter Tryz.func225, Tryz.ntmps225
 go_wp2_with (refine wpList_storeR rfl _ _ rfl w1.heap.size it0 it0 rfl rfl ch_zero.1 ch_zero.1 hy2 ?_)
 refine wp_region_noPanic ?_
 refine wp_region_held_drew (S := fun W => Below w1.heap.size w1 W) (by kernel_rfl) hb3.drew (fun hHeld => ?_)
 refine tk 0 (.string s) rfl ?_
 simp only [nz]
 refine tk 1 (.string (s.extract 0 1)) rfl ?_
 simp only [nz]
 refine tk 3 (.string s) rfl ?_
 simp only [nz]
 refine tk 4 (.string (s.extract 1 3)) rfl ?_
 simp only [nz]
 refine tk 6 (.string s) rfl ?_
 simp only [nz]
 refine tk 7 (.string (s.extract 3 4)) rfl ?_
 simp only [nz]
 refine tk 9 (.string s) rfl ?_
 simp only [nz]
 refine tk 10 (.string (s.extract 4 6)) rfl ?_
 simp only [nz]
 refine rd 2 rfl (fun K hK => ?_)
 go_simp
 go_wp2_with (go_at_call 248; refine (n0 _).mono ?_; rintro e w' ⟨rfl, rfl⟩)
 refine hK.out _ _ (by assumption) (fun hHeld2 => ?_)
 clear hK K
 refine rd 5 rfl (fun K hK => ?_)
 go_simp
 go_wp2_with (go_at_call 248; refine (n1 _).mono ?_; rintro e w' ⟨rfl, rfl⟩)
 refine hK.out _ _ (by assumption) (fun hHeld2 => ?_)
 clear hK K
 refine rd 8 rfl (fun K hK => ?_)
 go_simp
 go_wp2_with (go_at_call 248; refine (n2 _).mono ?_; rintro e w' ⟨rfl, rfl⟩)
 refine hK.out _ _ (by assumption) (fun hHeld2 => ?_)
 clear hK K
 refine rd 11 rfl (fun K hK => ?_)
 go_simp
 go_wp2_with (go_at_call 248; refine (n3 _).mono ?_; rintro e w' ⟨rfl, rfl⟩)
 refine hK.out _ _ (by assumption) (fun hHeld2 => ?_)
 clear hK K
 refine tk 12 (.agg #[.int .i64 a0, .int .i64 a1, .int .i64 a2, .int .i64 a3]) rfl ?_
 simp only [nz]
 refine tk 13 (.pointer (some ⟨w1.heap.size, 0, none⟩)) rfl ?_
 simp only [nz]
 refine rd 14 rfl (fun K hK => ?_)
 go_simp
 go_wp2
 have hfold : ((((w3.setCell ⟨w1.heap.size, 0, none⟩ (.int .i64 a0)).setCell ⟨w1.heap.size, 1, none⟩ (.int .i64 a1)).setCell ⟨w1.heap.size, 2, none⟩ (.int .i64 a2)).setCell ⟨w1.heap.size, 3, none⟩ (.int .i64 a3)).drew = w4 := HW4.out
 rw [hfold]
 refine hK.out _ _ HK.out (fun hHeld2 => ?_)
 clear hK K hfold
 refine wpAnyH_done (by kernel_rfl) ?_ _
 refine NoPanic.normal ?_
 clear n0 n1 n2 n3 c0 c1 c2 c3 f0 f1 f2 f3
 go_wp2_with (refine iloadG rfl 130 _ rfl _ rfl _ L4.out ?_)
 clear L4 hy2 hw1 hw2 hw3
 refine (hen _).mono ?_
 rintro e w5 ⟨rfl, hb5⟩
 have hb15 := thenB hb4 hb5
 have hx5 := hx1.below hb15
 have hy5 := hy4.below hb5
 have hB5 := thenB hb1 hb15
 clear hen hx1 hy4 hb4
 have L5 : Hid _ := hy5.loadR ch_zero.1
 have HX5 : Hid ((⟨a0, a1, a2, a3, 0, zeroC⟩ : It).bytes.length = 32) := ch_zero.1
 go_wp2_with (first
  | (refine iloadG rfl 130 _ rfl _ rfl _ L5.out ?_)
  | (refine wpList_storeR rfl _ _ rfl w.heap.size (⟨a0, a1, a2, a3, 0, zeroC⟩ : It) it0 rfl rfl HX5.out ch_zero.1 hx5 ?_))
 exact ret_itemR2 rfl w.heap.size (⟨a0, a1, a2, a3, 0, zeroC⟩ : It) HX5.out rfl _ rfl (hx5.setRow _) rfl ⟨rfl, below_setRow hB5 (Nat.le_refl _) _⟩
theorem refDec_2ok (w : World) (s : ByteArray) (h : s.size = 4) (hs : standsB 2 (rdI 2 (strB s)) = true) : Calls Tryz.prog 225 #[.int .i64 2, .string s] w fun e w' => e = .returned (.tuple #[.agg (itC (rdI 2 (strB s))), .int .i64 0]) ∧ Below w.heap.size w w' := by
 obtain ⟨w1, hw1⟩ : ∃ w1, w.alloc (.cells (itC it0) 130) = w1 := ⟨_, rfl⟩
 have hb1 : Below w.heap.size w w1 := by rw [← hw1]; exact (Below.refl _ w).alloc (Nat.le_refl _) _
 have hx1 : ItAt 130 w1 w.heap.size it0 := by rw [← hw1]; exact ItAt.laid _ w it0
 obtain ⟨w2, hw2⟩ : ∃ w2, w1.alloc (.cells (itC it0) 130) = w2 := ⟨_, rfl⟩
 have hb2 : Below w1.heap.size w1 w2 := by rw [← hw2]; exact (Below.refl _ w1).alloc (Nat.le_refl _) _
 have hy2 : ItAt 130 w2 w1.heap.size it0 := by rw [← hw2]; exact ItAt.laid _ w1 it0
 obtain ⟨w3, hw3⟩ : ∃ w3, w2.setRow w1.heap.size (itC it0) = w3 := ⟨_, rfl⟩
 have hy3 : ItAt 130 w3 w1.heap.size it0 := by rw [← hw3]; exact hy2.setRow _
 have hb3 : Below w1.heap.size w1 w3 := by rw [← hw3]; exact below_setRow hb2 (Nat.le_refl _) _
 have hz := zeroItemR
 have hlB : ((strB s).length : Int) = wid 2 := by rw [strB_length, h]; rfl
 have hok := rdI_ok 2 (strB s) (strB_byt s) hlB (by decide)
 have hsI : (s.size : Int) = 4 := by omega
 have hv := valB_small (strB s) (strB_byt s) 4 (by rw [strB_length]; omega) (by omega)
 have hn := fun W => refNum_any W s (by omega)
 have hen : ∀ W, Calls Tryz.prog 60 #[.int .i64 2, .agg (itC (rdI 2 (strB s)))] W fun e w' => e = .returned (.tuple #[.string s, .int .i64 0]) ∧ Below W.heap.size W w' := fun W => by
  have := refEnc_any W 2 (rdI 2 (strB s)) hok
  obtain ⟨e1, e2⟩ := enc_yes (p := 2) (by decide) (x := rdI 2 (strB s)) (encOk_iff.2 ⟨giveI_rdI _ _, hs⟩)
  rwa [e1, e2, wrL_rdI (strB_byt s) hlB (by decide), strOfNums_strB] at this
 rw [rdI_2] at hen ⊢
 clear hok hlB hs
 generalize valB (strB s) = a at *
 have wt : IntKind.u32.wrap (a : Int) = a := by rw [IntKind.wrap_u32]; omega
 have c4 : w3.cell? ⟨w1.heap.size, 4, none⟩ = some (.int .u32 0) := hy3.c4
 have f4 := hy3.fr 4
 obtain ⟨w4, hw4⟩ : ∃ w4, w3.setCell ⟨w1.heap.size, 4, none⟩ (.int .u32 a) = w4 := ⟨_, rfl⟩
 have hb4 : Below w1.heap.size w1 w4 := by rw [← hw4]; exact hb3.setCell (Nat.le_refl _) _
 have hy4 : ItAt 130 w4 w1.heap.size ⟨0, 0, 0, 0, a, zeroC⟩ := by rw [← hw4]; exact hy3.putT _
 have L4 : Hid _ := hy4.loadR ch_zero.1
 clear hb2 hy3
 go_enter Tryz.func225, Tryz.ntmps225
 go_wp2_with (refine wpList_storeR rfl _ _ rfl w1.heap.size it0 it0 rfl rfl ch_zero.1 ch_zero.1 hy2 ?_)
 refine (hn _).mono ?_
 rintro e w' ⟨rfl, rfl⟩
 go_wp2_with (refine iloadG rfl 130 _ rfl _ rfl _ L4.out ?_)
 clear L4 hy2 hw1 hw2 hw3 hn c4 f4
 refine (hen _).mono ?_
 rintro e w5 ⟨rfl, hb5⟩
 have hb15 := thenB hb4 hb5
 have hx5 := hx1.below hb15
 have hy5 := hy4.below hb5
 have hB5 := thenB hb1 hb15
 clear hen hx1 hy4 hb4
 have L5 : Hid _ := hy5.loadR ch_zero.1
 have HX5 : Hid ((⟨0, 0, 0, 0, a, zeroC⟩ : It).bytes.length = 32) := ch_zero.1
 go_wp2_with (first
  | (refine iloadG rfl 130 _ rfl _ rfl _ L5.out ?_)
  | (refine wpList_storeR rfl _ _ rfl w.heap.size (⟨0, 0, 0, 0, a, zeroC⟩ : It) it0 rfl rfl HX5.out ch_zero.1 hx5 ?_))
 exact ret_itemR2 rfl w.heap.size (⟨0, 0, 0, 0, a, zeroC⟩ : It) HX5.out rfl _ rfl (hx5.setRow _) rfl ⟨rfl, below_setRow hB5 (Nat.le_refl _) _⟩
theorem refDec_1no (w : World) (s : ByteArray) (h : s.size = 6) (hs : standsB 1 (rdI 1 (strB s)) = false) : Calls Tryz.prog 225 #[.int .i64 1, .string s] w fun e w' => e = .returned (.tuple #[.agg (itC it0), .int .i64 11]) ∧ Below w.heap.size w w' := by
 obtain ⟨w1, hw1⟩ : ∃ w1, w.alloc (.cells (itC it0) 130) = w1 := ⟨_, rfl⟩
 have hb1 : Below w.heap.size w w1 := by rw [← hw1]; exact (Below.refl _ w).alloc (Nat.le_refl _) _
 have hx1 : ItAt 130 w1 w.heap.size it0 := by rw [← hw1]; exact ItAt.laid _ w it0
 obtain ⟨w2, hw2⟩ : ∃ w2, w1.alloc (.cells (itC it0) 130) = w2 := ⟨_, rfl⟩
 have hb2 : Below w1.heap.size w1 w2 := by rw [← hw2]; exact (Below.refl _ w1).alloc (Nat.le_refl _) _
 have hy2 : ItAt 130 w2 w1.heap.size it0 := by rw [← hw2]; exact ItAt.laid _ w1 it0
 obtain ⟨w3, hw3⟩ : ∃ w3, w2.setRow w1.heap.size (itC it0) = w3 := ⟨_, rfl⟩
 have hy3 : ItAt 130 w3 w1.heap.size it0 := by rw [← hw3]; exact hy2.setRow _
 have hb3 : Below w1.heap.size w1 w3 := by rw [← hw3]; exact below_setRow hb2 (Nat.le_refl _) _
 have hz := zeroItemR
 have hlB : ((strB s).length : Int) = wid 1 := by rw [strB_length, h]; rfl
 have hok := rdI_ok 1 (strB s) (strB_byt s) hlB (by decide)
 have hsI : (s.size : Int) = 6 := by omega
 have hen0 := refEnc_any
 have z0 := strB_extract s 0 1 (by omega)
 have z1 := strB_extract s 1 3 (by omega)
 have z2 := strB_extract s 3 4 (by omega)
 have z3 := strB_extract s 4 6 (by omega)
 rw [List.drop_zero] at z0
 have n0 : ∀ W, Calls Tryz.prog 248 #[.string (s.extract 0 1)] W fun e w' => e = .returned (.int .i64 (valB ((strB s).take 1))) ∧ W = w' := fun W => by have := refNum_any W (s.extract 0 1) (by rw [extract_size _ _ _ (by omega)]; omega); rwa [z0] at this
 have n1 : ∀ W, Calls Tryz.prog 248 #[.string (s.extract 1 3)] W fun e w' => e = .returned (.int .i64 (valB (((strB s).drop 1).take 2))) ∧ W = w' := fun W => by have := refNum_any W (s.extract 1 3) (by rw [extract_size _ _ _ (by omega)]; omega); rwa [z1] at this
 have n2 : ∀ W, Calls Tryz.prog 248 #[.string (s.extract 3 4)] W fun e w' => e = .returned (.int .i64 (valB (((strB s).drop 3).take 1))) ∧ W = w' := fun W => by have := refNum_any W (s.extract 3 4) (by rw [extract_size _ _ _ (by omega)]; omega); rwa [z2] at this
 have n3 : ∀ W, Calls Tryz.prog 248 #[.string (s.extract 4 6)] W fun e w' => e = .returned (.int .i64 (valB (((strB s).drop 4).take 2))) ∧ W = w' := fun W => by have := refNum_any W (s.extract 4 6) (by rw [extract_size _ _ _ (by omega)]; omega); rwa [z3] at this
 have hen : ∀ W, Calls Tryz.prog 60 #[.int .i64 1, .agg (itC (rdI 1 (strB s)))] W fun e w' => e = .returned (.tuple #[.string ⟨#[]⟩, .int .i64 11]) ∧ Below W.heap.size W w' := fun W => by
  have := refEnc_any W 1 (rdI 1 (strB s)) hok
  obtain ⟨e1, e2⟩ := enc_no (p := 1) (by decide) (x := rdI 1 (strB s)) (by unfold encOk; rw [hs, Bool.and_false])
  rwa [e1, e2] at this
 rw [rdI_1] at hen 
 clear hen0 z0 z1 z2 z3 hok hlB hs
 generalize valB ((strB s).take 1) = a0 at *
 generalize valB (((strB s).drop 1).take 2) = a1 at *
 generalize valB (((strB s).drop 3).take 1) = a2 at *
 generalize valB (((strB s).drop 4).take 2) = a3 at *
 have c0 : w3.cell? ⟨w1.heap.size, 0, none⟩ = some (.int .i64 0) := hy3.c0
 have c1 : w3.cell? ⟨w1.heap.size, 1, none⟩ = some (.int .i64 0) := hy3.c1
 have c2 : w3.cell? ⟨w1.heap.size, 2, none⟩ = some (.int .i64 0) := hy3.c2
 have c3 : w3.cell? ⟨w1.heap.size, 3, none⟩ = some (.int .i64 0) := hy3.c3
 have f0 := hy3.fr 0
 have f1 := hy3.fr 1
 have f2 := hy3.fr 2
 have f3 := hy3.fr 3
 obtain ⟨w4, hw4⟩ : ∃ w4, (w3.setCells w1.heap.size 0 [.int .i64 a0, .int .i64 a1, .int .i64 a2, .int .i64 a3]).drew = w4 := ⟨_, rfl⟩
 have hb4 : Below w1.heap.size w1 w4 := by rw [← hw4]; exact (below_setCells (Nat.le_refl _) _ _ _ hb3).drew
 have hy4 : ItAt 130 w4 w1.heap.size ⟨a0, a1, a2, a3, 0, zeroC⟩ := by rw [← hw4]; exact ⟨(hy3.putI ch_zero.1 _ _ _ _).row⟩
 have L4 : Hid _ := hy4.loadR ch_zero.1
 have HK : Hid (Below w1.heap.size w1 w4) := hb4
 have HW4 : Hid ((w3.setCells w1.heap.size 0 [.int .i64 a0, .int .i64 a1, .int .i64 a2, .int .i64 a3]).drew = w4) := hw4
 clear hb2 hy3 hw4
 go_enter Tryz.func225, Tryz.ntmps225
 go_wp2_with (refine wpList_storeR rfl _ _ rfl w1.heap.size it0 it0 rfl rfl ch_zero.1 ch_zero.1 hy2 ?_)
 refine wp_region_noPanic ?_
 refine wp_region_held_drew (S := fun W => Below w1.heap.size w1 W) (by kernel_rfl) hb3.drew (fun hHeld => ?_)
 refine tk 0 (.string s) rfl ?_
 simp only [nz]
 refine tk 1 (.string (s.extract 0 1)) rfl ?_
 simp only [nz]
 refine tk 3 (.string s) rfl ?_
 simp only [nz]
 refine tk 4 (.string (s.extract 1 3)) rfl ?_
 simp only [nz]
 refine tk 6 (.string s) rfl ?_
 simp only [nz]
 refine tk 7 (.string (s.extract 3 4)) rfl ?_
 simp only [nz]
 refine tk 9 (.string s) rfl ?_
 simp only [nz]
 refine tk 10 (.string (s.extract 4 6)) rfl ?_
 simp only [nz]
 refine rd 2 rfl (fun K hK => ?_)
 go_simp
 go_wp2_with (go_at_call 248; refine (n0 _).mono ?_; rintro e w' ⟨rfl, rfl⟩)
 refine hK.out _ _ (by assumption) (fun hHeld2 => ?_)
 clear hK K
 refine rd 5 rfl (fun K hK => ?_)
 go_simp
 go_wp2_with (go_at_call 248; refine (n1 _).mono ?_; rintro e w' ⟨rfl, rfl⟩)
 refine hK.out _ _ (by assumption) (fun hHeld2 => ?_)
 clear hK K
 refine rd 8 rfl (fun K hK => ?_)
 go_simp
 go_wp2_with (go_at_call 248; refine (n2 _).mono ?_; rintro e w' ⟨rfl, rfl⟩)
 refine hK.out _ _ (by assumption) (fun hHeld2 => ?_)
 clear hK K
 refine rd 11 rfl (fun K hK => ?_)
 go_simp
 go_wp2_with (go_at_call 248; refine (n3 _).mono ?_; rintro e w' ⟨rfl, rfl⟩)
 refine hK.out _ _ (by assumption) (fun hHeld2 => ?_)
 clear hK K
 refine tk 12 (.agg #[.int .i64 a0, .int .i64 a1, .int .i64 a2, .int .i64 a3]) rfl ?_
 simp only [nz]
 refine tk 13 (.pointer (some ⟨w1.heap.size, 0, none⟩)) rfl ?_
 simp only [nz]
 refine rd 14 rfl (fun K hK => ?_)
 go_simp
 go_wp2
 have hfold : ((((w3.setCell ⟨w1.heap.size, 0, none⟩ (.int .i64 a0)).setCell ⟨w1.heap.size, 1, none⟩ (.int .i64 a1)).setCell ⟨w1.heap.size, 2, none⟩ (.int .i64 a2)).setCell ⟨w1.heap.size, 3, none⟩ (.int .i64 a3)).drew = w4 := HW4.out
 rw [hfold]
 refine hK.out _ _ HK.out (fun hHeld2 => ?_)
 clear hK K hfold
 refine wpAnyH_done (by kernel_rfl) ?_ _
 refine NoPanic.normal ?_
 clear n0 n1 n2 n3 c0 c1 c2 c3 f0 f1 f2 f3
 go_wp2_with (refine iloadG rfl 130 _ rfl _ rfl _ L4.out ?_)
 clear L4 hy2 hw1 hw2 hw3
 refine (hen _).mono ?_
 rintro e w5 ⟨rfl, hb5⟩
 have hb15 := thenB hb4 hb5
 have hx5 := hx1.below hb15
 have hy5 := hy4.below hb5
 have hB5 := thenB hb1 hb15
 clear hen hx1 hy4 hb4
 go_wp2_with (refine wpList_storeR rfl _ _ rfl w.heap.size it0 it0 rfl rfl ch_zero.1 ch_zero.1 hx5 ?_)
 exact ret_itemR2 rfl w.heap.size it0 ch_zero.1 rfl _ rfl (hx5.setRow _) rfl ⟨rfl, below_setRow hB5 (Nat.le_refl _) _⟩
theorem refDec_2no (w : World) (s : ByteArray) (h : s.size = 4) (hs : standsB 2 (rdI 2 (strB s)) = false) : Calls Tryz.prog 225 #[.int .i64 2, .string s] w fun e w' => e = .returned (.tuple #[.agg (itC it0), .int .i64 11]) ∧ Below w.heap.size w w' := by
 obtain ⟨w1, hw1⟩ : ∃ w1, w.alloc (.cells (itC it0) 130) = w1 := ⟨_, rfl⟩
 have hb1 : Below w.heap.size w w1 := by rw [← hw1]; exact (Below.refl _ w).alloc (Nat.le_refl _) _
 have hx1 : ItAt 130 w1 w.heap.size it0 := by rw [← hw1]; exact ItAt.laid _ w it0
 obtain ⟨w2, hw2⟩ : ∃ w2, w1.alloc (.cells (itC it0) 130) = w2 := ⟨_, rfl⟩
 have hb2 : Below w1.heap.size w1 w2 := by rw [← hw2]; exact (Below.refl _ w1).alloc (Nat.le_refl _) _
 have hy2 : ItAt 130 w2 w1.heap.size it0 := by rw [← hw2]; exact ItAt.laid _ w1 it0
 obtain ⟨w3, hw3⟩ : ∃ w3, w2.setRow w1.heap.size (itC it0) = w3 := ⟨_, rfl⟩
 have hy3 : ItAt 130 w3 w1.heap.size it0 := by rw [← hw3]; exact hy2.setRow _
 have hb3 : Below w1.heap.size w1 w3 := by rw [← hw3]; exact below_setRow hb2 (Nat.le_refl _) _
 have hz := zeroItemR
 have hlB : ((strB s).length : Int) = wid 2 := by rw [strB_length, h]; rfl
 have hok := rdI_ok 2 (strB s) (strB_byt s) hlB (by decide)
 have hsI : (s.size : Int) = 4 := by omega
 have hv := valB_small (strB s) (strB_byt s) 4 (by rw [strB_length]; omega) (by omega)
 have hn := fun W => refNum_any W s (by omega)
 have hen : ∀ W, Calls Tryz.prog 60 #[.int .i64 2, .agg (itC (rdI 2 (strB s)))] W fun e w' => e = .returned (.tuple #[.string ⟨#[]⟩, .int .i64 11]) ∧ Below W.heap.size W w' := fun W => by
  have := refEnc_any W 2 (rdI 2 (strB s)) hok
  obtain ⟨e1, e2⟩ := enc_no (p := 2) (by decide) (x := rdI 2 (strB s)) (by unfold encOk; rw [hs, Bool.and_false])
  rwa [e1, e2] at this
 rw [rdI_2] at hen 
 clear hok hlB hs
 generalize valB (strB s) = a at *
 have wt : IntKind.u32.wrap (a : Int) = a := by rw [IntKind.wrap_u32]; omega
 have c4 : w3.cell? ⟨w1.heap.size, 4, none⟩ = some (.int .u32 0) := hy3.c4
 have f4 := hy3.fr 4
 obtain ⟨w4, hw4⟩ : ∃ w4, w3.setCell ⟨w1.heap.size, 4, none⟩ (.int .u32 a) = w4 := ⟨_, rfl⟩
 have hb4 : Below w1.heap.size w1 w4 := by rw [← hw4]; exact hb3.setCell (Nat.le_refl _) _
 have hy4 : ItAt 130 w4 w1.heap.size ⟨0, 0, 0, 0, a, zeroC⟩ := by rw [← hw4]; exact hy3.putT _
 have L4 : Hid _ := hy4.loadR ch_zero.1
 clear hb2 hy3
 go_enter Tryz.func225, Tryz.ntmps225
 go_wp2_with (refine wpList_storeR rfl _ _ rfl w1.heap.size it0 it0 rfl rfl ch_zero.1 ch_zero.1 hy2 ?_)
 refine (hn _).mono ?_
 rintro e w' ⟨rfl, rfl⟩
 go_wp2_with (refine iloadG rfl 130 _ rfl _ rfl _ L4.out ?_)
 clear L4 hy2 hw1 hw2 hw3 hn c4 f4
 refine (hen _).mono ?_
 rintro e w5 ⟨rfl, hb5⟩
 have hb15 := thenB hb4 hb5
 have hx5 := hx1.below hb15
 have hy5 := hy4.below hb5
 have hB5 := thenB hb1 hb15
 clear hen hx1 hy4 hb4
 go_wp2_with (refine wpList_storeR rfl _ _ rfl w.heap.size it0 it0 rfl rfl ch_zero.1 ch_zero.1 hx5 ?_)
 exact ret_itemR2 rfl w.heap.size it0 ch_zero.1 rfl _ rfl (hx5.setRow _) rfl ⟨rfl, below_setRow hB5 (Nat.le_refl _) _⟩
theorem refDec_3ok (w : World) (s : ByteArray) (h : s.size = 32) : Calls Tryz.prog 225 #[.int .i64 3, .string s] w fun e w' => e = .returned (.tuple #[.agg (itC (rdI 3 (strB s))), .int .i64 0]) ∧ Below w.heap.size w w' := by
 obtain ⟨w1, hw1⟩ : ∃ w1, w.alloc (.cells (itC it0) 130) = w1 := ⟨_, rfl⟩
 have hb1 : Below w.heap.size w w1 := by rw [← hw1]; exact (Below.refl _ w).alloc (Nat.le_refl _) _
 have hx1 : ItAt 130 w1 w.heap.size it0 := by rw [← hw1]; exact ItAt.laid _ w it0
 obtain ⟨w2, hw2⟩ : ∃ w2, w1.alloc (.cells (itC it0) 130) = w2 := ⟨_, rfl⟩
 have hb2 : Below w1.heap.size w1 w2 := by rw [← hw2]; exact (Below.refl _ w1).alloc (Nat.le_refl _) _
 have hy2 : ItAt 130 w2 w1.heap.size it0 := by rw [← hw2]; exact ItAt.laid _ w1 it0
 obtain ⟨w3, hw3⟩ : ∃ w3, w2.setRow w1.heap.size (itC it0) = w3 := ⟨_, rfl⟩
 have hy3 : ItAt 130 w3 w1.heap.size it0 := by rw [← hw3]; exact hy2.setRow _
 have hb3 : Below w1.heap.size w1 w3 := by rw [← hw3]; exact below_setRow hb2 (Nat.le_refl _) _
 have hz := zeroItemR
 have hlB : ((strB s).length : Int) = wid 3 := by rw [strB_length, h]; rfl
 have hok := rdI_ok 3 (strB s) (strB_byt s) hlB (by decide)
 have hsI : (s.size : Int) = 32 := by omega
 have hs : standsB 3 (rdI 3 (strB s)) = true := stands_3 (by decide) (by decide) _
 have hlb : (strB s).length = 32 := by rw [strB_length]; exact h
 have hen : ∀ W, Calls Tryz.prog 60 #[.int .i64 3, .agg (itC (rdI 3 (strB s)))] W fun e w' => e = .returned (.tuple #[.string s, .int .i64 0]) ∧ Below W.heap.size W w' := fun W => by
  have := refEnc_any W 3 (rdI 3 (strB s)) hok
  obtain ⟨e1, e2⟩ := enc_yes (p := 3) (by decide) (x := rdI 3 (strB s)) (encOk_iff.2 ⟨giveI_rdI _ _, hs⟩)
  rwa [e1, e2, wrL_rdI (strB_byt s) hlB (by decide), strOfNums_strB] at this
 rw [rdI_3 (by decide) (by decide)] at hen ⊢
 have hcp := Lib.run_copy_row_string (P := Tryz.prog) w3 188 9 3 5 w1.heap.size 5 32 32 s (itC it0) 130 Tryz.underlying188 (by kernel_rfl) hy3.row (by omega) (by rw [itC_size ch_zero.1]; omega)
 have hcells : ((itC it0).toList.take 5 ++ Lib.byteCells s.data.toList ++ (itC it0).toList.drop (5 + s.size)).toArray = itC ⟨0, 0, 0, 0, 0, strB s⟩ := by
  have e1 : Lib.byteCells s.data.toList = (strB s).map (Value.int .u8) := by simp [Lib.byteCells, strB]
  have e2 : (itC it0).toList.drop (5 + s.size) = [] := List.drop_eq_nil_of_le (by rw [Array.length_toList, itC_size ch_zero.1]; omega)
  rw [e1, e2]
  apply Array.ext'
  simp [itC, it0]
 rw [hcells] at hcp
 obtain ⟨w4, hw4⟩ : ∃ w4, w3.setRow w1.heap.size (itC ⟨0, 0, 0, 0, 0, strB s⟩) = w4 := ⟨_, rfl⟩
 rw [hw4] at hcp
 have hb4 : Below w1.heap.size w1 w4 := by rw [← hw4]; exact below_setRow hb3 (Nat.le_refl _) _
 have hy4 : ItAt 130 w4 w1.heap.size ⟨0, 0, 0, 0, 0, strB s⟩ := by rw [← hw4]; exact hy3.setRow _
 have L4 : Hid _ := hy4.loadR hlb
 have HLB : Hid ((strB s).length = 32) := hlb
 clear hb2 hy3 hok hlB hs hcells hlb hw4
 generalize strB s = b at *
 go_enter Tryz.func225, Tryz.ntmps225
 go_wp2_with (first
  | (refine wpList_storeR rfl _ _ rfl w1.heap.size it0 it0 rfl rfl ch_zero.1 ch_zero.1 hy2 ?_)
  | (refine iloadG rfl 130 _ rfl _ rfl _ L4.out ?_))
 clear L4 hy2 hw1 hw2 hw3 hcp
 refine (hen _).mono ?_
 rintro e w5 ⟨rfl, hb5⟩
 have hb15 := thenB hb4 hb5
 have hx5 := hx1.below hb15
 have hy5 := hy4.below hb5
 have hB5 := thenB hb1 hb15
 clear hen hx1 hy4 hb4
 have L5 : Hid _ := hy5.loadR HLB.out
 have HX5 : Hid ((⟨0, 0, 0, 0, 0, b⟩ : It).bytes.length = 32) := HLB.out
 go_wp2_with (first
  | (refine iloadG rfl 130 _ rfl _ rfl _ L5.out ?_)
  | (refine wpList_storeR rfl _ _ rfl w.heap.size (⟨0, 0, 0, 0, 0, b⟩ : It) it0 rfl rfl HX5.out ch_zero.1 hx5 ?_))
 exact ret_itemR2 rfl w.heap.size (⟨0, 0, 0, 0, 0, b⟩ : It) HX5.out rfl _ rfl (hx5.setRow _) rfl ⟨rfl, below_setRow hB5 (Nat.le_refl _) _⟩
theorem refDec_any (w : World) (p : Int) (s : ByteArray) : Calls Tryz.prog 225 #[.int .i64 p, .string s] w fun e w' => e = .returned (.tuple #[.agg (itC (decI p s)), .int .i64 (decE p s)]) ∧ Below w.heap.size w w' := by
 have key : ∀ p : Int, wid p ≠ 0 → ∀ n : Nat, wid p = n → (s.size ≠ n → decE p s = 11 ∧ decI p s = it0) ∧ (s.size = n → standsB p (rdI p (strB s)) = false → decE p s = 11 ∧ decI p s = it0) ∧ (s.size = n → standsB p (rdI p (strB s)) = true → decE p s = 0 ∧ decI p s = rdI p (strB s)) := fun p hp n hn => by
  refine ⟨fun h => dec_no hp (by unfold decOk; rw [decide_eq_false (by omega)]; rfl), fun h hs => dec_no hp (by unfold decOk; rw [hs, Bool.and_false]), fun h hs => dec_yes hp (by unfold decOk; rw [hs, decide_eq_true (by omega)]; rfl)⟩
 rcases wid_cases p with ⟨rfl, hw⟩ | ⟨rfl, hw⟩ | ⟨rfl, hw⟩ | ⟨h1, h2, h3, hw⟩
 ·obtain ⟨k1, k2, k3⟩ := key 1 (by decide) 6 rfl
  by_cases hl : s.size = 6
  ·cases hs : standsB 1 (rdI 1 (strB s)) with
   | false => rw [(k2 hl hs).1, (k2 hl hs).2]; exact refDec_1no w s hl hs
   | true => rw [(k3 hl hs).1, (k3 hl hs).2]; exact refDec_1ok w s hl hs
  ·rw [(k1 hl).1, (k1 hl).2]; exact refDec_b1 w s hl
 ·obtain ⟨k1, k2, k3⟩ := key 2 (by decide) 4 rfl
  by_cases hl : s.size = 4
  ·cases hs : standsB 2 (rdI 2 (strB s)) with
   | false => rw [(k2 hl hs).1, (k2 hl hs).2]; exact refDec_2no w s hl hs
   | true => rw [(k3 hl hs).1, (k3 hl hs).2]; exact refDec_2ok w s hl hs
  ·rw [(k1 hl).1, (k1 hl).2]; exact refDec_b2 w s hl
 ·obtain ⟨k1, k2, k3⟩ := key 3 (by decide) 32 rfl
  by_cases hl : s.size = 32
  ·have hs : standsB 3 (rdI 3 (strB s)) = true := stands_3 (by decide) (by decide) _
   rw [(k3 hl hs).1, (k3 hl hs).2]; exact refDec_3ok w s hl
  ·rw [(k1 hl).1, (k1 hl).2]; exact refDec_b3 w s hl
 ·rw [(dec_arg hw s).1, (dec_arg hw s).2]
  by_cases hp : p < 1
  ·exact refDec_z0 w p s hp
  ·exact refDec_z1 w p s (by omega) (by omega)
end Go.Proofs.YtiplhhaehbjghaaGreat
