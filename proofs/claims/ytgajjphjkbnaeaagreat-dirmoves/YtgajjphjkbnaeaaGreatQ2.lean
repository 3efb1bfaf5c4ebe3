/- Fixed, Number, OrderMath: in one text. -/
import Derived.Test.YtgajjphjkbnaeaaGreatQ1
namespace Go.Proofs.YtgajjphjkbnaeaaGreat
open Go.RowKit
set_option linter.unusedVariables false
set_option maxHeartbeats 32000000
set_option maxRecDepth 100000
set_option linter.unusedSimpArgs false
theorem mayBe_no (w : World) (k : Int) (h : k < 1 ∨ 8 < k) : Calls Tryz.prog 149 #[.int .i64 k] w fun e w' => e = .returned (.bool false) ∧ w = w':=by
 rcases h with h | h
 ·have h1 : ¬ 1 ≤ k:=by omega
  go_enter Tryz.func149,Tryz.ntmps149
  go_wp2
  go_ret
  exact ⟨rfl,rfl⟩
 ·have h1 : 1 ≤ k:=by omega
  have h2 : ¬ k ≤ 8:=by omega
  go_enter Tryz.func149,Tryz.ntmps149
  go_wp2
  go_ret
  exact ⟨rfl,rfl⟩
theorem mayBe_yes (w : World) (k : Int) (h1 : 1 ≤ k) (h2 : k ≤ 8) : Calls Tryz.prog 149 #[.int .i64 k] w fun e w' => e = .returned (.bool true) ∧ w = w':=by
 go_enter Tryz.func149,Tryz.ntmps149
 go_wp2
 go_ret
 exact ⟨rfl,rfl⟩
theorem fixed_arg (w : World) (n k : Int) (h : k < 1 ∨ 8 < k) : Calls Tryz.prog 130 #[.int .u64 n,.int .i64 k] w fun e w' => e = .returned (.tuple #[.slice none 0 0,.int .i64 1]) ∧ w = w':=by
 go_enter Tryz.func130,Tryz.ntmps130
 go_wp2_with (go_at_call 149; refine (mayBe_no _ _ h).mono ?_; rintro e w' ⟨rfl,rfl⟩)
 go_ret2
 exact ⟨rfl,rfl⟩
theorem fixed_long (w : World) (N k : Nat) (h1 : 1 ≤ k) (h2 : k ≤ 8) (hN : N < 2 ^ 64) (hl : ((N : Int) / 2 ^ (8 * k) != 0) = true) : Calls Tryz.prog 130 #[.int .u64 N,.int .i64 k] w fun e w' => e = .returned (.tuple #[.slice none 0 0,.int .i64 2]) ∧ w = w':=by
 go_enter Tryz.func130,Tryz.ntmps130
 go_wp2_with (go_at_call 149; refine (mayBe_yes _ _ (by omega) (by omega)).mono ?_; rintro e w' ⟨rfl,rfl⟩)
 go_ret2
 exact ⟨rfl,rfl⟩
theorem fixed_fits (w : World) (N k : Nat) (h1 : 1 ≤ k) (h2 : k ≤ 8) (hN : N < 2 ^ 64) (hl : ((N : Int) / 2 ^ (8 * k) != 0) = false) : Calls Tryz.prog 130 #[.int .u64 N,.int .i64 k] w fun e w' =>
  e = .returned (.tuple #[.slice (some ⟨w.heap.size,0,none⟩) k k,.int .i64 0]) ∧ w' = w.alloc (.cells ((fixB N k).map (Value.int .u8)).toArray 5):=by
 have hmk:=make_bytes w k k rfl (by omega)
 rw [show (List.replicate k (Value.int .u8 0)).toArray = ((fixRow N k 0).map (Value.int .u8)).toArray from by rw [fixRow_zero]; simp] at hmk
 go_enter Tryz.func130,Tryz.ntmps130
 go_wp2_with (go_at_call 149; refine (mayBe_yes _ _ (by omega) (by omega)).mono ?_; rintro e w' ⟨rfl,rfl⟩)
 go_loopw [19] (fun t wr => ∃ i : Nat,i ≤ k ∧ t = .int .i64 i ∧ wr = w.alloc (.cells ((fixRow N k i).map (Value.int .u8)).toArray 5)) (fun t _ => k - (intOf t).toNat)
 case atStart => exact ⟨0,Nat.zero_le _,rfl,rfl⟩
 case round =>
  obtain ⟨i,hi,rfl,rfl⟩:=hrel
  clear hmk
  by_cases hlt : i < k
  ·obtain ⟨M,hM⟩ : ∃ M,M = ((fixRow N k i).map (Value.int .u8)).toArray:=⟨_,rfl⟩
   obtain ⟨z,hz⟩ : ∃ z,M[k - 1 - i]? = some (.int .u8 z):=by
    refine ⟨(fixRow N k i)[k - 1 - i]'(by rw [fixRow_length]; omega),?_⟩
    rw [hM,List.getElem?_toArray,List.getElem?_map,List.getElem?_eq_getElem (by rw [fixRow_length]; omega)]
    rfl
   have HS : Hid (M.setIfInBounds (k - 1 - i) (.int .u8 ((N : Int) / 2 ^ (8 * i) % 256)) = ((fixRow N k (i + 1)).map (Value.int .u8)).toArray):=by
    show _ = _
    rw [hM,← fixRow_set N k i hlt]
    apply Array.ext'
    rw [Array.toList_setIfInBounds,List.map_set]
    simp [dig]
   rw [← hM]
   clear hM
   go_wp2
   go_roundw
   case rel => exact ⟨i + 1,by omega,by go_num,by rw [HS.out]⟩
   case measure => simp [intOf]; omega
  ·obtain rfl : i = k:=by omega
   go_wp2
   go_ret2
   exact ⟨rfl,by rw [fixRow_all]⟩
theorem fixed_any (w : World) (n k : Int) (h0 : 0 ≤ n) (h1 : n < 2 ^ 64) : Calls Tryz.prog 130 #[.int .u64 n,.int .i64 k] w fun e w' =>
  ∃ v,e = .returned (.tuple #[v,.int .i64 (fixE n k)]) ∧ Own w' w.heap.size v (fixL n k) ∧ Below w.heap.size w w':=by
 by_cases hk : k < 1 ∨ 8 < k
 ·have e1 : fixE n k = 1:=if_pos hk
  have e2 : fixL n k = []:=by unfold fixL; rw [e1]; rfl
  rw [e1,e2]
  refine (fixed_arg w n k hk).mono ?_
  rintro e w' ⟨rfl,rfl⟩
  exact ⟨_,rfl,Own.nil _ _,Below.refl _ _⟩
 ·obtain ⟨N,rfl⟩:=Int.eq_ofNat_of_zero_le h0
  obtain ⟨K,rfl⟩:=Int.eq_ofNat_of_zero_le (show 0 ≤ k by omega)
  have hN : N < 2 ^ 64:=by omega
  cases hl : ((N : Int) / 2 ^ (8 * K) != 0) with
  | true =>
   have e1 : fixE N K = 2:=by unfold fixE; rw [if_neg hk,Int.toNat_natCast,if_pos hl]
   have e2 : fixL N K = []:=by unfold fixL; rw [e1]; rfl
   rw [e1,e2]
   refine (fixed_long w N K (by omega) (by omega) hN hl).mono ?_
   rintro e w' ⟨rfl,rfl⟩
   exact ⟨_,rfl,Own.nil _ _,Below.refl _ _⟩
  | false =>
   have e1 : fixE N K = 0:=by unfold fixE; rw [if_neg hk,Int.toNat_natCast,if_neg (by rw [hl]; decide)]
   have e2 : fixL N K = fixB N K:=by unfold fixL; rw [e1]; rfl
   rw [e1,e2]
   refine (fixed_fits w N K (by omega) (by omega) hN hl).mono ?_
   rintro e w' ⟨rfl,rfl⟩
   exact ⟨_,rfl,Own.laid (fixB_length N K).symm (by unfold maxLen; omega) rfl,(Below.refl _ _).alloc (Nat.le_refl _) _⟩
theorem number_arg (w : World) (v : Value) (k : Int) (h : k < 1 ∨ 8 < k) : Calls Tryz.prog 150 #[v,.int .i64 k] w fun e w' => e = .returned (.tuple #[.int .u64 0,.int .i64 1]) ∧ w = w':=by
 go_enter Tryz.func150,Tryz.ntmps150
 go_wp2_with (go_at_call 149; refine (mayBe_no _ _ h).mono ?_; rintro e w' ⟨rfl,rfl⟩)
 go_ret2
 exact ⟨rfl,rfl⟩
theorem number_short (w : World) (a : Option Addr) (n cap : Nat) (k : Int) (h1 : 1 ≤ k) (h2 : k ≤ 8) (hn : (n : Int) < k) : Calls Tryz.prog 150 #[.slice a n cap,.int .i64 k] w fun e w' => e = .returned (.tuple #[.int .u64 0,.int .i64 10]) ∧ w = w':=by
 go_enter Tryz.func150,Tryz.ntmps150
 go_wp2_with (go_at_call 149; refine (mayBe_yes _ _ h1 h2).mono ?_; rintro e w' ⟨rfl,rfl⟩)
 go_ret2
 exact ⟨rfl,rfl⟩
theorem number_fits (w : World) (b off cap k : Nat) (xs : List Int) (hy : Byt xs) (h1 : 1 ≤ k) (h2 : k ≤ 8) (hn : k ≤ xs.length) (hc : ∀ i,i < xs.length → w.cell? ⟨b,off + i,none⟩ = some (.int .u8 (xs.getD i 0))) :
  Calls Tryz.prog 150 #[.slice (some ⟨b,off,none⟩) xs.length cap,.int .i64 k] w fun e w' => e = .returned (.tuple #[.int .u64 (valB (xs.take k)),.int .i64 0]) ∧ w = w':=by
 have hn' : ¬ (xs.length : Int) < k:=by omega
 go_enter Tryz.func150,Tryz.ntmps150
 go_wp2_with (go_at_call 149; refine (mayBe_yes _ _ (by omega) (by omega)).mono ?_; rintro e w' ⟨rfl,rfl⟩)
 go_loop [6,16] (fun s t => ∃ i : Nat,i ≤ k ∧ t = .int .i64 i ∧ s = .int .u64 (valB (xs.take i))) (fun _ t => k - (intOf t).toNat)
 case atStart => exact ⟨0,Nat.zero_le _,rfl,rfl⟩
 case round =>
  obtain ⟨i,hi,rfl,rfl⟩:=hrel
  by_cases hlt : i < k
  ·have hci:=hc i (by omega)
   have hil : (i : Int) < xs.length:=by omega
   obtain ⟨hb0,hb1⟩:=hy.getD i
   have hV:=valB_take_lt xs hy i (by omega)
   have hs:=valB_succ xs i (by omega)
   generalize xs.getD i 0 = c at *
   generalize valB (xs.take i) = V at *
   have HS : Hid (bits .or .u64 ((V : Int) * 256) c = ((valB (xs.take (i + 1)) : Nat) : Int)):=by
    show _ = _
    rw [hs]; exact or_step V c hV hb0 hb1
   clear hc hs
   go_wp2
   go_round
   case rel => exact ⟨i + 1,by omega,by go_num,by rw [HS.out]⟩
   case measure => simp [intOf]; omega
  ·obtain rfl : i = k:=by omega
   go_wp2
   go_ret2
   exact ⟨rfl,rfl⟩
theorem number_any (w : World) (v : Value) (xs : List Int) (k : Int) (h : Rd w v xs) (hy : Byt xs) : Calls Tryz.prog 150 #[v,.int .i64 k] w fun e w' => e = .returned (.tuple #[.int .u64 (numV xs k),.int .i64 (numE xs k)]) ∧ w = w':=by
 by_cases hk : k < 1 ∨ 8 < k
 ·have e1 : numE xs k = 1:=if_pos hk
  have e2 : numV xs k = 0:=by unfold numV; rw [e1]; rfl
  rw [e1,e2]
  exact number_arg w v k hk
 ·obtain ⟨a,cap,rfl,hcap,hm,_,hne⟩:=h
  by_cases hs : (xs.length : Int) < k
  ·have e1 : numE xs k = 10:=by unfold numE; rw [if_neg hk,if_pos hs]
   have e2 : numV xs k = 0:=by unfold numV; rw [e1]; rfl
   rw [e1,e2]
   exact number_short w a _ cap k (by omega) (by omega) hs
  ·have e1 : numE xs k = 0:=by unfold numE; rw [if_neg hk,if_neg hs]
   have e2 : numV xs k = valB (xs.take k.toNat):=by unfold numV; rw [e1]; rfl
   rw [e1,e2]
   obtain ⟨K,rfl⟩:=Int.eq_ofNat_of_zero_le (show 0 ≤ k by omega)
   obtain ⟨b,off,rfl,_,hc⟩:=hne (by intro e; subst e; simp at hs; omega)
   exact number_fits w b off cap K xs hy (by omega) (by omega) (by omega) hc
end Go.Proofs.YtgajjphjkbnaeaaGreat
